/-
  The texts CmHeap, CmRows, CmMap.
-/
import Derived.Test.YtjfanbemihheiaaDoorProg
import Derived.WalkKit
import Derived.Deep.AppendLies
import Derived.Deep.AppendSrc
import Derived.Lib.AppendStr
import Derived.Maps.AppendAt
import Derived.Laws.AppendOwnNone
import Derived.Laws.BitsAllLaws
import Derived.Deep.Light
import Derived.BigQuiet
import Derived.Lib.SmallJoins
import Derived.Maps.OwnSet
import Derived.Maps.RangeWalk
import Derived.Sort.KeysCollected
import Derived.Sort.OwnSorted

/-
  For all layers: rows of bytes and of texts in memory, what append comes to, slices that came in as plain lists.
-/
namespace Go.Proofs.YtjfanbemihheiaaDoor.Cm
open Go.RowKit
set_option linter.unusedVariables false

theorem info8 : (Tryd.prog.info? 5).map (fun i => (i.zero, i.size, i.bytes)) = some (some (.int .u8 0), 1, 1) := by kernel_rfl
theorem infoStr : (Tryd.prog.info? 9).map (fun i => (i.zero, i.size, i.bytes)) = some (some (.string ⟨#[]⟩), 1, 16) := by kernel_rfl
def B8 (c : UInt8) : Value := .int .u8 c.toNat
theorem hid_rfl {α : Type} {a : α} : Hid (a = a) := rfl
theorem getD_lt {α : Type} (l : List α) (k : Nat) (d : α) (h : k < l.length) : l.getD k d = l[k] := by simp [h]
theorem str_back (s : ByteArray) : (⟨s.data.toList.toArray⟩ : ByteArray) = s := by cases s; simp
theorem own_keep {w w' : World} {B : Nat} {e : TypeId} {n : Nat} {v : Value} {xs : List Value} (h : w.ownsRow B e 1 v n xs) (hk : ∀ k, v.ownBlock = some k → w'.heap[k]? = w.heap[k]?) : w'.ownsRow B e 1 v n xs := by
  refine ⟨h.1, ?_⟩
  rcases h.2 with h | ⟨g, cap, cur, rfl, h1, hg, h2⟩
  · exact .inl h
  · exact .inr ⟨g, cap, cur, rfl, h1, (hk g rfl).trans hg, h2⟩
theorem run_append_str_at {P : Program} (w : World) (base : Nat) (t u ty e : TypeId) (i : TypeInfo) (ht : P.underlying t = some (.slice e)) (hu : P.underlying u = some .string) (hi : P.info? e = some i) (hz : i.zero = some (.int .u8 0))
    (hsize : i.size = 1) (hby : i.bytes = 1) (v : Value) (n : Nat) (xs : List Value) (hown : w.ownsRow base e 1 v n xs) (s : ByteArray)
    (h63 : n + s.size ≤ maxLen) (hbytes : n + s.size ≤ 140737488355328) (hbase : base ≤ w.heap.size) :
    ∃ v' w', (Builtin.append_ #[t, u] ty #[v, .string s]).run P w = .ok v' w' ∧ w'.ownsRow base e 1 v' (n + s.size) (xs ++ Lib.strCells s) ∧ w.grownBy w' v.ownBlock ∧
      (v'.ownBlock = v.ownBlock ∨ v'.ownBlock = some w.heap.size) := by
  obtain ⟨v', w', hr, h2, h3, h4⟩ := Lib.run_append_own_string (P := P) w base t u ty e i ht hu hi hz hsize hby v n xs hown s h63 hbytes hbase
  refine ⟨v', w', hr, h2, h3, ?_⟩
  unfold maxLen at h63
  rcases hown.2 with ⟨rfl, rfl⟩ | ⟨g, cap, cur, rfl, hbg, hg, hnc, hcm, hcs, htake⟩
  · by_cases hm : s.size = 0
    · rw [h4.2 ⟨rfl, hm⟩]; exact .inl rfl
    · have hq := run_append_nil_string (P := P) w t u ty e i (.int .u8 0) ht hu hi hz s (by omega) (by omega) (by rw [hby]; omega)
      rw [hr] at hq
      injection hq with hq _
      rw [hq]; exact .inr rfl
  · by_cases hroom : n + s.size ≤ cap
    · have hcs' : cur.size = cap := by simpa using hcs
      have hq := Lib.run_append_room_string (P := P) w t u ty e i ht hu hi hsize g n cap cur hg s hroom (by omega)
      rw [hr] at hq
      injection hq with hq _
      rw [hq]; exact .inl rfl
    · have hxl : xs.length = n := by simpa using hown.1
      have hq := Lib.run_append_grow_string (P := P) w t u ty e i (.int .u8 0) ht hu hi hz ⟨g, 0, none⟩ n cap xs (by rw [hsize]; simpa using hxl) (hown.cells (g := g) rfl) s (by omega) (by omega) (by rw [hby]; exact growslice_fits (by omega) (by omega))
      rw [hr] at hq
      injection hq with hq _
      rw [hq]; exact .inr rfl
theorem wpList_append_str_at {P : Program} (w : World) {ops : Array Oper} {rest : List Oper} {o : Oper} {a : Act} {Q : Exit → Act → World → Prop} (hgd : o.guard = none) (sl x : Operand) (t u : TypeId)
    (ho : o.op = .call { callee := .builtin .append, args := #[sl, x], argTypes := #[t, u] })
    (base : Nat) (e : TypeId) (i : TypeInfo) (ht : P.underlying t = some (.slice e)) (hu : P.underlying u = some .string) (hi : P.info? e = some i) (hz : i.zero = some (.int .u8 0))
    (hsize : i.size = 1) (hby : i.bytes = 1) (v : Value) (n : Nat) (xs : List Value) (hs : a.eval sl = v) (hown : w.ownsRow base e 1 v n xs) (s : ByteArray) (hx : a.eval x = .string s)
    (h63 : n + s.size ≤ maxLen) (hbytes : n + s.size ≤ 140737488355328) (hbase : base ≤ w.heap.size)
    (h : ∀ v' w', w'.ownsRow base e 1 v' (n + s.size) (xs ++ Lib.strCells s) → w.grownBy w' v.ownBlock → (v'.ownBlock = v.ownBlock ∨ v'.ownBlock = some w.heap.size) → wpList P ops Q rest (a.put o.dst v') w') : wpList P ops Q (o :: rest) a w := by
  refine wpList_plain hgd fun K hK => ?_
  obtain ⟨v', w', hr, h2, h3, h4⟩ := run_append_str_at (P := P) w base t u o.type e i ht hu hi hz hsize hby v n xs hown s h63 hbytes hbase
  unfold Oper.wp execOp
  simp only [ho, resolve, invoke, builtin, Sem.run_bind, Sem.run_pure, Result.andThen_ok, List.map_toArray, List.map_cons, List.map_nil, hs, hx, hr]
  exact hK _ _ (h v' w' h2 h3 h4)
/-- The values lie in memory from that address on. -/
def CellsAt (w : World) (ao : Option Addr) (vs : List Value) : Prop :=
  vs = [] ∨ ∃ b off, ao = some ⟨b, off, none⟩ ∧ b < w.heap.size ∧ ∀ j, j < vs.length → w.cell? ⟨b, off + j, none⟩ = vs[j]?
theorem CellsAt.keep {w w' : World} {ao : Option Addr} {vs : List Value} (h : CellsAt w ao vs) (hb : ∀ b, b < w.heap.size → w'.heap[b]? = w.heap[b]?) (hs : w.heap.size ≤ w'.heap.size) : CellsAt w' ao vs := by
  rcases h with h | ⟨b, off, rfl, hlt, hc⟩
  · exact .inl h
  · refine .inr ⟨b, off, rfl, by omega, fun j hj => ?_⟩
    rw [World.cell?_of_block (hb b hlt)]
    exact hc j hj
theorem CellsAt.below {w w' : World} {ao : Option Addr} {vs : List Value} (h : CellsAt w ao vs) (hb : Below w.heap.size w w') : CellsAt w' ao vs := h.keep hb.block hb.size
theorem CellsAt.alloc {w : World} {ao : Option Addr} {vs : List Value} (h : CellsAt w ao vs) (o : Obj) : CellsAt (w.alloc o) ao vs := h.keep (fun b hb => Below.heap_alloc _ _ _ hb) (by simp)
theorem CellsAt.drew {w : World} {ao : Option Addr} {vs : List Value} {n : Nat} (h : CellsAt w ao vs) : CellsAt (w.drewN n) ao vs := h
def total (xs : List ByteArray) : Nat := (xs.map ByteArray.size).sum
def strVals (l : List ByteArray) : List Value := l.map Value.string
section
variable {P : Program} (w : World)
/-- append of a slice that came in (nil or not) to an owned row. -/
theorem wpList_append_any {ops : Array Oper} {rest : List Oper} {o : Oper} {a : Act} {Q : Exit → Act → World → Prop} (hgd : o.guard = none) (s x : Operand) (t : TypeId)
    (ho : o.op = .call { callee := .builtin .append, args := #[s, x], argTypes := #[t, t] })
    (base : Nat) (e : TypeId) (i : TypeInfo) (z : Value) (bytes : Nat) (ht : P.underlying t = some (.slice e)) (hi : P.info? e = some i) (hz : i.zero = some z)
    (hsize : i.size = 1) (hby : i.bytes = bytes) (hzs : z.cells.size = 1)
    (v : Value) (n : Nat) (xs : List Value) (hs : a.eval s = v) (hown : w.ownsRow base e 1 v n xs)
    (ao : Option Addr) (m c : Nat) (news : List Value) (hx : a.eval x = .slice ao m c) (hnil : ao = none → c = 0) (hl : news.length = m) (hnews : CellsAt w ao news) (h1 : ∀ u ∈ news, u.oneCell' = true)
    (h63 : n + m ≤ maxLen) (hbytes : (n + m) * bytes ≤ 140737488355328) (hbase : base ≤ w.heap.size)
    (h : ∀ v' w', w'.ownsRow base e 1 v' (n + m) (xs ++ news) → w.grownBy w' v.ownBlock → (v'.ownBlock = v.ownBlock ∨ v'.ownBlock = some w.heap.size) → wpList P ops Q rest (a.put o.dst v') w') :
    wpList P ops Q (o :: rest) a w := by
  cases ao with
  | none =>
    have hn : news = [] := by
      rcases hnews with h | ⟨b, off, h, _⟩
      · exact h
      · cases h
    subst hn
    have hm : m = 0 := by simpa using hl.symm
    have hc := hnil rfl
    subst hm hc
    exact wpList_append_own_none hgd s x t ho base e i 1 ht hi v n xs hs hown hx (h v w (by simpa using hown) ⟨rfl, rfl, rfl, Nat.le_refl _, fun _ _ _ => rfl⟩ (.inl rfl))
  | some ad =>
    refine wpList_append_own_at w hgd s x t ho base e i z 1 bytes ht hi hz hsize hby hzs (by decide) v n xs hs hown ad m c news hx (by omega) (fun j u hu => ?_) h1 h63 hbytes hbase (fun v' w' a1 a2 _ a4 => h v' w' a1 a2 a4)
    rcases hnews with hn | ⟨b, off, he, _, hcell⟩
    · rw [hn] at hu; simp at hu
    · simp only [Option.some.injEq] at he
      subst he
      have hj : j < news.length := (List.getElem?_eq_some_iff.1 hu).1
      rw [Go.WideShapes.add_plain, hcell j hj, hu]
end
theorem own_string {w : World} {base : Nat} {v : Value} {bs : List UInt8} (h : w.ownsRow base 5 1 v bs.length (bs.map B8)) :
    (convert 106 9 v).run Tryd.prog w = .ok (.string ⟨bs.toArray⟩) w := by
  rcases h.2 with ⟨rfl, hn⟩ | ⟨g, cap, cur, rfl, _, hg, _, _, _, htake⟩
  · have : bs = [] := List.eq_nil_of_length_eq_zero hn
    subst this
    rw [run_convert_bytes_string w 106 9 5 none 0 0 Tryd.underlying106 Tryd.underlying5 Tryd.underlying9]
    simp [Conv.bytesToString]
    rfl
  · refine run_convert_bytes_back w 106 9 5 ⟨g, 0, none⟩ cap bs Tryd.underlying106 Tryd.underlying5 Tryd.underlying9 fun j hj => ?_
    have := h.cells (g := g) rfl j (B8 bs[j]) (by simp [hj])
    exact this
/-- A string's bytes behind an owned row, in a loop: what it comes to. -/
theorem own_text_below {w wr w5 w6 : World} {B : Nat} {v : Value} {n : Nat} {xs : List Value} (hB : Below B w wr) (hBs : B ≤ w.heap.size) (hb : Below wr.heap.size wr w5) (hown : wr.ownsRow B 5 1 v n xs) (hg : w5.grownBy w6 v.ownBlock) : Below B w w6 := by
  have h1 := hB.size
  have h2 := hb.size
  exact (hB.trans (hb.mono (by omega))).grown hg (by omega) (fun k hk => (hown.lt k hk).1)
theorem own_keep_below {wr w5 : World} {B : Nat} {v : Value} {n : Nat} {xs : List Value} (hown : wr.ownsRow B 5 1 v n xs) (hb : Below wr.heap.size wr w5) : w5.ownsRow B 5 1 v n xs :=
  own_keep hown fun k hk => hb.block k (hown.lt k hk).2
theorem own_bytes {w : World} {B : Nat} {v : Value} {bs x : List UInt8} {X : ByteArray} (hX : X.data.toList = x) (h : w.ownsRow B 5 1 v (bs.length + X.size) (bs.map B8 ++ Lib.strCells X)) : w.ownsRow B 5 1 v (bs ++ x).length ((bs ++ x).map B8) := by
  rw [List.length_append, List.map_append, ← hX, ← Lib.size_eq]; exact h

end Go.Proofs.YtjfanbemihheiaaDoor.Cm

/-
  For all layers: rows of structs of some cells each: a plain list, its cells, append, an owned row as a slice.
-/
namespace Go.Proofs.YtjfanbemihheiaaDoor.Cm
open Go.RowKit
set_option linter.unusedVariables false

/-- How an element lies in memory: sz cells. -/
structure Shape (α : Type) where
  sz : Nat
  enc : α → List Value
  pos : 0 < sz
  len : ∀ a, (enc a).length = sz
  one : ∀ a, ∀ u ∈ enc a, u.oneCell' = true
section
variable {α : Type} (F : Shape α)
def Shape.vals (xs : List α) : List Value := xs.flatMap F.enc
theorem Shape.vals_nil : F.vals [] = [] := rfl
theorem Shape.vals_cons (x : α) (xs : List α) : F.vals (x :: xs) = F.enc x ++ F.vals xs := rfl
theorem Shape.vals_append (a b : List α) : F.vals (a ++ b) = F.vals a ++ F.vals b := by simp [Shape.vals]
theorem Shape.vals_length (xs : List α) : (F.vals xs).length = xs.length * F.sz := by
  induction xs with
  | nil => simp [Shape.vals]
  | cons x xs ih => rw [Shape.vals_cons, List.length_append, ih, F.len, List.length_cons, Nat.add_mul]; omega
theorem Shape.vals_one (xs : List α) : ∀ u ∈ F.vals xs, u.oneCell' = true := by
  intro u hu
  obtain ⟨p, _, hp⟩ := List.mem_flatMap.1 hu
  exact F.one p u hp
theorem Shape.vals_get (xs : List α) (i : Nat) (h : i < xs.length) (j : Nat) (hj : j < F.sz) : (F.vals xs)[i * F.sz + j]? = (F.enc xs[i])[j]? := by
  induction xs generalizing i with
  | nil => simp at h
  | cons x xs ih =>
    rw [Shape.vals_cons]
    cases i with
    | zero => rw [List.getElem?_append_left (by rw [F.len]; omega)]; simp
    | succ i =>
      have h' : i < xs.length := by simpa using h
      have e : (i + 1) * F.sz + j = F.sz + (i * F.sz + j) := by rw [Nat.add_mul]; omega
      rw [e, List.getElem?_append_right (by rw [F.len]; omega), F.len, Nat.add_sub_cancel_left, ih i h']
      rfl
/-- A slice whose elements are xs. -/
def ElemsAt (w : World) (ao : Option Addr) (xs : List α) : Prop :=
  xs = [] ∨ ∃ b off, ao = some ⟨b, off, none⟩ ∧ b < w.heap.size ∧ ∀ i (h : i < xs.length) j u, (F.enc xs[i])[j]? = some u → w.cell? ⟨b, off + i * F.sz + j, none⟩ = some u
variable {F} {w w' : World} {ao : Option Addr} {xs : List α}
theorem ElemsAt.keep (h : ElemsAt F w ao xs) (hk : ∀ a, ao = some a → a.block < w.heap.size → w'.heap[a.block]? = w.heap[a.block]?) (hs : w.heap.size ≤ w'.heap.size) : ElemsAt F w' ao xs := by
  rcases h with h | ⟨b, off, rfl, hlt, hc⟩
  · exact .inl h
  · exact .inr ⟨b, off, rfl, by omega, fun i hi j u hu => by
      have hq : ∀ o, w'.cell? ⟨b, o, none⟩ = w.cell? ⟨b, o, none⟩ := fun o => World.cell?_of_block (show w'.heap[b]? = w.heap[b]? from hk ⟨b, off, none⟩ rfl hlt)
      rw [hq]; exact hc i hi j u hu⟩
theorem ElemsAt.below (h : ElemsAt F w ao xs) {B : Nat} (hb : Below B w w') (hB : ∀ a, ao = some a → a.block < B) : ElemsAt F w' ao xs :=
  h.keep (fun a e _ => hb.block _ (hB a e)) hb.size
theorem ElemsAt.later (h : ElemsAt F w ao xs) (hb : Below w.heap.size w w') : ElemsAt F w' ao xs := h.keep (fun a e hl => hb.block _ hl) hb.size
theorem ElemsAt.vals (h : ElemsAt F w ao xs) {ad : Addr} (e : ao = some ad) : ∀ j u, (F.vals xs)[j]? = some u → w.cell? (ad.add j) = some u := by
  intro j u hu
  rcases h with rfl | ⟨b, off, he, hlt, hc⟩
  · simp [Shape.vals] at hu
  · rw [e] at he
    cases he
    have hj : j < (F.vals xs).length := (List.getElem?_eq_some_iff.1 hu).1
    rw [Shape.vals_length] at hj
    have hp := F.pos
    have hi : j / F.sz < xs.length := Nat.div_lt_of_lt_mul (by rw [Nat.mul_comm]; exact hj)
    have hm : j % F.sz < F.sz := Nat.mod_lt _ hp
    have ej : j / F.sz * F.sz + j % F.sz = j := Nat.div_add_mod' j F.sz
    have := F.vals_get xs (j / F.sz) hi (j % F.sz) hm
    rw [ej, hu] at this
    have hcc := hc (j / F.sz) hi (j % F.sz) u this.symm
    rw [Go.WideShapes.add_plain]
    rw [Nat.add_assoc, ej] at hcc
    exact hcc
/-- An owned row as a slice. -/
theorem own_rows {B : Nat} {t : TypeId} {v : Value} (h : w.ownsRow B t F.sz v xs.length (F.vals xs)) :
    ∃ ao cap, v = .slice ao xs.length cap ∧ (ao = none → cap = 0) ∧ (∀ a, ao = some a → v.ownBlock = some a.block ∧ B ≤ a.block ∧ a.block < w.heap.size) ∧ xs.length ≤ cap ∧ ElemsAt F w ao xs := by
  rcases h.2 with ⟨rfl, hn⟩ | ⟨g, cap, cur, rfl, hB, hg, hle, _⟩
  · have : xs = [] := List.eq_nil_of_length_eq_zero hn
    subst this
    exact ⟨none, 0, rfl, fun _ => rfl, fun a h => (by cases h), Nat.le_refl _, .inl rfl⟩
  · refine ⟨some ⟨g, 0, none⟩, cap, rfl, fun h => (by cases h), fun a ha => (by cases ha; exact ⟨rfl, hB, lt_of_block hg⟩), hle, ?_⟩
    refine .inr ⟨g, 0, rfl, lt_of_block hg, fun i hi j u hu => ?_⟩
    have hj : j < F.sz := by rw [← F.len xs[i]]; exact (List.getElem?_eq_some_iff.1 hu).1
    have := h.cells (g := g) rfl (i * F.sz + j) u (by rw [F.vals_get xs i hi j hj]; exact hu)
    rw [Go.WideShapes.add_plain, ← Nat.add_assoc] at this
    exact this
theorem rows_keep {B n : Nat} {t : TypeId} {v : Value} {k : Nat} {vs : List Value} (h : w.ownsRow B t k v n vs) (hk : ∀ j, v.ownBlock = some j → w'.heap[j]? = w.heap[j]?) : w'.ownsRow B t k v n vs := by
  refine ⟨h.1, ?_⟩
  rcases h.2 with h | ⟨g, cap, cur, rfl, h1, hg, h2⟩
  · exact .inl h
  · exact .inr ⟨g, cap, cur, rfl, h1, (hk g rfl).trans hg, h2⟩
/-- A row and a block of another kind are two. -/
theorem rows_far {B n g k : Nat} {t : TypeId} {v : Value} {vs : List Value} {o : Obj} (h : w.ownsRow B t k v n vs) (hg : w.heap[g]? = some o) (ho : ∀ cs, o ≠ .cells cs t (0, 0)) : v.ownBlock ≠ some g := by
  intro e1
  rcases h.2 with ⟨rfl, _⟩ | ⟨j, cap, cur, rfl, _, hk, _⟩
  · simp [Value.ownBlock] at e1
  · simp [Value.ownBlock] at e1
    subst e1
    rw [hg] at hk
    exact ho _ (by simpa using hk)
/-- append of a slice (nil or not) to an owned row of such elements. -/
theorem wpList_append_rows {P : Program} (w : World) {ops : Array Oper} {rest : List Oper} {o : Oper} {a : Act} {Q : Exit → Act → World → Prop} (hgd : o.guard = none) (s x : Operand) (t : TypeId)
    (ho : o.op = .call { callee := .builtin .append, args := #[s, x], argTypes := #[t, t] })
    (base : Nat) (e : TypeId) (i : TypeInfo) (z : Value) (bytes : Nat) (ht : P.underlying t = some (.slice e)) (hi : P.info? e = some i) (hz : i.zero = some z)
    (hsize : i.size = F.sz) (hby : i.bytes = bytes) (hzs : z.cells.size = F.sz)
    (v : Value) (n : Nat) (ps : List α) (hs : a.eval s = v) (hown : w.ownsRow base e F.sz v n (F.vals ps))
    (ao : Option Addr) (m c : Nat) (qs : List α) (hx : a.eval x = .slice ao m c) (hnil : ao = none → c = 0) (hl : qs.length = m) (hnews : ElemsAt F w ao qs)
    (h63 : n + m ≤ maxLen) (hbytes : (n + m) * bytes ≤ 140737488355328) (hbase : base ≤ w.heap.size)
    (h : ∀ v' w', w'.ownsRow base e F.sz v' (n + m) (F.vals (ps ++ qs)) → w.grownBy w' v.ownBlock → (v'.ownBlock = v.ownBlock ∨ v'.ownBlock = some w.heap.size) → wpList P ops Q rest (a.put o.dst v') w') :
    wpList P ops Q (o :: rest) a w := by
  cases ao with
  | none =>
    have hn : qs = [] := by
      rcases hnews with h | ⟨b, off, h, _⟩
      · exact h
      · cases h
    subst hn
    have hm : m = 0 := by simpa using hl.symm
    have hc := hnil rfl
    subst hm hc
    exact wpList_append_own_none hgd s x t ho base e i F.sz ht hi v n _ hs hown hx (h v w (by simpa using hown) ⟨rfl, rfl, rfl, Nat.le_refl _, fun _ _ _ => rfl⟩ (.inl rfl))
  | some ad =>
    exact wpList_append_own_at w hgd s x t ho base e i z F.sz bytes ht hi hz hsize hby hzs F.pos v n (F.vals ps) hs hown ad m c (F.vals qs) hx (by rw [F.vals_length, hl]) (hnews.vals rfl) (F.vals_one qs) h63 hbytes hbase (fun v' w' a1 a2 _ a4 => h v' w' (by rw [F.vals_append]; exact a1) a2 a4)
end
end Go.Proofs.YtjfanbemihheiaaDoor.Cm

/-
  For all layers: a map in memory as a function from keys to values; what changes in memory when a part of it alone may be written.
-/
namespace Go.Proofs.YtjfanbemihheiaaDoor.Cm
open Go.RowKit Go.Maps Go.ChangeMaps Go.MapKept
open Go.WideElems (Fit rd rg pl rd_val elemAt)
set_option linter.unusedVariables false

/-- Whatever lies outside S, and was there, is as it was. -/
structure Chg (S : Nat → Prop) (w w' : World) : Prop where
  os : w'.os = w.os
  tape : w'.tape = w.tape
  output : w'.output = w.output
  size : w.heap.size ≤ w'.heap.size
  block : ∀ k, k < w.heap.size → ¬ S k → w'.heap[k]? = w.heap[k]?
/-- S, and whatever is made from w on. -/
def New (S : Nat → Prop) (w : World) (k : Nat) : Prop := S k ∨ w.heap.size ≤ k
theorem Chg.refl (S : Nat → Prop) (w : World) : Chg S w w := ⟨rfl, rfl, rfl, Nat.le_refl _, fun _ _ _ => rfl⟩
theorem Chg.mono {S T : Nat → Prop} {w w' : World} (h : Chg S w w') (hs : ∀ k, k < w.heap.size → S k → T k) : Chg T w w' :=
  ⟨h.os, h.tape, h.output, h.size, fun k hk hn => h.block k hk fun e => hn (hs k hk e)⟩
theorem Chg.trans {S : Nat → Prop} {w w1 w2 : World} (h : Chg S w w1) (k : Chg (New S w) w1 w2) : Chg S w w2 := by
  have hs := h.size
  refine ⟨k.os.trans h.os, k.tape.trans h.tape, k.output.trans h.output, Nat.le_trans hs k.size, fun i hi hn => ?_⟩
  refine (k.block i (by omega) ?_).trans (h.block i hi hn)
  rintro (e | e)
  · exact hn e
  · omega
theorem Chg.then {S : Nat → Prop} {w w1 w2 : World} (h : Chg S w w1) (k : Chg S w1 w2) : Chg S w w2 := h.trans (k.mono fun _ _ e => .inl e)
theorem Chg.of_below {S : Nat → Prop} {w w' : World} (h : Below w.heap.size w w') : Chg S w w' := ⟨h.os, h.tape, h.output, h.size, fun k hk _ => h.block k hk⟩
theorem Chg.below {S : Nat → Prop} {B : Nat} {w w' : World} (h : Chg S w w') (hS : ∀ k, S k → B ≤ k) (hB : B ≤ w.heap.size) : Below B w w' :=
  ⟨h.os, h.tape, h.output, h.size, fun k hk => h.block k (by omega) fun e => by have := hS k e; omega⟩
theorem Chg.alloc (S : Nat → Prop) (w : World) (o : Obj) : Chg S w (w.alloc o) := ⟨rfl, rfl, rfl, by simp, fun k hk _ => Below.heap_alloc _ _ _ hk⟩
theorem Chg.drew (S : Nat → Prop) (w : World) (n : Nat) : Chg S w (w.drewN n) := ⟨rfl, rfl, rfl, Nat.le_refl _, fun _ _ _ => rfl⟩
theorem Chg.set {S : Nat → Prop} (w : World) (b i : Nat) (v : Value) (hb : S b) : Chg S w (w.setCell ⟨b, i, none⟩ v) :=
  ⟨rfl, rfl, rfl, by simp [World.setCell], fun k hk hn => Below.heap_setCell _ _ _ _ (by rintro rfl; exact hn hb)⟩
theorem Chg.grown {S : Nat → Prop} {w w' : World} {r : Option Nat} (h : w.grownBy w' r) (hr : ∀ k, r = some k → S k) : Chg S w w' :=
  ⟨h.os, h.tape, h.output, h.size, fun k hk hn => h.block k hk fun e => hn (hr k e.symm)⟩
theorem New.of {S : Nat → Prop} {w : World} {k : Nat} (h : S k) : New S w k := .inl h
theorem New.ge {S : Nat → Prop} {w : World} {k : Nat} (h : w.heap.size ≤ k) : New S w k := .inr h
theorem New.new {S : Nat → Prop} {w w1 : World} (h : w.heap.size ≤ w1.heap.size) {k : Nat} (e : New (New S w) w1 k) : New S w k := by
  rcases e with e | e
  · exact e
  · exact .inr (by omega)

/-- A box of two cells. -/
theorem box2 {w : World} {c : Nat} {x y : Value} {t : TypeId} (h : w.heap[c]? = some (.cells #[x, y] t (0, 0))) :
    w.cell? ⟨c, 0, none⟩ = some x ∧ w.cell? ⟨c, 1, none⟩ = some y ∧ w.frozen? ⟨c, 0, none⟩ = false ∧ w.frozen? ⟨c, 1, none⟩ = false := by
  refine ⟨?_, ?_, by simp [World.frozen?, h], by simp [World.frozen?, h]⟩ <;> rw [Joins.cell_of_block h] <;> rfl
theorem box2_set {w : World} {c : Nat} {x y : Value} {t : TypeId} (h : w.heap[c]? = some (.cells #[x, y] t (0, 0))) (a b : Value) :
    (w.setCell ⟨c, 0, none⟩ a).cell? ⟨c, 0, none⟩ = some a ∧ ((w.setCell ⟨c, 0, none⟩ a).setCell ⟨c, 1, none⟩ b).cell? ⟨c, 1, none⟩ = some b := by
  have h1 := Joins.block_setCell h (i := 0) a
  have h2 := Joins.block_setCell h1 (i := 1) b
  rw [Joins.cell_of_block h1, Joins.cell_of_block h2]
  simp
/-- A row and a block of another type are two. -/
theorem own_far {w : World} {B n g : Nat} {e : TypeId} {v : Value} {xs : List Value} {cs : Array Value} {t : TypeId} {fr : Nat × Nat} (h : w.ownsRow B e 1 v n xs) (hg : w.heap[g]? = some (.cells cs t fr)) (ht : t ≠ e) : v.ownBlock ≠ some g := by
  intro e1
  rcases h.2 with ⟨rfl, _⟩ | ⟨k, cap, cur, rfl, _, hk, _⟩
  · simp [Value.ownBlock] at e1
  · simp [Value.ownBlock] at e1
    subst e1
    rw [hg] at hk
    simp at hk
    exact ht hk.2.1

/-- An element reads as itself. -/
def rv (v : Value) : Option (DataW Value × List MemPlace) := some (.held v, [])
def ofHeld : DataW Value → Option Value
  | .held v => some v
  | _ => none
def look (D : DataW Value) (k : Lit) : Option Value := if Maps.has D k then ofHeld (D.atKey k .nil) else none
def upd {β : Type} (V : Lit → β) (k : Lit) (x : β) (j : Lit) : β := if j.sameKey k then x else V j
theorem upd_same {β : Type} (V : Lit → β) {k : Lit} (hk : WideAt.IsKeyLit k) (x : β) : upd V k x k = x := by unfold upd; rw [if_pos (WideAt.sameKey_self hk)]
theorem upd_other {β : Type} (V : Lit → β) {k j : Lit} (h : j ≠ k) (x : β) : upd V k x j = V j := by unfold upd; rw [if_neg (by rw [Maps.sameKey_ne h]; simp)]
theorem look_put {D : DataW Value} (hD : IsMap D) {k : Lit} (hk : WideAt.IsKeyLit k) (v : Value) (j : Lit) : look (D.put k (.held v)) j = upd (look D) k (some v) j := by
  by_cases e : j = k
  · subst e
    rw [upd_same _ hk]
    unfold look
    rw [has_put_same hD hk, atKey_put_same hD hk]
    simp [ofHeld]
  · rw [upd_other _ e]
    unfold look
    rw [has_put_other e, atKey_put_other e]
theorem look_del {D : DataW Value} {k : Lit} (hk : WideAt.IsKeyLit k) (j : Lit) : look (D.del k) j = upd (look D) k none j := by
  by_cases e : j = k
  · subst e
    rw [upd_same _ hk]
    unfold look
    rw [has_del_same]
    simp
  · rw [upd_other _ e]
    unfold look
    rw [has_del_other e, atKey_del_other e]

/-- Block b is a map of at most n entries whose values are V's. -/
def MapAt (w : World) (P : Program) (k : TypeId) (b n : Nat) (V : Lit → Option Value) : Prop :=
  ∃ D : DataW Value, w.ownsMap P k rv b n D ∧ ∀ kl, look D kl = V kl
section
variable {P : Program} {k t e : TypeId} {w w' : World} {b n : Nat} {V : Lit → Option Value}
theorem MapAt.lt (h : MapAt w P k b n V) : b < w.heap.size := by
  obtain ⟨D, h, _⟩ := h
  exact h.lt
theorem MapAt.keep (h : MapAt w P k b n V) (hb : w'.heap[b]? = w.heap[b]?) : MapAt w' P k b n V := by
  obtain ⟨D, ⟨es, clock, hq, F, hs, hD⟩, hV⟩ := h
  exact ⟨D, ⟨es, clock, hb.trans hq, F, hs, hD⟩, hV⟩
theorem MapAt.no_cells (h : MapAt w P k b n V) {cs : Array Value} {ty : TypeId} {fr : Nat × Nat} : w.heap[b]? ≠ some (.cells cs ty fr) := by
  obtain ⟨D, ⟨es, clock, hb, _⟩, _⟩ := h
  rw [hb]; simp
theorem MapAt.made (w : World) (P : Program) (k : TypeId) : MapAt (w.alloc (.map #[] 0)) P k w.heap.size 0 (fun _ => none) :=
  ⟨.map [], World.ownsMap_made w P k rv, fun kl => rfl⟩
theorem MapAt.look_cases (h : MapAt w P k b n V) (K : Keyed P k) (ht : P.underlying t = some (.map k e)) {z : Value} (hz : (zeroValue e).run P w = .ok z w) {key : Value} {kl : Lit} (hkey : keyOf P k key = some kl) (c : Bool) :
    (Instr.lookup t (.map (some b)) key c).run P w = .ok (if c then .tuple #[(V kl).getD z, .bool (V kl).isSome] else (V kl).getD z) w := by
  obtain ⟨D, ⟨es, clock, hb, F, _, rfl⟩, hV⟩ := h
  have hv := hV kl
  unfold look at hv
  rcases Maps.fit_look c K ht hz hb F hkey with ⟨hrun, _, hat⟩ | ⟨e0, y, _, _, hrun, hRv, hat, _⟩
  · rw [Maps.has_false_of_atKey hat] at hv
    rw [← hv, hrun]
    simp
  · rw [Maps.has_true_of_atKey hat, hat] at hv
    simp only [rv, Option.some.injEq] at hRv
    subst hRv
    rw [← hv, hrun]
    simp [ofHeld]
theorem MapAt.run_look (h : MapAt w P k b n V) (K : Keyed P k) (ht : P.underlying t = some (.map k e)) {z : Value} (hz : (zeroValue e).run P w = .ok z w) {key : Value} {kl : Lit} (hkey : keyOf P k key = some kl) :
    (Instr.lookup t (.map (some b)) key false).run P w = .ok ((V kl).getD z) w := by simpa using h.look_cases K ht hz hkey false
theorem MapAt.run_look_ok (h : MapAt w P k b n V) (K : Keyed P k) (ht : P.underlying t = some (.map k e)) {z : Value} (hz : (zeroValue e).run P w = .ok z w) {key : Value} {kl : Lit} (hkey : keyOf P k key = some kl) :
    (Instr.lookup t (.map (some b)) key true).run P w = .ok (.tuple #[(V kl).getD z, .bool (V kl).isSome]) w := by simpa using h.look_cases K ht hz hkey true
theorem ownsMap_exact {D : DataW Value} (h : w.ownsMap P k rv b n D) : w.ownsMap P k rv b (Maps.size D) D := by
  obtain ⟨es, clock, hb, F, hs, rfl⟩ := h
  exact ⟨es, clock, hb, F, by simp [Maps.size, length_sorted], rfl⟩
theorem isSome_has {D : DataW Value} (h : w.ownsMap P k rv b n D) (K : Keyed P k) (ht : P.underlying t = some (.map k e)) {z : Value} (hz : (zeroValue e).run P w = .ok z w) {key : Value} {kl : Lit} (hkey : keyOf P k key = some kl) : (look D kl).isSome = Maps.has D kl := by
  obtain ⟨es, clock, hb, F, _, rfl⟩ := h
  unfold look
  rcases Maps.fit_look true K ht hz hb F hkey with ⟨hrun, _, hat⟩ | ⟨e0, y, _, _, hrun, hRv, hat, _⟩
  · rw [Maps.has_false_of_atKey hat]; rfl
  · rw [Maps.has_true_of_atKey hat, hat]
    simp only [rv, Option.some.injEq] at hRv
    subst hRv
    rfl
theorem has_of_look {D : DataW Value} {kl : Lit} (h : (look D kl).isSome = true) : Maps.has D kl = true := by
  unfold look at h
  split at h
  · assumption
  · cases h
/-- 'm[k] = v'. -/
theorem MapAt.store (h : MapAt w P k b n V) (K : Keyed P k) (ht : P.underlying t = some (.map k e)) {z : Value} (hz : (zeroValue e).run P w = .ok z w) (hn : n < maxLen) {key val : Value} {kl : Lit} (hkey : keyOf P k key = some kl) :
    ∃ w', (Instr.mapUpdate t (.map (some b)) key val).run P w = .ok () w' ∧ MapAt w' P k b (if (V kl).isSome then n else n + 1) (upd V kl (some val)) ∧ w.mapTurned w' b := by
  obtain ⟨D, hD, hV⟩ := h
  have hkl := K.key hkey
  obtain ⟨w', hrun, h1, h2⟩ := hD.store (val := val) (d := .held val) (ps := []) K ht hn hkey rfl
  refine ⟨w', hrun, ⟨D.put kl (.held val), ?_, fun j => ?_⟩, h2⟩
  · refine (ownsMap_exact h1).mono ?_
    rw [size_put (hD.tidy K), ← isSome_has hD K ht hz hkey, hV kl]
    have := hD.size_le
    split <;> omega
  · rw [look_put hD.isMap hkl]
    unfold upd
    rw [hV]
/-- 'delete(m, k)'. -/
theorem MapAt.drop (h : MapAt w P k b n V) (K : Keyed P k) (ht : P.underlying t = some (.map k e)) {key : Value} {kl : Lit} (hkey : keyOf P k key = some kl) (ty : TypeId) :
    ∃ w', (Builtin.delete_ #[t, k] ty #[.map (some b), key]).run P w = .ok (.tuple #[]) w' ∧ MapAt w' P k b n (upd V kl none) ∧ w.mapTurned w' b := by
  obtain ⟨D, hD, hV⟩ := h
  obtain ⟨w', hrun, h1, h2⟩ := hD.drop K ht hkey ty
  refine ⟨w', hrun, ⟨D.del kl, h1, fun j => ?_⟩, h2⟩
  rw [look_del (K.key hkey)]
  unfold upd
  rw [hV]
theorem Chg.turned {S : Nat → Prop} (h : w.mapTurned w' b) (hb : S b) : Chg S w w' := Chg.grown h.grown (fun k e => by cases e; exact hb)
theorem Keyed.lit {P : Program} {k : TypeId} (K : Keyed P k) {key : Value} {kl : Lit} (h : keyOf P k key = some kl) : WideAt.IsKeyLit kl := K.key h
end

section
variable {P : Program} (w : World) {ops : Array Oper} {rest : List Oper} {o : Oper} {a : Act} {Q : Exit → Act → World → Prop}
theorem wpList_update_at (hg : o.guard = none) (m x v : Operand) (t : TypeId) (hop : o.op = Op.mapUpdate t m x v)
    (k e : TypeId) (K : Keyed P k) (ht : P.underlying t = some (.map k e)) {z : Value} (hz : (zeroValue e).run P w = .ok z w) (b n : Nat) (V : Lit → Option Value)
    (hm : a.eval m = .map (some b)) (hown : MapAt w P k b n V) (hn : n < maxLen) (key val : Value) (kl : Lit) (hx : a.eval x = key) (hv : a.eval v = val) (hkey : keyOf P k key = some kl)
    (hK : ∀ w', MapAt w' P k b (if (V kl).isSome then n else n + 1) (upd V kl (some val)) → w.mapTurned w' b → wpList P ops Q rest (a.put o.dst undef) w') :
    wpList P ops Q (o :: rest) a w := by
  refine wpList_plain hg fun K' hK' => ?_
  obtain ⟨w', hrun, r1, r2⟩ := hown.store (val := val) K ht hz hn hkey
  unfold Oper.wp
  simp [execOp, hop, hm, hx, hv, hrun, Result.andThen]
  exact hK' _ _ (hK w' r1 r2)
theorem wpList_lookup_at (hg : o.guard = none) (m x : Operand) (t : TypeId) (hop : o.op = Op.lookup t m x false)
    (k e : TypeId) (K : Keyed P k) (ht : P.underlying t = some (.map k e)) {z : Value} (hz : (zeroValue e).run P w = .ok z w) (b n : Nat) (V : Lit → Option Value)
    (hm : a.eval m = .map (some b)) (hown : MapAt w P k b n V) (key : Value) (kl : Lit) (hx : a.eval x = key) (hkey : keyOf P k key = some kl) (r : Value) (hr : (V kl).getD z = r)
    (hK : wpList P ops Q rest (a.put o.dst r) w) :
    wpList P ops Q (o :: rest) a w := by
  refine wpList_plain hg fun K' hK' => ?_
  subst hr
  unfold Oper.wp
  simp [execOp, hop, hm, hx, hown.run_look K ht hz hkey, Result.andThen]
  exact hK' _ _ hK
theorem wpList_lookup_ok_at (hg : o.guard = none) (m x : Operand) (t : TypeId) (hop : o.op = Op.lookup t m x true)
    (k e : TypeId) (K : Keyed P k) (ht : P.underlying t = some (.map k e)) {z : Value} (hz : (zeroValue e).run P w = .ok z w) (b n : Nat) (V : Lit → Option Value)
    (hm : a.eval m = .map (some b)) (hown : MapAt w P k b n V) (key : Value) (kl : Lit) (hx : a.eval x = key) (hkey : keyOf P k key = some kl) (r : Value) (c : Bool) (hr : (V kl).getD z = r) (hc : (V kl).isSome = c)
    (hK : wpList P ops Q rest (a.put o.dst (.tuple #[r, .bool c])) w) :
    wpList P ops Q (o :: rest) a w := by
  refine wpList_plain hg fun K' hK' => ?_
  subst hr hc
  unfold Oper.wp
  simp [execOp, hop, hm, hx, hown.run_look_ok K ht hz hkey, Result.andThen]
  exact hK' _ _ hK
theorem wpList_delete_at (hg : o.guard = none) (m x : Operand) (t k : TypeId) (hop : o.op = Op.call { callee := Callee.builtin Builtin.delete, args := #[m, x], argTypes := #[t, k] })
    (e : TypeId) (K : Keyed P k) (ht : P.underlying t = some (.map k e)) (b n : Nat) (V : Lit → Option Value)
    (hm : a.eval m = .map (some b)) (hown : MapAt w P k b n V) (key : Value) (kl : Lit) (hx : a.eval x = key) (hkey : keyOf P k key = some kl)
    (hK : ∀ w', MapAt w' P k b n (upd V kl none) → w.mapTurned w' b → wpList P ops Q rest (a.put o.dst (.tuple #[])) w') :
    wpList P ops Q (o :: rest) a w := by
  refine wpList_plain hg fun K' hK' => ?_
  obtain ⟨w', hrun, r1, r2⟩ := hown.drop K ht hkey o.type
  unfold Oper.wp
  simp [execOp, hop, resolve, invoke, builtin, hm, hx, hrun, Result.andThen]
  exact hK' _ _ (hK w' r1 r2)
end
end Go.Proofs.YtjfanbemihheiaaDoor.Cm
