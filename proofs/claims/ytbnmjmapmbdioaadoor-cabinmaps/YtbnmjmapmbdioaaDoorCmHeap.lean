/-
  For all layers: rows of bytes and of texts in memory, what append comes to, slices that came in as plain lists.
-/
import Derived.Test.YtbnmjmapmbdioaaDoorProg
import Derived.WalkKit
import Derived.Deep.AppendLies
import Derived.Deep.AppendSrc
import Derived.Lib.AppendStr
import Derived.Maps.AppendAt
import Derived.Laws.AppendOwnNone
import Derived.Laws.BitsAllLaws
import Derived.Deep.Light
import Derived.BigQuiet
import Derived.Lib.SmallJoins
namespace Go.Proofs.YtbnmjmapmbdioaaDoor.Cm
open Go.RowKit
set_option linter.unusedVariables false

theorem info8 : (Tryd.prog.info? 5).map (fun i => (i.zero, i.size, i.bytes)) = some (some (.int .u8 0), 1, 1) := by kernel_rfl
theorem infoStr : (Tryd.prog.info? 9).map (fun i => (i.zero, i.size, i.bytes)) = some (some (.string ⟨#[]⟩), 1, 16) := by kernel_rfl
def B8 (c : UInt8) : Value := .int .u8 c.toNat
theorem hid_rfl {α : Type} {a : α} : Hid (a = a) := rfl
theorem getD_lt {α : Type} (l : List α) (k : Nat) (d : α) (h : k < l.length) : l.getD k d = l[k] := by simp [h]
theorem str_back (s : ByteArray) : (⟨s.data.toList.toArray⟩ : ByteArray) = s := by cases s; simp
theorem own_keep {w w' : World} {B : Nat} {e : TypeId} {n : Nat} {v : Value} {xs : List Value} (h : w.ownsRow B e 1 v n xs) (hk : ∀ k, v.ownBlock = some k → w'.heap[k]? = w.heap[k]?) : w'.ownsRow B e 1 v n xs := by
  refine ⟨h.1, ?_⟩
  rcases h.2 with h | ⟨g, cap, cur, rfl, h1, hg, h2⟩
  · exact .inl h
  · exact .inr ⟨g, cap, cur, rfl, h1, (hk g rfl).trans hg, h2⟩
theorem run_append_str_at {P : Program} (w : World) (base : Nat) (t u ty e : TypeId) (i : TypeInfo) (ht : P.underlying t = some (.slice e)) (hu : P.underlying u = some .string) (hi : P.info? e = some i) (hz : i.zero = some (.int .u8 0))
    (hsize : i.size = 1) (hby : i.bytes = 1) (v : Value) (n : Nat) (xs : List Value) (hown : w.ownsRow base e 1 v n xs) (s : ByteArray)
    (h63 : n + s.size ≤ maxLen) (hbytes : n + s.size ≤ 140737488355328) (hbase : base ≤ w.heap.size) :
    ∃ v' w', (Builtin.append_ #[t, u] ty #[v, .string s]).run P w = .ok v' w' ∧ w'.ownsRow base e 1 v' (n + s.size) (xs ++ Lib.strCells s) ∧ w.grownBy w' v.ownBlock ∧
      (v'.ownBlock = v.ownBlock ∨ v'.ownBlock = some w.heap.size) := by
  obtain ⟨v', w', hr, h2, h3, h4⟩ := Lib.run_append_own_string (P := P) w base t u ty e i ht hu hi hz hsize hby v n xs hown s h63 hbytes hbase
  refine ⟨v', w', hr, h2, h3, ?_⟩
  unfold maxLen at h63
  rcases hown.2 with ⟨rfl, rfl⟩ | ⟨g, cap, cur, rfl, hbg, hg, hnc, hcm, hcs, htake⟩
  · by_cases hm : s.size = 0
    · rw [h4.2 ⟨rfl, hm⟩]; exact .inl rfl
    · have hq := run_append_nil_string (P := P) w t u ty e i (.int .u8 0) ht hu hi hz s (by omega) (by omega) (by rw [hby]; omega)
      rw [hr] at hq
      injection hq with hq _
      rw [hq]; exact .inr rfl
  · by_cases hroom : n + s.size ≤ cap
    · have hcs' : cur.size = cap := by simpa using hcs
      have hq := Lib.run_append_room_string (P := P) w t u ty e i ht hu hi hsize g n cap cur hg s hroom (by omega)
      rw [hr] at hq
      injection hq with hq _
      rw [hq]; exact .inl rfl
    · have hxl : xs.length = n := by simpa using hown.1
      have hq := Lib.run_append_grow_string (P := P) w t u ty e i (.int .u8 0) ht hu hi hz ⟨g, 0, none⟩ n cap xs (by rw [hsize]; simpa using hxl) (hown.cells (g := g) rfl) s (by omega) (by omega) (by rw [hby]; exact growslice_fits (by omega) (by omega))
      rw [hr] at hq
      injection hq with hq _
      rw [hq]; exact .inr rfl
theorem wpList_append_str_at {P : Program} (w : World) {ops : Array Oper} {rest : List Oper} {o : Oper} {a : Act} {Q : Exit → Act → World → Prop} (hgd : o.guard = none) (sl x : Operand) (t u : TypeId)
    (ho : o.op = .call { callee := .builtin .append, args := #[sl, x], argTypes := #[t, u] })
    (base : Nat) (e : TypeId) (i : TypeInfo) (ht : P.underlying t = some (.slice e)) (hu : P.underlying u = some .string) (hi : P.info? e = some i) (hz : i.zero = some (.int .u8 0))
    (hsize : i.size = 1) (hby : i.bytes = 1) (v : Value) (n : Nat) (xs : List Value) (hs : a.eval sl = v) (hown : w.ownsRow base e 1 v n xs) (s : ByteArray) (hx : a.eval x = .string s)
    (h63 : n + s.size ≤ maxLen) (hbytes : n + s.size ≤ 140737488355328) (hbase : base ≤ w.heap.size)
    (h : ∀ v' w', w'.ownsRow base e 1 v' (n + s.size) (xs ++ Lib.strCells s) → w.grownBy w' v.ownBlock → (v'.ownBlock = v.ownBlock ∨ v'.ownBlock = some w.heap.size) → wpList P ops Q rest (a.put o.dst v') w') : wpList P ops Q (o :: rest) a w := by
  refine wpList_plain hgd fun K hK => ?_
  obtain ⟨v', w', hr, h2, h3, h4⟩ := run_append_str_at (P := P) w base t u o.type e i ht hu hi hz hsize hby v n xs hown s h63 hbytes hbase
  unfold Oper.wp execOp
  simp only [ho, resolve, invoke, builtin, Sem.run_bind, Sem.run_pure, Result.andThen_ok, List.map_toArray, List.map_cons, List.map_nil, hs, hx, hr]
  exact hK _ _ (h v' w' h2 h3 h4)
/-- The values lie in memory from that address on. -/
def CellsAt (w : World) (ao : Option Addr) (vs : List Value) : Prop :=
  vs = [] ∨ ∃ b off, ao = some ⟨b, off, none⟩ ∧ b < w.heap.size ∧ ∀ j, j < vs.length → w.cell? ⟨b, off + j, none⟩ = vs[j]?
theorem CellsAt.keep {w w' : World} {ao : Option Addr} {vs : List Value} (h : CellsAt w ao vs) (hb : ∀ b, b < w.heap.size → w'.heap[b]? = w.heap[b]?) (hs : w.heap.size ≤ w'.heap.size) : CellsAt w' ao vs := by
  rcases h with h | ⟨b, off, rfl, hlt, hc⟩
  · exact .inl h
  · refine .inr ⟨b, off, rfl, by omega, fun j hj => ?_⟩
    rw [World.cell?_of_block (hb b hlt)]
    exact hc j hj
theorem CellsAt.below {w w' : World} {ao : Option Addr} {vs : List Value} (h : CellsAt w ao vs) (hb : Below w.heap.size w w') : CellsAt w' ao vs := h.keep hb.block hb.size
theorem CellsAt.alloc {w : World} {ao : Option Addr} {vs : List Value} (h : CellsAt w ao vs) (o : Obj) : CellsAt (w.alloc o) ao vs := h.keep (fun b hb => Below.heap_alloc _ _ _ hb) (by simp)
theorem CellsAt.drew {w : World} {ao : Option Addr} {vs : List Value} {n : Nat} (h : CellsAt w ao vs) : CellsAt (w.drewN n) ao vs := h
def total (xs : List ByteArray) : Nat := (xs.map ByteArray.size).sum
def strVals (l : List ByteArray) : List Value := l.map Value.string
section
variable {P : Program} (w : World)
/-- append of a slice that came in (nil or not) to an owned row. -/
theorem wpList_append_any {ops : Array Oper} {rest : List Oper} {o : Oper} {a : Act} {Q : Exit → Act → World → Prop} (hgd : o.guard = none) (s x : Operand) (t : TypeId)
    (ho : o.op = .call { callee := .builtin .append, args := #[s, x], argTypes := #[t, t] })
    (base : Nat) (e : TypeId) (i : TypeInfo) (z : Value) (bytes : Nat) (ht : P.underlying t = some (.slice e)) (hi : P.info? e = some i) (hz : i.zero = some z)
    (hsize : i.size = 1) (hby : i.bytes = bytes) (hzs : z.cells.size = 1)
    (v : Value) (n : Nat) (xs : List Value) (hs : a.eval s = v) (hown : w.ownsRow base e 1 v n xs)
    (ao : Option Addr) (m c : Nat) (news : List Value) (hx : a.eval x = .slice ao m c) (hnil : ao = none → c = 0) (hl : news.length = m) (hnews : CellsAt w ao news) (h1 : ∀ u ∈ news, u.oneCell' = true)
    (h63 : n + m ≤ maxLen) (hbytes : (n + m) * bytes ≤ 140737488355328) (hbase : base ≤ w.heap.size)
    (h : ∀ v' w', w'.ownsRow base e 1 v' (n + m) (xs ++ news) → w.grownBy w' v.ownBlock → (v'.ownBlock = v.ownBlock ∨ v'.ownBlock = some w.heap.size) → wpList P ops Q rest (a.put o.dst v') w') :
    wpList P ops Q (o :: rest) a w := by
  cases ao with
  | none =>
    have hn : news = [] := by
      rcases hnews with h | ⟨b, off, h, _⟩
      · exact h
      · cases h
    subst hn
    have hm : m = 0 := by simpa using hl.symm
    have hc := hnil rfl
    subst hm hc
    exact wpList_append_own_none hgd s x t ho base e i 1 ht hi v n xs hs hown hx (h v w (by simpa using hown) ⟨rfl, rfl, rfl, Nat.le_refl _, fun _ _ _ => rfl⟩ (.inl rfl))
  | some ad =>
    refine wpList_append_own_at w hgd s x t ho base e i z 1 bytes ht hi hz hsize hby hzs (by decide) v n xs hs hown ad m c news hx (by omega) (fun j u hu => ?_) h1 h63 hbytes hbase (fun v' w' a1 a2 _ a4 => h v' w' a1 a2 a4)
    rcases hnews with hn | ⟨b, off, he, _, hcell⟩
    · rw [hn] at hu; simp at hu
    · simp only [Option.some.injEq] at he
      subst he
      have hj : j < news.length := (List.getElem?_eq_some_iff.1 hu).1
      rw [Go.WideShapes.add_plain, hcell j hj, hu]
end
theorem own_string {w : World} {base : Nat} {v : Value} {bs : List UInt8} (h : w.ownsRow base 5 1 v bs.length (bs.map B8)) :
    (convert 65 9 v).run Tryd.prog w = .ok (.string ⟨bs.toArray⟩) w := by
  rcases h.2 with ⟨rfl, hn⟩ | ⟨g, cap, cur, rfl, _, hg, _, _, _, htake⟩
  · have : bs = [] := List.eq_nil_of_length_eq_zero hn
    subst this
    rw [run_convert_bytes_string w 65 9 5 none 0 0 Tryd.underlying65 Tryd.underlying5 Tryd.underlying9]
    simp [Conv.bytesToString]
    rfl
  · refine run_convert_bytes_back w 65 9 5 ⟨g, 0, none⟩ cap bs Tryd.underlying65 Tryd.underlying5 Tryd.underlying9 fun j hj => ?_
    have := h.cells (g := g) rfl j (B8 bs[j]) (by simp [hj])
    exact this
/-- A string's bytes behind an owned row, in a loop: what it comes to. -/
theorem own_text_below {w wr w5 w6 : World} {B : Nat} {v : Value} {n : Nat} {xs : List Value} (hB : Below B w wr) (hBs : B ≤ w.heap.size) (hb : Below wr.heap.size wr w5) (hown : wr.ownsRow B 5 1 v n xs) (hg : w5.grownBy w6 v.ownBlock) : Below B w w6 := by
  have h1 := hB.size
  have h2 := hb.size
  exact (hB.trans (hb.mono (by omega))).grown hg (by omega) (fun k hk => (hown.lt k hk).1)
theorem own_keep_below {wr w5 : World} {B : Nat} {v : Value} {n : Nat} {xs : List Value} (hown : wr.ownsRow B 5 1 v n xs) (hb : Below wr.heap.size wr w5) : w5.ownsRow B 5 1 v n xs :=
  own_keep hown fun k hk => hb.block k (hown.lt k hk).2
theorem own_bytes {w : World} {B : Nat} {v : Value} {bs x : List UInt8} {X : ByteArray} (hX : X.data.toList = x) (h : w.ownsRow B 5 1 v (bs.length + X.size) (bs.map B8 ++ Lib.strCells X)) : w.ownsRow B 5 1 v (bs ++ x).length ((bs ++ x).map B8) := by
  rw [List.length_append, List.map_append, ← hX, ← Lib.size_eq]; exact h

end Go.Proofs.YtbnmjmapmbdioaaDoor.Cm
