/-
  For all layers: rows of structs of some cells each: a plain list, its cells, append, an owned row as a slice.
-/
import Derived.Test.YtbnmjmapmbdioaaDoorCmHeap
import Derived.Maps.AppendAt
namespace Go.Proofs.YtbnmjmapmbdioaaDoor.Cm
open Go.RowKit
set_option linter.unusedVariables false

/-- How an element lies in memory: sz cells. -/
structure Shape (α : Type) where
  sz : Nat
  enc : α → List Value
  pos : 0 < sz
  len : ∀ a, (enc a).length = sz
  one : ∀ a, ∀ u ∈ enc a, u.oneCell' = true
section
variable {α : Type} (F : Shape α)
def Shape.vals (xs : List α) : List Value := xs.flatMap F.enc
theorem Shape.vals_nil : F.vals [] = [] := rfl
theorem Shape.vals_cons (x : α) (xs : List α) : F.vals (x :: xs) = F.enc x ++ F.vals xs := rfl
theorem Shape.vals_append (a b : List α) : F.vals (a ++ b) = F.vals a ++ F.vals b := by simp [Shape.vals]
theorem Shape.vals_length (xs : List α) : (F.vals xs).length = xs.length * F.sz := by
  induction xs with
  | nil => simp [Shape.vals]
  | cons x xs ih => rw [Shape.vals_cons, List.length_append, ih, F.len, List.length_cons, Nat.add_mul]; omega
theorem Shape.vals_one (xs : List α) : ∀ u ∈ F.vals xs, u.oneCell' = true := by
  intro u hu
  obtain ⟨p, _, hp⟩ := List.mem_flatMap.1 hu
  exact F.one p u hp
theorem Shape.vals_get (xs : List α) (i : Nat) (h : i < xs.length) (j : Nat) (hj : j < F.sz) : (F.vals xs)[i * F.sz + j]? = (F.enc xs[i])[j]? := by
  induction xs generalizing i with
  | nil => simp at h
  | cons x xs ih =>
    rw [Shape.vals_cons]
    cases i with
    | zero => rw [List.getElem?_append_left (by rw [F.len]; omega)]; simp
    | succ i =>
      have h' : i < xs.length := by simpa using h
      have e : (i + 1) * F.sz + j = F.sz + (i * F.sz + j) := by rw [Nat.add_mul]; omega
      rw [e, List.getElem?_append_right (by rw [F.len]; omega), F.len, Nat.add_sub_cancel_left, ih i h']
      rfl
/-- A slice whose elements are xs. -/
def ElemsAt (w : World) (ao : Option Addr) (xs : List α) : Prop :=
  xs = [] ∨ ∃ b off, ao = some ⟨b, off, none⟩ ∧ b < w.heap.size ∧ ∀ i (h : i < xs.length) j u, (F.enc xs[i])[j]? = some u → w.cell? ⟨b, off + i * F.sz + j, none⟩ = some u
variable {F} {w w' : World} {ao : Option Addr} {xs : List α}
theorem ElemsAt.keep (h : ElemsAt F w ao xs) (hk : ∀ a, ao = some a → a.block < w.heap.size → w'.heap[a.block]? = w.heap[a.block]?) (hs : w.heap.size ≤ w'.heap.size) : ElemsAt F w' ao xs := by
  rcases h with h | ⟨b, off, rfl, hlt, hc⟩
  · exact .inl h
  · exact .inr ⟨b, off, rfl, by omega, fun i hi j u hu => by
      have hq : ∀ o, w'.cell? ⟨b, o, none⟩ = w.cell? ⟨b, o, none⟩ := fun o => World.cell?_of_block (show w'.heap[b]? = w.heap[b]? from hk ⟨b, off, none⟩ rfl hlt)
      rw [hq]; exact hc i hi j u hu⟩
theorem ElemsAt.below (h : ElemsAt F w ao xs) {B : Nat} (hb : Below B w w') (hB : ∀ a, ao = some a → a.block < B) : ElemsAt F w' ao xs :=
  h.keep (fun a e _ => hb.block _ (hB a e)) hb.size
theorem ElemsAt.later (h : ElemsAt F w ao xs) (hb : Below w.heap.size w w') : ElemsAt F w' ao xs := h.keep (fun a e hl => hb.block _ hl) hb.size
theorem ElemsAt.vals (h : ElemsAt F w ao xs) {ad : Addr} (e : ao = some ad) : ∀ j u, (F.vals xs)[j]? = some u → w.cell? (ad.add j) = some u := by
  intro j u hu
  rcases h with rfl | ⟨b, off, he, hlt, hc⟩
  · simp [Shape.vals] at hu
  · rw [e] at he
    cases he
    have hj : j < (F.vals xs).length := (List.getElem?_eq_some_iff.1 hu).1
    rw [Shape.vals_length] at hj
    have hp := F.pos
    have hi : j / F.sz < xs.length := Nat.div_lt_of_lt_mul (by rw [Nat.mul_comm]; exact hj)
    have hm : j % F.sz < F.sz := Nat.mod_lt _ hp
    have ej : j / F.sz * F.sz + j % F.sz = j := Nat.div_add_mod' j F.sz
    have := F.vals_get xs (j / F.sz) hi (j % F.sz) hm
    rw [ej, hu] at this
    have hcc := hc (j / F.sz) hi (j % F.sz) u this.symm
    rw [Go.WideShapes.add_plain]
    rw [Nat.add_assoc, ej] at hcc
    exact hcc
/-- An owned row as a slice. -/
theorem own_rows {B : Nat} {t : TypeId} {v : Value} (h : w.ownsRow B t F.sz v xs.length (F.vals xs)) :
    ∃ ao cap, v = .slice ao xs.length cap ∧ (ao = none → cap = 0) ∧ (∀ a, ao = some a → v.ownBlock = some a.block ∧ B ≤ a.block ∧ a.block < w.heap.size) ∧ xs.length ≤ cap ∧ ElemsAt F w ao xs := by
  rcases h.2 with ⟨rfl, hn⟩ | ⟨g, cap, cur, rfl, hB, hg, hle, _⟩
  · have : xs = [] := List.eq_nil_of_length_eq_zero hn
    subst this
    exact ⟨none, 0, rfl, fun _ => rfl, fun a h => (by cases h), Nat.le_refl _, .inl rfl⟩
  · refine ⟨some ⟨g, 0, none⟩, cap, rfl, fun h => (by cases h), fun a ha => (by cases ha; exact ⟨rfl, hB, lt_of_block hg⟩), hle, ?_⟩
    refine .inr ⟨g, 0, rfl, lt_of_block hg, fun i hi j u hu => ?_⟩
    have hj : j < F.sz := by rw [← F.len xs[i]]; exact (List.getElem?_eq_some_iff.1 hu).1
    have := h.cells (g := g) rfl (i * F.sz + j) u (by rw [F.vals_get xs i hi j hj]; exact hu)
    rw [Go.WideShapes.add_plain, ← Nat.add_assoc] at this
    exact this
theorem rows_keep {B n : Nat} {t : TypeId} {v : Value} {k : Nat} {vs : List Value} (h : w.ownsRow B t k v n vs) (hk : ∀ j, v.ownBlock = some j → w'.heap[j]? = w.heap[j]?) : w'.ownsRow B t k v n vs := by
  refine ⟨h.1, ?_⟩
  rcases h.2 with h | ⟨g, cap, cur, rfl, h1, hg, h2⟩
  · exact .inl h
  · exact .inr ⟨g, cap, cur, rfl, h1, (hk g rfl).trans hg, h2⟩
/-- A row and a block of another kind are two. -/
theorem rows_far {B n g k : Nat} {t : TypeId} {v : Value} {vs : List Value} {o : Obj} (h : w.ownsRow B t k v n vs) (hg : w.heap[g]? = some o) (ho : ∀ cs, o ≠ .cells cs t (0, 0)) : v.ownBlock ≠ some g := by
  intro e1
  rcases h.2 with ⟨rfl, _⟩ | ⟨j, cap, cur, rfl, _, hk, _⟩
  · simp [Value.ownBlock] at e1
  · simp [Value.ownBlock] at e1
    subst e1
    rw [hg] at hk
    exact ho _ (by simpa using hk)
/-- append of a slice (nil or not) to an owned row of such elements. -/
theorem wpList_append_rows {P : Program} (w : World) {ops : Array Oper} {rest : List Oper} {o : Oper} {a : Act} {Q : Exit → Act → World → Prop} (hgd : o.guard = none) (s x : Operand) (t : TypeId)
    (ho : o.op = .call { callee := .builtin .append, args := #[s, x], argTypes := #[t, t] })
    (base : Nat) (e : TypeId) (i : TypeInfo) (z : Value) (bytes : Nat) (ht : P.underlying t = some (.slice e)) (hi : P.info? e = some i) (hz : i.zero = some z)
    (hsize : i.size = F.sz) (hby : i.bytes = bytes) (hzs : z.cells.size = F.sz)
    (v : Value) (n : Nat) (ps : List α) (hs : a.eval s = v) (hown : w.ownsRow base e F.sz v n (F.vals ps))
    (ao : Option Addr) (m c : Nat) (qs : List α) (hx : a.eval x = .slice ao m c) (hnil : ao = none → c = 0) (hl : qs.length = m) (hnews : ElemsAt F w ao qs)
    (h63 : n + m ≤ maxLen) (hbytes : (n + m) * bytes ≤ 140737488355328) (hbase : base ≤ w.heap.size)
    (h : ∀ v' w', w'.ownsRow base e F.sz v' (n + m) (F.vals (ps ++ qs)) → w.grownBy w' v.ownBlock → (v'.ownBlock = v.ownBlock ∨ v'.ownBlock = some w.heap.size) → wpList P ops Q rest (a.put o.dst v') w') :
    wpList P ops Q (o :: rest) a w := by
  cases ao with
  | none =>
    have hn : qs = [] := by
      rcases hnews with h | ⟨b, off, h, _⟩
      · exact h
      · cases h
    subst hn
    have hm : m = 0 := by simpa using hl.symm
    have hc := hnil rfl
    subst hm hc
    exact wpList_append_own_none hgd s x t ho base e i F.sz ht hi v n _ hs hown hx (h v w (by simpa using hown) ⟨rfl, rfl, rfl, Nat.le_refl _, fun _ _ _ => rfl⟩ (.inl rfl))
  | some ad =>
    exact wpList_append_own_at w hgd s x t ho base e i z F.sz bytes ht hi hz hsize hby hzs F.pos v n (F.vals ps) hs hown ad m c (F.vals qs) hx (by rw [F.vals_length, hl]) (hnews.vals rfl) (F.vals_one qs) h63 hbytes hbase (fun v' w' a1 a2 _ a4 => h v' w' (by rw [F.vals_append]; exact a1) a2 a4)
end
end Go.Proofs.YtbnmjmapmbdioaaDoor.Cm
