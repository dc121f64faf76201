/-
  The texts TableCut.
-/
import Derived.Test.YtedjohkdfchocaaGreatQTableChunk
import Derived.Test.YtedjohkdfchocaaGreatQTableCompare
import Derived.Test.YtedjohkdfchocaaGreatQBlockEncode

/-
  Package table: 'cut' makes the versions' blocks, or tells that they don't rise; what it holds in memory.
-/
namespace Go.Proofs.YtedjohkdfchocaaGreat.Tb
open Go.RowKit Go.Shelf Cm Mm Bk
set_option linter.unusedVariables false

/-- A block that isn't sealed yet, and the last of its versions. -/
structure Part where
  pay : ByteArray
  last : En
def ptShape : Shape Part := ⟨5, fun p => [.string p.pay, .string p.last.key, .int .i64 p.last.seq, .bool p.last.dead, .string p.last.val], by decide, fun _ => rfl, fun a u hu => by simp at hu; rcases hu with rfl | rfl | rfl | rfl | rfl <;> rfl⟩
theorem infoPart : (Tryz.prog.info? 74).map (fun i => (i.zero, i.size, i.bytes)) = some (some (.agg #[.string ⟨#[]⟩, .string ⟨#[]⟩, .int .i64 0, .bool false, .string ⟨#[]⟩]), 5, 64) := by kernel_rfl
def lastE (es : List En) (k : Nat) : En := (chunk es k).getD ((chunk es k).length - 1) En.zero
def headE (es : List En) (k : Nat) : En := (chunk es k).getD 0 En.zero
def part (es : List En) (k : Nat) : Part := ⟨blk es k, lastE es k⟩
def parts (es : List En) : List Part := (List.range (nch es)).map (part es)
/-- The chunks with these numbers are right, and each begins behind the one ahead of it. -/
def Good (es : List En) (l : List Nat) : Prop := ∀ i, i < l.length → right (chunk es (l.getD i 0)) = true ∧ (0 < i → less (lastE es (l.getD (i - 1) 0)) (headE es (l.getD i 0)) = true)
theorem getD_snoc_lt {l : List Nat} {x i : Nat} (h : i < l.length) : (l ++ [x]).getD i 0 = l.getD i 0 := by
  rw [List.getD_eq_getElem?_getD, List.getD_eq_getElem?_getD, List.getElem?_append_left h]
theorem getD_snoc_eq (l : List Nat) (x : Nat) : (l ++ [x]).getD l.length 0 = x := by simp
theorem Good.nil (es : List En) : Good es [] := fun i hi => by cases hi
theorem Good.snoc {es : List En} {l : List Nat} {x : Nat} (h : Good es l) (h1 : right (chunk es x) = true) (h2 : 0 < l.length → less (lastE es (l.getD (l.length - 1) 0)) (headE es x) = true) : Good es (l ++ [x]) := by
  intro i hi
  rw [List.length_append] at hi
  rcases Nat.lt_or_ge i l.length with h3 | h3
  · rw [getD_snoc_lt h3]
    refine ⟨(h i h3).1, fun h0 => ?_⟩
    rw [getD_snoc_lt (by omega)]
    exact (h i h3).2 h0
  · obtain rfl : i = l.length := by simp at hi; omega
    rw [getD_snoc_eq]
    refine ⟨h1, fun h0 => ?_⟩
    rw [getD_snoc_lt (by omega)]
    exact h2 h0
theorem not_good_chunk {es : List En} {l : List Nat} {x : Nat} (h1 : right (chunk es x) = false) : ¬ Good es (l ++ [x]) := fun h => by
  have := (h l.length (by simp)).1
  rw [getD_snoc_eq, h1] at this
  cases this
theorem not_good_border {es : List En} {l : List Nat} {x : Nat} (h0 : 0 < l.length) (h1 : less (lastE es (l.getD (l.length - 1) 0)) (headE es x) = false) : ¬ Good es (l ++ [x]) := fun h => by
  have := (h l.length (by simp)).2 h0
  rw [getD_snoc_eq, getD_snoc_lt (by omega), h1] at this
  cases this
theorem head_at {es : List En} {k : Nat} (h : k < nch es) : headE es k = es.getD (8 * k) En.zero := by
  have h1 := chunk_pos h
  have h2 := chunk_len es k
  unfold headE
  rw [chunk_get (by omega), Nat.add_zero]
theorem last_at {es : List En} {k : Nat} (h : k + 1 < nch es) : lastE es k = es.getD (8 * (k + 1) - 1) En.zero := by
  have h1 := chunk_pos h
  have h2 := chunk_len es k
  unfold lastE
  rw [chunk_get (by omega)]
  congr 1
  omega
theorem range_get {n i : Nat} (h : i < n) : (List.range n).getD i 0 = i := by simp [List.getD_eq_getElem?_getD, h]
theorem good_right {es : List En} (h : Good es (List.range (nch es))) : right es = true := by
  have key : ∀ k, k ≤ nch es → RightTo es (min (8 * k) es.length) := by
    intro k
    induction k with
    | zero => intro _ i hi; simp at hi
    | succ k ih =>
      intro hk
      have hp := chunk_pos (k := k) (es := es) (by omega)
      obtain ⟨g1, g2⟩ := h k (by simp; omega)
      rw [range_get (by omega)] at g1 g2
      have := right_step hp (by have := ih (by omega); rwa [Nat.min_eq_left (by omega)] at this) (fun h0 => ?_) g1
      · rwa [show 8 * (k + 1) = 8 * k + 8 by omega]
      · have := g2 h0
        rw [range_get (by omega), head_at (by omega), last_at (by omega), Nat.sub_add_cancel (by omega)] at this
        exact this
  rw [right_iff]
  have := key (nch es) (Nat.le_refl _)
  rwa [Nat.min_eq_right (by unfold nch; omega)] at this
theorem right_good {es : List En} (h : right es = true) {k : Nat} (hk : k ≤ nch es) : Good es (List.range k) := by
  intro i hi
  simp at hi
  rw [range_get hi]
  refine ⟨right_chunk h, fun h0 => ?_⟩
  rw [range_get (by omega), head_at (by omega), last_at (by omega), Nat.sub_add_cancel (by omega)]
  rw [right_iff] at h
  exact (h (8 * i) (chunk_pos (by omega))).2 (by omega)

structure CS (w : World) (ao : Option Addr) (len ca : Nat) (ps : List Part) (v : Value) (X : World) : Prop where
  bel : Below w.heap.size w X
  b0 : X.heap[w.heap.size]? = some (.cells #[.slice none 0 0] 45 (0, 0))
  b1 : X.heap[w.heap.size + 1]? = some (.cells #[.int .i64 0] 26 (0, 0))
  b2 : X.heap[w.heap.size + 2]? = some (.cells #[v] 45 (0, 0))
  bs : X.heap[w.heap.size + 3]? = some (boxS ao len ca)
  bn : X.heap[w.heap.size + 4]? = some box8
  own : X.ownsRow (w.heap.size + 5) 74 5 v ps.length (ptShape.vals ps)
section
variable {w X Y : World} {ao : Option Addr} {len ca : Nat} {ps : List Part} {v : Value}
theorem CS.keep (h : CS w ao len ca ps v X) (hb : Below w.heap.size w Y) (hk : ∀ j, w.heap.size ≤ j → j < w.heap.size + 5 → Y.heap[j]? = X.heap[j]?) (hr : ∀ j, v.ownBlock = some j → Y.heap[j]? = X.heap[j]?) : CS w ao len ca ps v Y :=
  ⟨hb, (hk _ (by omega) (by omega)).trans h.b0, (hk _ (by omega) (by omega)).trans h.b1, (hk _ (by omega) (by omega)).trans h.b2, (hk _ (by omega) (by omega)).trans h.bs, (hk _ (by omega) (by omega)).trans h.bn, rows_keep h.own hr⟩
theorem CS.size (h : CS w ao len ca ps v X) : w.heap.size + 5 ≤ X.heap.size := by have := lt_of_block h.bn; omega
theorem CS.later (h : CS w ao len ca ps v X) (hb : Below X.heap.size X Y) : CS w ao len ca ps v Y := by
  have hs := h.size
  exact h.keep (h.bel.trans (hb.mono h.bel.size)) (fun j _ hj => hb.block _ (by omega)) (fun j hj => hb.block _ (h.own.lt j hj).2)
theorem grown_cells {A B : World} {row : Option Nat} {j : Nat} {cs : Array Value} {t : TypeId} {fz : Nat × Nat} (hj : A.heap[j]? = some (.cells cs t fz)) (hg : A.grownBy B row) (hr : ∀ r, row = some r → ∃ o : Obj, A.heap[r]? = some o ∧ o.isCells = false) : B.heap[j]? = A.heap[j]? :=
  hg.block j (lt_of_block hj) (fun e => by
    obtain ⟨o, ho, hc⟩ := hr j e.symm
    rw [hj] at ho
    cases ho
    cases hc)
theorem CS.grown (h : CS w ao len ca ps v X) {row : Option Nat} (hg : X.grownBy Y row) (hr : ∀ r, row = some r → w.heap.size + 5 ≤ r ∧ ∃ o : Obj, X.heap[r]? = some o ∧ o.isCells = false) : CS w ao len ca ps v Y := by
  have hr2 : ∀ r, row = some r → ∃ o : Obj, X.heap[r]? = some o ∧ o.isCells = false := fun r e => (hr r e).2
  refine h.keep (h.bel.grown hg h.bel.size (fun k e => by have := (hr k e).1; omega)) (fun j h1 h2 => ?_) (fun j hj => ?_)
  · refine hg.block j (by have := h.size; omega) (fun e => ?_)
    have := (hr j e.symm).1
    omega
  · rcases h.own.2 with ⟨hv, _⟩ | ⟨g, cap, cur, hv, _, hcg, _⟩
    · rw [hv] at hj; cases hj
    · rw [hv] at hj
      cases hj
      exact grown_cells hcg hg hr2
theorem CS.elems (h : CS w ao len ca ps v X) : ∃ po pc, v = .slice po ps.length pc ∧ (po = none → pc = 0) ∧ ps.length ≤ pc ∧ ElemsAt ptShape X po ps := by
  obtain ⟨po, pc, e, h1, _, h2, h3⟩ := own_rows (F := ptShape) (show X.ownsRow _ _ ptShape.sz _ _ _ from h.own)
  exact ⟨po, pc, e, h1, h2, h3⟩
end
theorem cs_own (w : World) (ao : Option Addr) (len ca : Nat) (es : List En) : OwnFrom (w.heap.size + 5) (fun (s : List (Ix es)) X => Good es (nums s) ∧ ∃ v, CS w ao len ca ((nums s).map (part es)) v X) :=
  fun s A B row ⟨hg, v, h⟩ hgr hr => ⟨hg, v, h.grown hgr hr⟩
/-- The loop was left: the answer is ErrOrder. -/
structure Gone (w : World) (X : World) : Prop where
  bel : Below w.heap.size w X
  b0 : X.heap[w.heap.size]? = some (.cells #[.slice none 0 0] 45 (0, 0))
  b1 : X.heap[w.heap.size + 1]? = some (.cells #[.int .i64 9] 26 (0, 0))
theorem gone_own (w : World) (es : List En) (c : Code) : OwnFrom (w.heap.size + 5) (fun (s : List (Ix es)) X => (c = .ret ∧ ¬ Good es (nums s)) ∧ Gone w X) :=
  fun s A B row ⟨hc, h⟩ hg hr => ⟨hc, h.bel.grown hg h.bel.size (fun k e => by have := (hr k e).1; omega),
    (grown_cells h.b0 hg (fun r e => (hr r e).2)).trans h.b0, (grown_cells h.b1 hg (fun r e => (hr r e).2)).trans h.b1⟩
end Go.Proofs.YtedjohkdfchocaaGreat.Tb
