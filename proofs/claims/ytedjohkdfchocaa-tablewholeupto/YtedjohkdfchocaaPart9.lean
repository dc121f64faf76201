/-
  The texts TableCut, TableCutPut, TableLay, joined.
-/
import Derived.Test.YtedjohkdfchocaaPart8

/-
  Package table: 'cut' makes the versions' blocks, or tells that they don't rise; what it holds in memory.
-/
namespace Go.Proofs.Ytedjohkdfchocaa.Tb
open Go.RowKit Go.Shelf Cm Mm Bk
set_option linter.unusedVariables false

/-- A block that isn't sealed yet, and the last of its versions. -/
structure Part where
  pay : ByteArray
  last : En
def ptShape : Shape Part := ⟨5, fun p => [.string p.pay, .string p.last.key, .int .i64 p.last.seq, .bool p.last.dead, .string p.last.val], by decide, fun _ => rfl, fun a u hu => by simp at hu; rcases hu with rfl | rfl | rfl | rfl | rfl <;> rfl⟩
theorem infoPart : (Try.prog.info? 103).map (fun i => (i.zero, i.size, i.bytes)) = some (some (.agg #[.string ⟨#[]⟩, .string ⟨#[]⟩, .int .i64 0, .bool false, .string ⟨#[]⟩]), 5, 64) := by kernel_rfl
def lastE (es : List En) (k : Nat) : En := (chunk es k).getD ((chunk es k).length - 1) En.zero
def headE (es : List En) (k : Nat) : En := (chunk es k).getD 0 En.zero
def part (es : List En) (k : Nat) : Part := ⟨blk es k, lastE es k⟩
def parts (es : List En) : List Part := (List.range (nch es)).map (part es)
/-- The chunks with these numbers are right, and each begins behind the one ahead of it. -/
def Good (es : List En) (l : List Nat) : Prop := ∀ i, i < l.length → right (chunk es (l.getD i 0)) = true ∧ (0 < i → less (lastE es (l.getD (i - 1) 0)) (headE es (l.getD i 0)) = true)
theorem getD_snoc_lt {l : List Nat} {x i : Nat} (h : i < l.length) : (l ++ [x]).getD i 0 = l.getD i 0 := by
  rw [List.getD_eq_getElem?_getD, List.getD_eq_getElem?_getD, List.getElem?_append_left h]
theorem getD_snoc_eq (l : List Nat) (x : Nat) : (l ++ [x]).getD l.length 0 = x := by simp
theorem Good.nil (es : List En) : Good es [] := fun i hi => by cases hi
theorem Good.snoc {es : List En} {l : List Nat} {x : Nat} (h : Good es l) (h1 : right (chunk es x) = true) (h2 : 0 < l.length → less (lastE es (l.getD (l.length - 1) 0)) (headE es x) = true) : Good es (l ++ [x]) := by
  intro i hi
  rw [List.length_append] at hi
  rcases Nat.lt_or_ge i l.length with h3 | h3
  · rw [getD_snoc_lt h3]
    refine ⟨(h i h3).1, fun h0 => ?_⟩
    rw [getD_snoc_lt (by omega)]
    exact (h i h3).2 h0
  · obtain rfl : i = l.length := by simp at hi; omega
    rw [getD_snoc_eq]
    refine ⟨h1, fun h0 => ?_⟩
    rw [getD_snoc_lt (by omega)]
    exact h2 h0
theorem not_good_chunk {es : List En} {l : List Nat} {x : Nat} (h1 : right (chunk es x) = false) : ¬ Good es (l ++ [x]) := fun h => by
  have := (h l.length (by simp)).1
  rw [getD_snoc_eq, h1] at this
  cases this
theorem not_good_border {es : List En} {l : List Nat} {x : Nat} (h0 : 0 < l.length) (h1 : less (lastE es (l.getD (l.length - 1) 0)) (headE es x) = false) : ¬ Good es (l ++ [x]) := fun h => by
  have := (h l.length (by simp)).2 h0
  rw [getD_snoc_eq, getD_snoc_lt (by omega), h1] at this
  cases this
theorem head_at {es : List En} {k : Nat} (h : k < nch es) : headE es k = es.getD (8 * k) En.zero := by
  have h1 := chunk_pos h
  have h2 := chunk_len es k
  unfold headE
  rw [chunk_get (by omega), Nat.add_zero]
theorem last_at {es : List En} {k : Nat} (h : k + 1 < nch es) : lastE es k = es.getD (8 * (k + 1) - 1) En.zero := by
  have h1 := chunk_pos h
  have h2 := chunk_len es k
  unfold lastE
  rw [chunk_get (by omega)]
  congr 1
  omega
theorem range_get {n i : Nat} (h : i < n) : (List.range n).getD i 0 = i := by simp [List.getD_eq_getElem?_getD, h]
theorem good_right {es : List En} (h : Good es (List.range (nch es))) : right es = true := by
  have key : ∀ k, k ≤ nch es → RightTo es (min (8 * k) es.length) := by
    intro k
    induction k with
    | zero => intro _ i hi; simp at hi
    | succ k ih =>
      intro hk
      have hp := chunk_pos (k := k) (es := es) (by omega)
      obtain ⟨g1, g2⟩ := h k (by simp; omega)
      rw [range_get (by omega)] at g1 g2
      have := right_step hp (by have := ih (by omega); rwa [Nat.min_eq_left (by omega)] at this) (fun h0 => ?_) g1
      · rwa [show 8 * (k + 1) = 8 * k + 8 by omega]
      · have := g2 h0
        rw [range_get (by omega), head_at (by omega), last_at (by omega), Nat.sub_add_cancel (by omega)] at this
        exact this
  rw [right_iff]
  have := key (nch es) (Nat.le_refl _)
  rwa [Nat.min_eq_right (by unfold nch; omega)] at this
theorem right_good {es : List En} (h : right es = true) {k : Nat} (hk : k ≤ nch es) : Good es (List.range k) := by
  intro i hi
  simp at hi
  rw [range_get hi]
  refine ⟨right_chunk h, fun h0 => ?_⟩
  rw [range_get (by omega), head_at (by omega), last_at (by omega), Nat.sub_add_cancel (by omega)]
  rw [right_iff] at h
  exact (h (8 * i) (chunk_pos (by omega))).2 (by omega)

structure CS (w : World) (ao : Option Addr) (len ca : Nat) (ps : List Part) (v : Value) (X : World) : Prop where
  bel : Below w.heap.size w X
  b0 : X.heap[w.heap.size]? = some (.cells #[.slice none 0 0] 72 (0, 0))
  b1 : X.heap[w.heap.size + 1]? = some (.cells #[.int .i64 0] 29 (0, 0))
  b2 : X.heap[w.heap.size + 2]? = some (.cells #[v] 72 (0, 0))
  bs : X.heap[w.heap.size + 3]? = some (boxS ao len ca)
  bn : X.heap[w.heap.size + 4]? = some box8
  own : X.ownsRow (w.heap.size + 5) 103 5 v ps.length (ptShape.vals ps)
section
variable {w X Y : World} {ao : Option Addr} {len ca : Nat} {ps : List Part} {v : Value}
theorem CS.keep (h : CS w ao len ca ps v X) (hb : Below w.heap.size w Y) (hk : ∀ j, w.heap.size ≤ j → j < w.heap.size + 5 → Y.heap[j]? = X.heap[j]?) (hr : ∀ j, v.ownBlock = some j → Y.heap[j]? = X.heap[j]?) : CS w ao len ca ps v Y :=
  ⟨hb, (hk _ (by omega) (by omega)).trans h.b0, (hk _ (by omega) (by omega)).trans h.b1, (hk _ (by omega) (by omega)).trans h.b2, (hk _ (by omega) (by omega)).trans h.bs, (hk _ (by omega) (by omega)).trans h.bn, rows_keep h.own hr⟩
theorem CS.size (h : CS w ao len ca ps v X) : w.heap.size + 5 ≤ X.heap.size := by have := lt_of_block h.bn; omega
theorem CS.later (h : CS w ao len ca ps v X) (hb : Below X.heap.size X Y) : CS w ao len ca ps v Y := by
  have hs := h.size
  exact h.keep (h.bel.trans (hb.mono h.bel.size)) (fun j _ hj => hb.block _ (by omega)) (fun j hj => hb.block _ (h.own.lt j hj).2)
theorem grown_cells {A B : World} {row : Option Nat} {j : Nat} {cs : Array Value} {t : TypeId} {fz : Nat × Nat} (hj : A.heap[j]? = some (.cells cs t fz)) (hg : A.grownBy B row) (hr : ∀ r, row = some r → ∃ o : Obj, A.heap[r]? = some o ∧ o.isCells = false) : B.heap[j]? = A.heap[j]? :=
  hg.block j (lt_of_block hj) (fun e => by
    obtain ⟨o, ho, hc⟩ := hr j e.symm
    rw [hj] at ho
    cases ho
    cases hc)
theorem CS.grown (h : CS w ao len ca ps v X) {row : Option Nat} (hg : X.grownBy Y row) (hr : ∀ r, row = some r → w.heap.size + 5 ≤ r ∧ ∃ o : Obj, X.heap[r]? = some o ∧ o.isCells = false) : CS w ao len ca ps v Y := by
  have hr2 : ∀ r, row = some r → ∃ o : Obj, X.heap[r]? = some o ∧ o.isCells = false := fun r e => (hr r e).2
  refine h.keep (h.bel.grown hg h.bel.size (fun k e => by have := (hr k e).1; omega)) (fun j h1 h2 => ?_) (fun j hj => ?_)
  · refine hg.block j (by have := h.size; omega) (fun e => ?_)
    have := (hr j e.symm).1
    omega
  · rcases h.own.2 with ⟨hv, _⟩ | ⟨g, cap, cur, hv, _, hcg, _⟩
    · rw [hv] at hj; cases hj
    · rw [hv] at hj
      cases hj
      exact grown_cells hcg hg hr2
theorem CS.elems (h : CS w ao len ca ps v X) : ∃ po pc, v = .slice po ps.length pc ∧ (po = none → pc = 0) ∧ ps.length ≤ pc ∧ ElemsAt ptShape X po ps := by
  obtain ⟨po, pc, e, h1, _, h2, h3⟩ := own_rows (F := ptShape) (show X.ownsRow _ _ ptShape.sz _ _ _ from h.own)
  exact ⟨po, pc, e, h1, h2, h3⟩
end
theorem cs_own (w : World) (ao : Option Addr) (len ca : Nat) (es : List En) : OwnFrom (w.heap.size + 5) (fun (s : List (Ix es)) X => Good es (nums s) ∧ ∃ v, CS w ao len ca ((nums s).map (part es)) v X) :=
  fun s A B row ⟨hg, v, h⟩ hgr hr => ⟨hg, v, h.grown hgr hr⟩
/-- The loop was left: the answer is ErrOrder. -/
structure Gone (w : World) (X : World) : Prop where
  bel : Below w.heap.size w X
  b0 : X.heap[w.heap.size]? = some (.cells #[.slice none 0 0] 72 (0, 0))
  b1 : X.heap[w.heap.size + 1]? = some (.cells #[.int .i64 9] 29 (0, 0))
theorem gone_own (w : World) (es : List En) (c : Code) : OwnFrom (w.heap.size + 5) (fun (s : List (Ix es)) X => (c = .ret ∧ ¬ Good es (nums s)) ∧ Gone w X) :=
  fun s A B row ⟨hc, h⟩ hg hr => ⟨hc, h.bel.grown hg h.bel.size (fun k e => by have := (hr k e).1; omega),
    (grown_cells h.b0 hg (fun r e => (hr r e).2)).trans h.b0, (grown_cells h.b1 hg (fun r e => (hr r e).2)).trans h.b1⟩
end Go.Proofs.Ytedjohkdfchocaa.Tb

/-
  Package table: what 'cut' keeps in memory when it puts one part more, and when it gives up.
-/
namespace Go.Proofs.Ytedjohkdfchocaa.Tb
open Go.RowKit Go.Shelf Cm Mm Bk
set_option linter.unusedVariables false

theorem keeps_below {B : Nat} {X Y : World} (h : Below X.heap.size X Y) : KeepsFrom B X Y := ⟨h.size, fun k o _ hk _ => (h.block k (lt_of_block hk)).trans hk⟩
def ptObj (p : Part) : Obj := .cells #[.string p.pay, .string p.last.key, .int .i64 p.last.seq, .bool p.last.dead, .string p.last.val] 103 (0, 0)
section
variable {w X Y Z : World} {ao : Option Addr} {len ca : Nat} {ps : List Part} {v : Value}
theorem CS.gone (h : CS w ao len ca ps v X) : Gone w ((X.setCell ⟨w.heap.size, 0, none⟩ (.slice none 0 0)).setCell ⟨w.heap.size + 1, 0, none⟩ (.int .i64 9)) ∧ KeepsFrom (w.heap.size + 5) X ((X.setCell ⟨w.heap.size, 0, none⟩ (.slice none 0 0)).setCell ⟨w.heap.size + 1, 0, none⟩ (.int .i64 9)) := by
  have e0 : (X.setCell ⟨w.heap.size, 0, none⟩ (.slice none 0 0)).heap[w.heap.size]? = some (.cells #[.slice none 0 0] 72 (0, 0)) := by rw [Joins.block_setCell h.b0]; rfl
  have e1 : (X.setCell ⟨w.heap.size, 0, none⟩ (.slice none 0 0)).heap[w.heap.size + 1]? = some (.cells #[.int .i64 0] 29 (0, 0)) := (Below.heap_setCell X ⟨w.heap.size, 0, none⟩ _ _ (by show _ ≠ w.heap.size; omega)).trans h.b1
  refine ⟨⟨(h.bel.setCell (p := ⟨w.heap.size, 0, none⟩) (Nat.le_refl _) _).setCell (p := ⟨w.heap.size + 1, 0, none⟩) (by show w.heap.size ≤ w.heap.size + 1; omega) _, ?_, ?_⟩, ?_⟩
  · exact (Below.heap_setCell _ ⟨w.heap.size + 1, 0, none⟩ _ _ (by show _ ≠ w.heap.size + 1; omega)).trans e0
  · rw [Joins.block_setCell e1]; rfl
  · exact ((KeepsOthers.setCell _ _ _).trans (KeepsOthers.setCell _ _ _)).from _
theorem new_part (p : Part) (X : World) : ∀ j u, (ptShape.enc p)[j]? = some u → (X.alloc (ptObj p)).cell? ((⟨X.heap.size, 0, none⟩ : Addr).add j) = some u := fun j u hu => by
  rw [Go.WideShapes.add_plain, Joins.cell_of_block (heap_alloc_new X (ptObj p))]
  simpa [ptObj, ptShape] using hu
/-- One part more. -/
theorem CS.put (h : CS w ao len ca ps v X) (p : Part) {g cap n : Nat} (hn : n = ps.length) (hown : Z.ownsRow (w.heap.size + 5) 103 5 (.slice (some ⟨g, 0, none⟩) (n + 1) cap) (n + 1) (ptShape.vals ps ++ ptShape.enc p)) (hg : (X.drew.alloc (ptObj p)).grownBy Z v.ownBlock) :
    Z.heap[w.heap.size + 2]? = some (.cells #[v] 72 (0, 0)) ∧ (∀ k, k < w.heap.size → Z.heap[k]? = X.heap[k]?) ∧
    CS w ao len ca (ps ++ [p]) (.slice (some ⟨g, 0, none⟩) (n + 1) cap) (Z.setCell ⟨w.heap.size + 2, 0, none⟩ (.slice (some ⟨g, 0, none⟩) (n + 1) cap)) ∧
    KeepsFrom (w.heap.size + 5) X (Z.setCell ⟨w.heap.size + 2, 0, none⟩ (.slice (some ⟨g, 0, none⟩) (n + 1) cap)) ∧ Same2 (w.heap.size + 3) (w.heap.size + 4) X (Z.setCell ⟨w.heap.size + 2, 0, none⟩ (.slice (some ⟨g, 0, none⟩) (n + 1) cap)) := by
  have hs := h.size
  have hrow : ∀ k, v.ownBlock = some k → w.heap.size + 5 ≤ k ∧ k < X.heap.size := fun k hk => h.own.lt k hk
  have hk : ∀ j, j < w.heap.size + 5 → Z.heap[j]? = X.heap[j]? := fun j hj => by
    have h1 := hg.block j (by simp; omega) (fun e => by have := (hrow j e.symm).1; omega)
    exact h1.trans (Below.heap_alloc _ _ _ (by show j < X.heap.size; omega))
  have hsz : X.heap.size + 1 ≤ Z.heap.size := by have := hg.size; simp at this; omega
  have b2 : Z.heap[w.heap.size + 2]? = some (.cells #[v] 72 (0, 0)) := (hk _ (by omega)).trans h.b2
  have hb : Below w.heap.size w Z := ((h.bel.drew).alloc (by have := h.bel.size; show w.heap.size ≤ X.heap.size; omega) _).grown hg (by simp; omega) (fun k e => by have := (hrow k e).1; omega)
  have hset : ∀ j, j ≠ w.heap.size + 2 → (Z.setCell ⟨w.heap.size + 2, 0, none⟩ (.slice (some ⟨g, 0, none⟩) (n + 1) cap)).heap[j]? = Z.heap[j]? := fun j hj => Below.heap_setCell Z ⟨w.heap.size + 2, 0, none⟩ _ j hj
  refine ⟨b2, fun k hk' => hk k (by omega), ⟨?_, ?_, ?_, ?_, ?_, ?_, ?_⟩, ⟨?_, ?_⟩, ?_, ?_⟩
  · exact hb.setCell (p := ⟨w.heap.size + 2, 0, none⟩) (by show w.heap.size ≤ w.heap.size + 2; omega) _
  · exact (hset _ (by omega)).trans ((hk _ (by omega)).trans h.b0)
  · exact (hset _ (by omega)).trans ((hk _ (by omega)).trans h.b1)
  · rw [Joins.block_setCell b2]; rfl
  · exact (hset _ (by omega)).trans ((hk _ (by omega)).trans h.bs)
  · exact (hset _ (by omega)).trans ((hk _ (by omega)).trans h.bn)
  · have : Z.ownsRow (w.heap.size + 5) 103 5 (.slice (some ⟨g, 0, none⟩) (n + 1) cap) (ps ++ [p]).length (ptShape.vals (ps ++ [p])) := by
      rw [Shape.vals_append, List.length_append, ← hn]
      simpa [Shape.vals] using hown
    exact rows_keep this (fun j hj => hset j (by have := (hown.lt j hj).1; omega))
  · have : (Z.setCell ⟨w.heap.size + 2, 0, none⟩ (.slice (some ⟨g, 0, none⟩) (n + 1) cap)).heap.size = Z.heap.size := by simp [World.setCell]
    omega
  · intro k o hB hk' ho
    have hlt := lt_of_block hk'
    have hne : v.ownBlock ≠ some k := fun e => by
      rcases h.own.2 with ⟨hv, _⟩ | ⟨g', cap', cur, hv, _, hcg, _⟩
      · rw [hv] at e; cases e
      · rw [hv] at e
        cases e
        rw [hcg] at hk'
        cases hk'
        cases ho
    refine (hset k (by omega)).trans ((hg.block k (by simp; omega) (fun e => hne e.symm)).trans ?_)
    exact (Below.heap_alloc _ _ _ (by show k < X.heap.size; exact hlt)).trans hk'
  · exact (hset _ (by omega)).trans (hk _ (by omega))
  · exact (hset _ (by omega)).trans (hk _ (by omega))
theorem CS.finish (h : CS w ao len ca ps v X) {D : Nat} (hK : X.heap[D]? = some (.deferred (some []))) (hD : w.heap.size + 5 ≤ D) (Y : World) (hY : Y = (X.setCell ⟨w.heap.size, 0, none⟩ v).setCell ⟨w.heap.size + 1, 0, none⟩ (.int .i64 0)) :
    Y.heap[D]? = some (.deferred (some [])) ∧ (Y.putObj D (.deferred none)).cell? ⟨w.heap.size, 0, none⟩ = some v ∧ (Y.putObj D (.deferred none)).cell? ⟨w.heap.size + 1, 0, none⟩ = some (.int .i64 0) ∧ (Y.putObj D (.deferred none)).ownsRow w.heap.size 103 5 v ps.length (ptShape.vals ps) ∧ Below w.heap.size w (Y.putObj D (.deferred none)) := by
  subst hY
  have e0 : (X.setCell ⟨w.heap.size, 0, none⟩ v).heap[w.heap.size]? = some (.cells #[v] 72 (0, 0)) := by rw [Joins.block_setCell h.b0]; rfl
  have e1 : (X.setCell ⟨w.heap.size, 0, none⟩ v).heap[w.heap.size + 1]? = some (.cells #[.int .i64 0] 29 (0, 0)) := (Below.heap_setCell X ⟨w.heap.size, 0, none⟩ _ _ (by show _ ≠ w.heap.size; omega)).trans h.b1
  obtain ⟨Z, hZ⟩ : ∃ Z, Z = (X.setCell ⟨w.heap.size, 0, none⟩ v).setCell ⟨w.heap.size + 1, 0, none⟩ (.int .i64 0) := ⟨_, rfl⟩
  have z0 : Z.heap[w.heap.size]? = some (.cells #[v] 72 (0, 0)) := by rw [hZ]; exact (Below.heap_setCell _ ⟨w.heap.size + 1, 0, none⟩ _ _ (by show _ ≠ w.heap.size + 1; omega)).trans e0
  have z1 : Z.heap[w.heap.size + 1]? = some (.cells #[.int .i64 0] 29 (0, 0)) := by rw [hZ, Joins.block_setCell e1]; rfl
  have zk : ∀ j, w.heap.size + 2 ≤ j → Z.heap[j]? = X.heap[j]? := fun j hj => by
    rw [hZ]
    exact (Below.heap_setCell _ ⟨w.heap.size + 1, 0, none⟩ _ _ (by show _ ≠ w.heap.size + 1; omega)).trans (Below.heap_setCell _ ⟨w.heap.size, 0, none⟩ _ _ (by show _ ≠ w.heap.size; omega))
  have hb : Below w.heap.size w Z := by rw [hZ]; exact (h.bel.setCell (p := ⟨w.heap.size, 0, none⟩) (Nat.le_refl _) _).setCell (p := ⟨w.heap.size + 1, 0, none⟩) (by show w.heap.size ≤ w.heap.size + 1; omega) _
  rw [← hZ]
  have zD : Z.heap[D]? = some (.deferred (some [])) := (zk D (by omega)).trans hK
  have hrow : ∀ k, v.ownBlock = some k → w.heap.size + 5 ≤ k ∧ k ≠ D := fun k hk => by
    refine ⟨(h.own.lt k hk).1, fun e => ?_⟩
    rcases h.own.2 with ⟨hv, _⟩ | ⟨g, cap, cur, hv, _, hcg, _⟩
    · rw [hv] at hk; cases hk
    · rw [hv] at hk
      cases hk
      have e' : g = D := e
      rw [e', hK] at hcg
      cases hcg
  have o1 : (Z.putObj D (.deferred none)).ownsRow (w.heap.size + 5) 103 5 v ps.length (ptShape.vals ps) := rows_keep h.own (fun j hj => (World.putObj_heap_other (hrow j hj).2).trans (zk j (by have := (hrow j hj).1; omega)))
  refine ⟨zD, ?_, ?_, ?_, hb.trans (belowK_b (w := w) (Nat.le_refl _) Z D _ _ (by omega) zD rfl rfl)⟩
  · rw [Joins.cell_of_block ((World.putObj_heap_other (by omega)).trans z0)]; rfl
  · rw [Joins.cell_of_block ((World.putObj_heap_other (by omega)).trans z1)]; rfl
  · exact ⟨o1.1, o1.2.imp id (fun ⟨g, cap, cur, a, b, c⟩ => ⟨g, cap, cur, a, by omega, c⟩)⟩
theorem Gone.finish (h : Gone w X) {D : Nat} (hK : X.heap[D]? = some (.deferred (some []))) (hD : w.heap.size + 5 ≤ D) :
    (X.putObj D (.deferred none)).cell? ⟨w.heap.size, 0, none⟩ = some (.slice none 0 0) ∧ (X.putObj D (.deferred none)).cell? ⟨w.heap.size + 1, 0, none⟩ = some (.int .i64 9) ∧ Below w.heap.size w (X.putObj D (.deferred none)) := by
  refine ⟨?_, ?_, h.bel.trans (belowK_b (w := w) (Nat.le_refl _) X D _ _ (by omega) hK rfl rfl)⟩
  · rw [Joins.cell_of_block ((World.putObj_heap_other (by omega)).trans h.b0)]; rfl
  · rw [Joins.cell_of_block ((World.putObj_heap_other (by omega)).trans h.b1)]; rfl
end
end Go.Proofs.Ytedjohkdfchocaa.Tb

/-
  Package table: 'lay' seals the blocks one behind the other and writes the index; what it holds in memory.
-/
namespace Go.Proofs.Ytedjohkdfchocaa.Tb
open Go.RowKit Cm Mm Bk
open Pk (WrAt Step enc enc_len text)
open Fr (framesB str)
set_option linter.unusedVariables false

/-! ### How long they are -/
theorem take_chunk (es : List En) (k : Nat) : es.take (8 * (k + 1)) = es.take (8 * k) ++ chunk es k := by
  rw [Nat.mul_succ, List.take_add]; rfl
theorem mem_bytes {es : List En} {e : En} (h : e ∈ es) : e.key.size + e.val.size ≤ bytesE es := by
  induction es with
  | nil => cases h
  | cons x es ih =>
    rw [bytesE_cons]
    rcases List.mem_cons.1 h with rfl | h
    · unfold sizeE; omega
    · have := ih h; omega
theorem lastK_bytes {es : List En} {k : Nat} (h : k < nch es) : (lastK es k).size ≤ bytesE (chunk es k) := by
  have h1 := chunk_pos h
  have h2 := chunk_len es k
  have hl : (chunk es k).length - 1 < (chunk es k).length := by omega
  unfold lastK
  rw [getD_lt _ _ _ hl]
  have := mem_bytes (List.getElem_mem hl)
  omega
theorem index_len (es : List En) (k : Nat) (hk : k ≤ nch es) : (index es k).length ≤ 10 + 20 * k + bytesE (es.take (8 * k)) := by
  induction k with
  | zero => rw [index_zero]; have := (enc_len (nch es)).2; omega
  | succ k ih =>
    have h1 := ih (by omega)
    have h2 := lastK_bytes (k := k) (es := es) (by omega)
    have h3 := (text_len (bs (lastK es k))).1
    rw [bs_len] at h3
    have h4 := (enc_len (place es k)).2
    rw [index_succ, List.length_append, List.length_append, take_chunk, bytesE_append]
    omega
theorem place_len (es : List En) (k : Nat) (hk : k ≤ nch es) : place es k ≤ bytesE (es.take (8 * k)) + 346 * k := by
  induction k with
  | zero => exact Nat.zero_le _
  | succ k ih =>
    have h1 := ih (by omega)
    have h2 := block_len (chunk es k)
    have h3 := chunk_len es k
    have h4 : place es (k + 1) = place es k + (8 + (block (chunk es k)).length) := by
      unfold place
      rw [range_blk, framesB_snoc1, List.length_append, Fr.framesB_len [blk es k]]
      simp [total, blk, Fr.str_size]
    rw [h4, take_chunk, bytesE_append]
    omega
/-! ### In memory -/
section
variable {w w' : World} {base b c : Nat} {r s s' : Option Nat} {bs : List UInt8}
theorem BuAt.step (h : BuAt w base b r bs) (k : Step c w s w' s') (hbc : b ≠ c) (hbs : some b ≠ s) (hrc : r ≠ some c) (hrs : r = none ∨ r ≠ s) : BuAt w' base b r bs :=
  h.keep (k.kept.block b h.lt hbc hbs) (fun j hj => k.kept.block j (h.row j hj).2.1 (fun e => hrc (by rw [hj, e])) (fun e => by
    rcases hrs with h0 | h0
    · rw [h0] at hj; cases hj
    · exact h0 (by rw [hj, e])))
end
/-- The builder, in the first block, holds the bytes f; the writer, in the next one, the bytes i. -/
structure LS (w : World) (f i : List UInt8) (r1 r2 : Option Nat) (X : World) : Prop where
  bel : Below w.heap.size w X
  bu : BuAt X w.heap.size w.heap.size r1 f
  wr : WrAt X w.heap.size (w.heap.size + 1) r2 i
  far : r1 = none ∨ r1 ≠ r2
section
variable {w X Y : World} {f f' i i' : List UInt8} {r1 r1' r2 r2' : Option Nat}
theorem LS.later (h : LS w f i r1 r2 X) (hb : Below X.heap.size X Y) : LS w f i r1 r2 Y :=
  ⟨h.bel.trans (hb.mono h.bel.size), h.bu.keep (hb.block _ h.bu.lt) (fun k hk => hb.block _ (h.bu.row k hk).2.1), h.wr.keep (hb.block _ h.wr.lt) (fun k hk => hb.block _ (h.wr.row_ge k hk).2.1), h.far⟩
theorem bu_far {base b : Nat} (h : BuAt X base b r1 f) {k : Nat} (hk : ∀ cs, X.heap[k]? ≠ some (.cells cs 5 (0, 0))) : r1 ≠ some k := fun e => by
  obtain ⟨p, v, _, _, hown, hv⟩ := h
  rcases hown.2 with ⟨rfl, _⟩ | ⟨g, cap, cur, rfl, _, hcg, _⟩
  · rw [← hv] at e; cases e
  · rw [← hv] at e
    cases e
    exact hk _ hcg
theorem wr_far {base b : Nat} (h : WrAt X base b r2 i) {k : Nat} (hk : ∀ cs, X.heap[k]? ≠ some (.cells cs 5 (0, 0))) : r2 ≠ some k := fun e => by
  obtain ⟨v, _, hown, hv⟩ := h
  rcases hown.2 with ⟨rfl, _⟩ | ⟨g, cap, cur, rfl, _, hcg, _⟩
  · rw [← hv] at e; cases e
  · rw [← hv] at e
    cases e
    exact hk _ hcg
theorem LS.notrow (h : LS w f i r1 r2 X) : (∀ cs, X.heap[w.heap.size]? ≠ some (.cells cs 5 (0, 0))) ∧ ∀ cs, X.heap[w.heap.size + 1]? ≠ some (.cells cs 5 (0, 0)) := by
  obtain ⟨p, v, _, hb, _⟩ := h.bu
  obtain ⟨u, hu, _⟩ := h.wr
  refine ⟨fun cs e => ?_, fun cs e => ?_⟩
  · rw [hb] at e; simp [buObj] at e
  · rw [hu] at e; simp at e
theorem LS.wput (h : LS w f i r1 r2 X) (hs : Step (w.heap.size + 1) X r2 Y r2') (hw : WrAt Y w.heap.size (w.heap.size + 1) r2' i') : LS w f i' r1 r2' Y := by
  have hn := h.notrow
  refine ⟨h.bel.trans (hs.below h.bel.size (by omega) (fun k hk => (h.wr.row_ge k hk).1)), h.bu.step hs (by omega) (fun e => wr_far h.wr hn.1 e.symm) (bu_far h.bu hn.2) h.far, hw, ?_⟩
  rcases hs.row with e | ⟨g, e, hg⟩
  · rw [e]; exact h.far
  · rcases h.far with h0 | _
    · exact .inl h0
    · refine .inr (fun e2 => ?_)
      have := (h.bu.row g (e2.trans e)).2.1
      omega
theorem LS.bput (h : LS w f i r1 r2 X) (hs : Step w.heap.size X r1 Y r1') (hb : BuAt Y w.heap.size w.heap.size r1' f') : LS w f' i r1' r2 Y := by
  have hn := h.notrow
  refine ⟨h.bel.trans (hs.below h.bel.size (Nat.le_refl _) (fun k hk => (h.bu.row k hk).1)), hb, h.wr.step hs (by omega) (fun e => bu_far h.bu hn.2 e.symm) (wr_far h.wr hn.1) ?_, ?_⟩
  · rcases h.far with h0 | h0
    · rcases hr : r2 with _ | k
      · exact .inl rfl
      · exact .inr (by rw [h0]; simp)
    · exact .inr (fun e => h0 e.symm)
  · rcases hs.row with e | ⟨g, e, hg⟩
    · rw [e]; exact h.far
    · refine .inr (fun e2 => ?_)
      have := (h.wr.row_ge g (e2.symm.trans e)).2.1
      omega
theorem LS.drop (h : LS w f i r1 r2 X) (hr : Rest r1 X Y) : WrAt Y w.heap.size (w.heap.size + 1) r2 i ∧ Below w.heap.size w Y := by
  obtain ⟨h1, h2, h3, h4, h5⟩ := hr
  have hn := h.notrow
  refine ⟨h.wr.keep (h5 _ h.wr.lt (fun e => bu_far h.bu hn.2 e.symm)) (fun k hk => h5 k (h.wr.row_ge k hk).2.1 (fun e => ?_)), h.bel.trans ⟨h1, h2, h3, h4, fun k hk => h5 k (Nat.lt_of_lt_of_le hk h.bel.size) (fun e => ?_)⟩⟩
  · rcases h.far with h0 | h0
    · rw [h0] at e; cases e
    · exact h0 (by rw [hk, e])
  · have := (h.bu.row k e.symm).1
    omega
end
theorem ls_new (w : World) : LS w [] [] none none ((w.alloc (buObj (.pointer none) (.slice none 0 0))).alloc (.cells #[.slice none 0 0] 144)) := by
  obtain ⟨X, hX⟩ : ∃ X, X = w.alloc (buObj (.pointer none) (.slice none 0 0)) := ⟨_, rfl⟩
  have hs : X.heap.size = w.heap.size + 1 := by rw [hX]; simp
  rw [← hX]
  have hw := Pk.new_wr X w.heap.size
  rw [hs] at hw
  refine ⟨?_, ⟨.pointer none, .slice none 0 0, .inl rfl, ?_, World.ownsRow_nil _ _ _ _, rfl⟩, hw, .inl rfl⟩
  · rw [hX]; exact ((Below.refl _ _).alloc (Nat.le_refl _) _).alloc (by simp) _
  · exact (Below.heap_alloc _ _ _ (by omega)).trans (by rw [hX]; exact heap_alloc_new w _)
end Go.Proofs.Ytedjohkdfchocaa.Tb
