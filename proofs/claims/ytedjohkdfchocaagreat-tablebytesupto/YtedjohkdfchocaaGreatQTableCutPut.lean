/-
  The texts TableCutPut.
-/
import Derived.Test.YtedjohkdfchocaaGreatQTableCut

/-
  Package table: what 'cut' keeps in memory when it puts one part more, and when it gives up.
-/
namespace Go.Proofs.YtedjohkdfchocaaGreat.Tb
open Go.RowKit Go.Shelf Cm Mm Bk
set_option linter.unusedVariables false

theorem keeps_below {B : Nat} {X Y : World} (h : Below X.heap.size X Y) : KeepsFrom B X Y := ⟨h.size, fun k o _ hk _ => (h.block k (lt_of_block hk)).trans hk⟩
def ptObj (p : Part) : Obj := .cells #[.string p.pay, .string p.last.key, .int .i64 p.last.seq, .bool p.last.dead, .string p.last.val] 74 (0, 0)
section
variable {w X Y Z : World} {ao : Option Addr} {len ca : Nat} {ps : List Part} {v : Value}
theorem CS.gone (h : CS w ao len ca ps v X) : Gone w ((X.setCell ⟨w.heap.size, 0, none⟩ (.slice none 0 0)).setCell ⟨w.heap.size + 1, 0, none⟩ (.int .i64 9)) ∧ KeepsFrom (w.heap.size + 5) X ((X.setCell ⟨w.heap.size, 0, none⟩ (.slice none 0 0)).setCell ⟨w.heap.size + 1, 0, none⟩ (.int .i64 9)) := by
  have e0 : (X.setCell ⟨w.heap.size, 0, none⟩ (.slice none 0 0)).heap[w.heap.size]? = some (.cells #[.slice none 0 0] 45 (0, 0)) := by rw [Joins.block_setCell h.b0]; rfl
  have e1 : (X.setCell ⟨w.heap.size, 0, none⟩ (.slice none 0 0)).heap[w.heap.size + 1]? = some (.cells #[.int .i64 0] 26 (0, 0)) := (Below.heap_setCell X ⟨w.heap.size, 0, none⟩ _ _ (by show _ ≠ w.heap.size; omega)).trans h.b1
  refine ⟨⟨(h.bel.setCell (p := ⟨w.heap.size, 0, none⟩) (Nat.le_refl _) _).setCell (p := ⟨w.heap.size + 1, 0, none⟩) (by show w.heap.size ≤ w.heap.size + 1; omega) _, ?_, ?_⟩, ?_⟩
  · exact (Below.heap_setCell _ ⟨w.heap.size + 1, 0, none⟩ _ _ (by show _ ≠ w.heap.size + 1; omega)).trans e0
  · rw [Joins.block_setCell e1]; rfl
  · exact ((KeepsOthers.setCell _ _ _).trans (KeepsOthers.setCell _ _ _)).from _
theorem new_part (p : Part) (X : World) : ∀ j u, (ptShape.enc p)[j]? = some u → (X.alloc (ptObj p)).cell? ((⟨X.heap.size, 0, none⟩ : Addr).add j) = some u := fun j u hu => by
  rw [Go.WideShapes.add_plain, Joins.cell_of_block (heap_alloc_new X (ptObj p))]
  simpa [ptObj, ptShape] using hu
/-- One part more. -/
theorem CS.put (h : CS w ao len ca ps v X) (p : Part) {g cap n : Nat} (hn : n = ps.length) (hown : Z.ownsRow (w.heap.size + 5) 74 5 (.slice (some ⟨g, 0, none⟩) (n + 1) cap) (n + 1) (ptShape.vals ps ++ ptShape.enc p)) (hg : (X.drew.alloc (ptObj p)).grownBy Z v.ownBlock) :
    Z.heap[w.heap.size + 2]? = some (.cells #[v] 45 (0, 0)) ∧ (∀ k, k < w.heap.size → Z.heap[k]? = X.heap[k]?) ∧
    CS w ao len ca (ps ++ [p]) (.slice (some ⟨g, 0, none⟩) (n + 1) cap) (Z.setCell ⟨w.heap.size + 2, 0, none⟩ (.slice (some ⟨g, 0, none⟩) (n + 1) cap)) ∧
    KeepsFrom (w.heap.size + 5) X (Z.setCell ⟨w.heap.size + 2, 0, none⟩ (.slice (some ⟨g, 0, none⟩) (n + 1) cap)) ∧ Same2 (w.heap.size + 3) (w.heap.size + 4) X (Z.setCell ⟨w.heap.size + 2, 0, none⟩ (.slice (some ⟨g, 0, none⟩) (n + 1) cap)) := by
  have hs := h.size
  have hrow : ∀ k, v.ownBlock = some k → w.heap.size + 5 ≤ k ∧ k < X.heap.size := fun k hk => h.own.lt k hk
  have hk : ∀ j, j < w.heap.size + 5 → Z.heap[j]? = X.heap[j]? := fun j hj => by
    have h1 := hg.block j (by simp; omega) (fun e => by have := (hrow j e.symm).1; omega)
    exact h1.trans (Below.heap_alloc _ _ _ (by show j < X.heap.size; omega))
  have hsz : X.heap.size + 1 ≤ Z.heap.size := by have := hg.size; simp at this; omega
  have b2 : Z.heap[w.heap.size + 2]? = some (.cells #[v] 45 (0, 0)) := (hk _ (by omega)).trans h.b2
  have hb : Below w.heap.size w Z := ((h.bel.drew).alloc (by have := h.bel.size; show w.heap.size ≤ X.heap.size; omega) _).grown hg (by simp; omega) (fun k e => by have := (hrow k e).1; omega)
  have hset : ∀ j, j ≠ w.heap.size + 2 → (Z.setCell ⟨w.heap.size + 2, 0, none⟩ (.slice (some ⟨g, 0, none⟩) (n + 1) cap)).heap[j]? = Z.heap[j]? := fun j hj => Below.heap_setCell Z ⟨w.heap.size + 2, 0, none⟩ _ j hj
  refine ⟨b2, fun k hk' => hk k (by omega), ⟨?_, ?_, ?_, ?_, ?_, ?_, ?_⟩, ⟨?_, ?_⟩, ?_, ?_⟩
  · exact hb.setCell (p := ⟨w.heap.size + 2, 0, none⟩) (by show w.heap.size ≤ w.heap.size + 2; omega) _
  · exact (hset _ (by omega)).trans ((hk _ (by omega)).trans h.b0)
  · exact (hset _ (by omega)).trans ((hk _ (by omega)).trans h.b1)
  · rw [Joins.block_setCell b2]; rfl
  · exact (hset _ (by omega)).trans ((hk _ (by omega)).trans h.bs)
  · exact (hset _ (by omega)).trans ((hk _ (by omega)).trans h.bn)
  · have : Z.ownsRow (w.heap.size + 5) 74 5 (.slice (some ⟨g, 0, none⟩) (n + 1) cap) (ps ++ [p]).length (ptShape.vals (ps ++ [p])) := by
      rw [Shape.vals_append, List.length_append, ← hn]
      simpa [Shape.vals] using hown
    exact rows_keep this (fun j hj => hset j (by have := (hown.lt j hj).1; omega))
  · have : (Z.setCell ⟨w.heap.size + 2, 0, none⟩ (.slice (some ⟨g, 0, none⟩) (n + 1) cap)).heap.size = Z.heap.size := by simp [World.setCell]
    omega
  · intro k o hB hk' ho
    have hlt := lt_of_block hk'
    have hne : v.ownBlock ≠ some k := fun e => by
      rcases h.own.2 with ⟨hv, _⟩ | ⟨g', cap', cur, hv, _, hcg, _⟩
      · rw [hv] at e; cases e
      · rw [hv] at e
        cases e
        rw [hcg] at hk'
        cases hk'
        cases ho
    refine (hset k (by omega)).trans ((hg.block k (by simp; omega) (fun e => hne e.symm)).trans ?_)
    exact (Below.heap_alloc _ _ _ (by show k < X.heap.size; exact hlt)).trans hk'
  · exact (hset _ (by omega)).trans (hk _ (by omega))
  · exact (hset _ (by omega)).trans (hk _ (by omega))
theorem CS.finish (h : CS w ao len ca ps v X) {D : Nat} (hK : X.heap[D]? = some (.deferred (some []))) (hD : w.heap.size + 5 ≤ D) (Y : World) (hY : Y = (X.setCell ⟨w.heap.size, 0, none⟩ v).setCell ⟨w.heap.size + 1, 0, none⟩ (.int .i64 0)) :
    Y.heap[D]? = some (.deferred (some [])) ∧ (Y.putObj D (.deferred none)).cell? ⟨w.heap.size, 0, none⟩ = some v ∧ (Y.putObj D (.deferred none)).cell? ⟨w.heap.size + 1, 0, none⟩ = some (.int .i64 0) ∧ (Y.putObj D (.deferred none)).ownsRow w.heap.size 74 5 v ps.length (ptShape.vals ps) ∧ Below w.heap.size w (Y.putObj D (.deferred none)) := by
  subst hY
  have e0 : (X.setCell ⟨w.heap.size, 0, none⟩ v).heap[w.heap.size]? = some (.cells #[v] 45 (0, 0)) := by rw [Joins.block_setCell h.b0]; rfl
  have e1 : (X.setCell ⟨w.heap.size, 0, none⟩ v).heap[w.heap.size + 1]? = some (.cells #[.int .i64 0] 26 (0, 0)) := (Below.heap_setCell X ⟨w.heap.size, 0, none⟩ _ _ (by show _ ≠ w.heap.size; omega)).trans h.b1
  obtain ⟨Z, hZ⟩ : ∃ Z, Z = (X.setCell ⟨w.heap.size, 0, none⟩ v).setCell ⟨w.heap.size + 1, 0, none⟩ (.int .i64 0) := ⟨_, rfl⟩
  have z0 : Z.heap[w.heap.size]? = some (.cells #[v] 45 (0, 0)) := by rw [hZ]; exact (Below.heap_setCell _ ⟨w.heap.size + 1, 0, none⟩ _ _ (by show _ ≠ w.heap.size + 1; omega)).trans e0
  have z1 : Z.heap[w.heap.size + 1]? = some (.cells #[.int .i64 0] 26 (0, 0)) := by rw [hZ, Joins.block_setCell e1]; rfl
  have zk : ∀ j, w.heap.size + 2 ≤ j → Z.heap[j]? = X.heap[j]? := fun j hj => by
    rw [hZ]
    exact (Below.heap_setCell _ ⟨w.heap.size + 1, 0, none⟩ _ _ (by show _ ≠ w.heap.size + 1; omega)).trans (Below.heap_setCell _ ⟨w.heap.size, 0, none⟩ _ _ (by show _ ≠ w.heap.size; omega))
  have hb : Below w.heap.size w Z := by rw [hZ]; exact (h.bel.setCell (p := ⟨w.heap.size, 0, none⟩) (Nat.le_refl _) _).setCell (p := ⟨w.heap.size + 1, 0, none⟩) (by show w.heap.size ≤ w.heap.size + 1; omega) _
  rw [← hZ]
  have zD : Z.heap[D]? = some (.deferred (some [])) := (zk D (by omega)).trans hK
  have hrow : ∀ k, v.ownBlock = some k → w.heap.size + 5 ≤ k ∧ k ≠ D := fun k hk => by
    refine ⟨(h.own.lt k hk).1, fun e => ?_⟩
    rcases h.own.2 with ⟨hv, _⟩ | ⟨g, cap, cur, hv, _, hcg, _⟩
    · rw [hv] at hk; cases hk
    · rw [hv] at hk
      cases hk
      have e' : g = D := e
      rw [e', hK] at hcg
      cases hcg
  have o1 : (Z.putObj D (.deferred none)).ownsRow (w.heap.size + 5) 74 5 v ps.length (ptShape.vals ps) := rows_keep h.own (fun j hj => (World.putObj_heap_other (hrow j hj).2).trans (zk j (by have := (hrow j hj).1; omega)))
  refine ⟨zD, ?_, ?_, ?_, hb.trans (belowK_b (w := w) (Nat.le_refl _) Z D _ _ (by omega) zD rfl rfl)⟩
  · rw [Joins.cell_of_block ((World.putObj_heap_other (by omega)).trans z0)]; rfl
  · rw [Joins.cell_of_block ((World.putObj_heap_other (by omega)).trans z1)]; rfl
  · exact ⟨o1.1, o1.2.imp id (fun ⟨g, cap, cur, a, b, c⟩ => ⟨g, cap, cur, a, by omega, c⟩)⟩
theorem Gone.finish (h : Gone w X) {D : Nat} (hK : X.heap[D]? = some (.deferred (some []))) (hD : w.heap.size + 5 ≤ D) :
    (X.putObj D (.deferred none)).cell? ⟨w.heap.size, 0, none⟩ = some (.slice none 0 0) ∧ (X.putObj D (.deferred none)).cell? ⟨w.heap.size + 1, 0, none⟩ = some (.int .i64 9) ∧ Below w.heap.size w (X.putObj D (.deferred none)) := by
  refine ⟨?_, ?_, h.bel.trans (belowK_b (w := w) (Nat.le_refl _) X D _ _ (by omega) hK rfl rfl)⟩
  · rw [Joins.cell_of_block ((World.putObj_heap_other (by omega)).trans h.b0)]; rfl
  · rw [Joins.cell_of_block ((World.putObj_heap_other (by omega)).trans h.b1)]; rfl
end
end Go.Proofs.YtedjohkdfchocaaGreat.Tb
