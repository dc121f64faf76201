/-
  The blocks of CabinMaps while the law marks their seats, one by one.
-/
import Derived.Test.YtbnmjmapmbdioaaDoorCabMapsHeap
namespace Go.Proofs.YtbnmjmapmbdioaaDoor.Cb
open Go.RowKit Cm
set_option linter.unusedVariables false

/-- The first i blocks are marked. -/
def MX (Z : World) (Bx Ex : Nat) (v : Value) (M : Nat) (X : World) (i : Nat) : Prop := ∃ bs : List Bk, bs.length = M ∧ Mine Z Bx Ex v X bs ∧ (∀ j, j < i → ∀ p ∈ (bs.getD j Bk.zero).seats, p.1 < 0) ∧ (∀ j, i ≤ j → (bs.getD j Bk.zero).seats.length ≤ 36) ∧ ∀ j, (bs.getD j Bk.zero).seats.length ≤ 37
/-- .. and the first k seats of the next. -/
def MY (Z : World) (Bx Ex : Nat) (v : Value) (M : Nat) (X : World) (i k N : Nat) : Prop := ∃ bs : List Bk, bs.length = M ∧ Mine Z Bx Ex v X bs ∧ (∀ j, j < i → ∀ p ∈ (bs.getD j Bk.zero).seats, p.1 < 0) ∧ (∀ j, i ≤ j → (bs.getD j Bk.zero).seats.length ≤ 36) ∧ (∀ j, (bs.getD j Bk.zero).seats.length ≤ 37) ∧ (bs.getD i Bk.zero).seats.length = N ∧ ∀ p ∈ (bs.getD i Bk.zero).seats.take k, p.1 < 0
section
variable {Z X : World} {Bx Ex M i k N : Nat} {v : Value}
theorem MX.enter (h : MX Z Bx Ex v M X i) (hi : i < M) : ∃ N, N ≤ 36 ∧ MY Z Bx Ex v M X i 0 N ∧ ∃ g cap ao ca, v = .slice (some ⟨g, 0, none⟩) M cap ∧ X.cell? ⟨g, i * 4 + 3, none⟩ = some (.slice ao N ca) := by
  obtain ⟨bs, rfl, hm, h1, h2, h3⟩ := h
  obtain ⟨g, cap, ao, ca, e, _, _, _, _, c3, _, _⟩ := BlksAt.read hm.at' hi
  exact ⟨_, h2 i (Nat.le_refl _), ⟨bs, rfl, hm, h1, h2, h3, rfl, fun p hp => by simp at hp⟩, g, cap, ao, ca, e, c3⟩
theorem MY.put (h : MY Z Bx Ex v M X i k N) (hi : i < M) (hk : k < N) (q : Int) (hq : q < 0) : ∃ g cap gq ca, v = .slice (some ⟨g, 0, none⟩) M cap ∧ X.cell? ⟨g, i * 4 + 3, none⟩ = some (.slice (some ⟨gq, 0, none⟩) N ca) ∧ N ≤ ca ∧ (∀ j, X.frozen? ⟨gq, j, none⟩ = false) ∧
    (∃ p : Int × Int, X.cell? ⟨gq, k * 2, none⟩ = some (.int .i64 p.1) ∧ X.cell? ⟨gq, k * 2 + 1, none⟩ = some (.int .u8 p.2)) ∧ MY Z Bx Ex v M ((X.setCell ⟨gq, k * 2, none⟩ (.int .i64 q)).setCell ⟨gq, k * 2 + 1, none⟩ (.int .u8 0)) i (k + 1) N := by
  obtain ⟨bs, rfl, hm, h1, h2, h3, rfl, h4⟩ := h
  obtain ⟨g, cap, gq, ca, e, c3, hle, hfz, d0, d1, hm2⟩ := hm.put hi hk (q, 0)
  refine ⟨g, cap, gq, ca, e, c3, hle, hfz, ⟨_, d0, d1⟩, bs.set i ((bs.getD i Bk.zero).put k (q, 0)), by simp, hm2, fun j hj p hp => ?_, fun j hj => ?_, fun j => ?_, ?_, fun p hp => ?_⟩
  · rw [getD_set _ _ _ _ _ hi, if_neg (by omega)] at hp
    exact h1 j hj p hp
  · rw [getD_set _ _ _ _ _ hi]
    split
    · simp only [Bk.put, List.length_set]; exact h2 i (Nat.le_refl _)
    · exact h2 j hj
  · rw [getD_set _ _ _ _ _ hi]
    split
    · simp only [Bk.put, List.length_set]; exact h3 i
    · exact h3 j
  · rw [getD_set _ _ _ _ _ hi, if_pos rfl]
    simp only [Bk.put, List.length_set]
  · rw [getD_set _ _ _ _ _ hi, if_pos rfl] at hp
    simp only [Bk.put] at hp
    obtain ⟨j, hj, rfl⟩ := List.mem_iff_getElem.1 hp
    rw [List.getElem_take, List.getElem_set]
    split
    · exact hq
    · next hne =>
      rw [List.length_take, List.length_set] at hj
      refine h4 _ ?_
      rw [List.mem_iff_getElem]
      exact ⟨j, by rw [List.length_take]; omega, by rw [List.getElem_take]⟩
theorem MY.add (h : MY Z Bx Ex v M X i N N) (hi : i < M) (q : Int) (hq : q < 0) : ∃ g cap ao ca ss, v = .slice (some ⟨g, 0, none⟩) M cap ∧ X.cell? ⟨g, i * 4 + 3, none⟩ = some (.slice ao N ca) ∧ ss.length = N ∧ (X.alloc (seObj q 0)).ownsRow Bx 38 2 (.slice ao N ca) N (seShape.vals ss) ∧
    ∀ g5 cap5 Y, Y.ownsRow Bx 38 2 (.slice (some ⟨g5, 0, none⟩) (N + 1) cap5) (N + 1) (seShape.vals (ss ++ [(q, 0)])) → (X.alloc (seObj q 0)).grownBy Y (Value.slice ao N ca).ownBlock → ((Value.slice ao N ca).ownBlock = some g5 ∨ g5 = X.heap.size + 1) →
      Y.cell? ⟨g, i * 4 + 3, none⟩ = some (.slice ao N ca) ∧ (∀ j, Y.frozen? ⟨g, j, none⟩ = false) ∧ MX Z Bx Ex v M (Y.setCell ⟨g, i * 4 + 3, none⟩ (.slice (some ⟨g5, 0, none⟩) (N + 1) cap5)) (i + 1) := by
  obtain ⟨bs, rfl, hm, h1, h2, h3, rfl, h4⟩ := h
  obtain ⟨g, cap, ao, ca, e, c3, ho, hnext⟩ := hm.add hi q 0
  refine ⟨g, cap, ao, ca, _, e, c3, rfl, ho, fun g5 cap5 Y hY hg hat => ?_⟩
  obtain ⟨a1, a2, a3⟩ := hnext g5 cap5 Y hY hg hat
  refine ⟨a1, a2, bs.set i ((bs.getD i Bk.zero).add (q, 0)), by simp, a3, fun j hj p hp => ?_, fun j hj => ?_, fun j => ?_⟩
  · rw [getD_set _ _ _ _ _ hi] at hp
    split at hp
    · simp only [Bk.add, List.mem_append, List.mem_singleton] at hp
      rcases hp with hp | hp
      · exact h4 p (by rw [List.take_length]; exact hp)
      · rw [hp]; exact hq
    · exact h1 j (by omega) p hp
  · rw [getD_set _ _ _ _ _ hi, if_neg (by omega)]
    exact h2 j (by omega)
  · rw [getD_set _ _ _ _ _ hi]
    split
    · simp only [Bk.add, List.length_append, List.length_singleton]
      have := h2 i (Nat.le_refl _)
      omega
    · exact h3 j
theorem MX.later {Y : World} (h : MX Z Bx Ex v M X i) (hb : Below X.heap.size X Y) : MX Z Bx Ex v M Y i := by
  obtain ⟨bs, h0, hm, h1⟩ := h
  exact ⟨bs, h0, hm.later hb, h1⟩
theorem MX.read (h : MX Z Bx Ex v M X M) (hi : i < M) : ∃ g cap ao ca ss, v = .slice (some ⟨g, 0, none⟩) M cap ∧ X.cell? ⟨g, i * 4 + 3, none⟩ = some (.slice ao ss.length ca) ∧ ElemsAt seShape X ao ss ∧ (∀ p ∈ ss, p.1 < 0) ∧ ss.length ≤ 37 := by
  obtain ⟨bs, rfl, hm, h1, h2, h3⟩ := h
  obtain ⟨g, cap, ao, ca, e, _, _, _, _, c3, _, he⟩ := BlksAt.read hm.at' hi
  exact ⟨g, cap, ao, ca, _, e, c3, he, h1 i hi, h3 i⟩
theorem MX.start {bs : List Bk} (h : BkI bs v Z Bx Ex) (hB : Bx ≤ Z.heap.size) (hl : bs.length = M) (h36 : ∀ k, (bs.getD k Bk.zero).seats.length ≤ 36) : MX Z Bx Ex v M Z 0 :=
  ⟨bs, hl, Mine.start h hB, fun j hj => by omega, fun j _ => h36 j, fun j => by have := h36 j; omega⟩
theorem MX.mine (h : MX Z Bx Ex v M X i) : ∃ bs, Mine Z Bx Ex v X bs := by
  obtain ⟨bs, _, hm, _⟩ := h
  exact ⟨bs, hm⟩
end
end Go.Proofs.YtbnmjmapmbdioaaDoor.Cb
