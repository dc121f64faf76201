/-
  The statements' first question: the answers that the chapter of layer 7 shows come out.
-/
import Derived.Test.YtcnlipomealojaaBloomBuild
namespace Go.Proofs.Ytcnlipomealojaa.Bl
open Go.RowKit Cm
set_option linter.unusedVariables false

theorem hash_a : hash ⟨#[97]⟩ = 12638187200555641996 := by decide +kernel

theorem cells_new (xs : List ByteArray) (w : World) : CellsAt (w.alloc (.cells (strVals xs).toArray 9)) (some ⟨w.heap.size, 0, none⟩) (strVals xs) := by
  right
  refine ⟨w.heap.size, 0, rfl, by simp, fun j hj => ?_⟩
  rw [Joins.cell_of_block (heap_alloc_new w _)]
  simp
theorem IsFilter.size {xs : List ByteArray} {f : ByteArray} (h : IsFilter xs f.data.toList) : f.size = len xs.length := by rw [Lib.size_eq]; exact h.1
set_option maxRecDepth 100000 in
set_option maxHeartbeats 1000000 in
theorem lives_any (w : World) : Calls Try.prog 6 #[] w fun e w' => e = .returned (.bool true) ∧ Below w.heap.size w w' := by
  go_enter Try.func6, Try.ntmps6
  go_wp2_with fail
  refine (hash_any ⟨#[97]⟩ (by decide) _).mono ?_
  rintro e w1 ⟨rfl, rfl⟩
  rw [hash_a]
  go_wp2_with fail
  refine (build_any (some ⟨_, 0, none⟩) 4 [⟨#[97]⟩, ⟨#[98]⟩, ⟨#[99]⟩, ⟨#[100]⟩] _ (cells_new _ _) (by simp) (by intro x hx; simp at hx; rcases hx with rfl | rfl | rfl | rfl <;> decide)).mono ?_
  rintro e w2 ⟨⟨f, rfl, hf⟩, hb2⟩
  have hfs : f.size = 5 := hf.size
  have hB2 : Below w1.heap.size w1 w2 := ((Below.refl _ _).alloc (Nat.le_refl _) _).trans (hb2.mono (by simp))
  have hs2 := hB2.size
  clear hb2 hf
  go_wp2_with fail
  refine (build_any (some ⟨_, 0, none⟩) 1 [⟨#[97]⟩] _ (cells_new _ _) (by simp) (by intro x hx; simp at hx; subst hx; decide)).mono ?_
  rintro e w3 ⟨⟨g, rfl, hg⟩, hb3⟩
  have hgs : g.size = 2 := hg.size
  have hB3 : Below w1.heap.size w1 w3 := (hB2.alloc hs2 _).trans (hb3.mono (by simp; omega))
  have hs3 := hB3.size
  have hk := hg.keeps (x := ⟨#[97]⟩) (by simp)
  clear hb3 hB2 hs2 hg
  go_wp2_with fail
  refine (may_any g ⟨#[97]⟩ (by decide) (by omega) _).mono ?_
  rintro e w4 ⟨rfl, hb4⟩
  rw [hk]
  have hB4 : Below w1.heap.size w1 w4 := hB3.trans (hb4.mono hs3)
  go_wp2
  go_ret
  exact ⟨rfl, hB4⟩

end Go.Proofs.Ytcnlipomealojaa.Bl
