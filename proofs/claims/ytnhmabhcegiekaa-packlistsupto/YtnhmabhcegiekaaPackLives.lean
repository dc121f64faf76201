/-
  The statements' first test ('lives', the document's example 1): it answers true, and nothing that was there has turned.
-/
import Derived.Test.YtnhmabhcegiekaaPackRest
namespace Go.Proofs.Ytnhmabhcegiekaa.Pk
open Go.RowKit
set_option linter.unusedVariables false

theorem ex1 : nums [0, 1, 127, 128, 300] = [0, 1, 127, 128, 1, 172, 2] := by decide +kernel
theorem ex2 : ints [0, -1, 1, -64] = [0, 1, 2, 127] := by decide +kernel
theorem ex3 : texts ([(⟨#[]⟩ : ByteArray), ⟨#[97, 98]⟩].map fun s => s.data.toList) = [0, 2, 97, 98] := by decide +kernel

/-- The cells of a block that has just been made of a list. -/
theorem cells_new {α : Type} (w : World) (xs : List α) (f : α → Value) (t : TypeId) (d : α) : ∀ j, j < xs.length → (w.alloc (.cells (xs.map f).toArray t)).cell? ⟨w.heap.size, 0 + j, none⟩ = some (f (xs.getD j d)) := by
  intro j hj
  rw [Nat.zero_add, cell_of_row _ _ _ _ _ _ (heap_alloc_new w _), getD_lt _ _ _ hj]
  simp [hj]

set_option maxRecDepth 100000 in
set_option maxHeartbeats 2000000 in
theorem lives_any (w : World) :
    Calls Try.prog 9 #[] w fun e w' => e = .returned (.bool true) ∧ Below w.heap.size w w' := by
  go_enter Try.func9, Try.ntmps9
  go_wp2_with fail
  refine (Nums_any w.heap.size 0 5 [0, 1, 127, 128, 300] _ (by decide) (cells_new w [0, 1, 127, 128, 300] (fun n : Nat => .int .u64 n) _ 0) (by simp) (by simp)).mono ?_
  rintro e w1 ⟨rfl, hb1⟩
  rw [ex1]
  have hs1 := hb1.size
  go_wp2_with fail
  refine (Ints_any w1.heap.size 0 4 [0, -1, 1, -64] _ (by decide) (cells_new w1 [0, -1, 1, -64] (fun n : Int => .int .i64 n) _ 0) (by simp) (by simp)).mono ?_
  rintro e w2 ⟨rfl, hb2⟩
  rw [ex2]
  have hs2 := hb2.size
  go_wp2_with fail
  refine (Texts_any w2.heap.size 0 2 [⟨#[]⟩, ⟨#[97, 98]⟩] _ (cells_new w2 [⟨#[]⟩, ⟨#[97, 98]⟩] (fun s : ByteArray => .string s) _ ByteArray.empty) (by simp) ?_ ?_ (by simp [maxLen])).mono ?_
  · intro k hk; match k, hk with
    | 0, _ => decide +kernel
    | 1, _ => decide +kernel
    | 2, _ => decide +kernel
  · intro k hk; match k, hk with
    | 0, _ => decide +kernel
    | 1, _ => decide +kernel
    | 2, _ => decide +kernel
  rintro e w3 ⟨rfl, hb3⟩
  rw [ex3]
  have hs3 := hb3.size
  simp at hs1 hs2 hs3
  have HB : Hid (Below w.heap.size w w3) := by
    have h1 : Below w.heap.size w w1 := ((Below.refl _ w).alloc (Nat.le_refl _) _).trans (hb1.mono (by simp))
    have h2 : Below w.heap.size w w2 := h1.trans ((((Below.refl _ w1).alloc (Nat.le_refl _) _).trans (hb2.mono (by simp))).mono (by omega))
    exact h2.trans ((((Below.refl _ w2).alloc (Nat.le_refl _) _).trans (hb3.mono (by simp))).mono (by omega))
  clear hb1 hb2 hb3
  go_wp2_with fail
  refine (new_any _ 0 (Nat.zero_le _)).mono ?_
  rintro e w4 ⟨rfl, rfl⟩
  go_wp2_with fail
  refine (read_any _ _).mono ?_
  rintro e w5 ⟨rfl, rfl⟩
  go_wp2
  go_ret
  exact ⟨rfl, (HB.out.alloc (by omega) _).alloc (by simp; omega) _⟩

end Go.Proofs.Ytnhmabhcegiekaa.Pk
