/-
  Package manifest: the name of a small number.
-/
import Derived.Test.YtjfanbemihheiaaGreatDoorQMergeShelf
import Derived.Shelf.Strconv.Itoa3
import Derived.Laws.Concat
import Derived.WalkKit
namespace Go.Proofs.YtjfanbemihheiaaGreatDoor.Ma
open Go.RowKit Go.Shelf
set_option linter.unusedVariables false

theorem itoa_12 (w : World) : Calls Tryz.prog 50 #[.int .i64 12] w fun e w' => e = .returned (.string ⟨#[49, 50]⟩) ∧ w' = w := by
  have hd : Lib.decDigits 12 = [49, 50] := by simp [Lib.decDigits]
  have hf : Calls Tryz.prog 95 #[.int .i64 12, .int .i64 10] w fun e w' => e = .returned (.string ⟨#[49, 50]⟩) ∧ w' = w := by
    have := Any.internal_strconv_FormatInt_10_small Tryz.formatS 12 (by omega) w
    rw [hd] at this
    exact this
  have HF : Hid _ := hf
  clear hf hd
  go_enter Tryz.func50, Tryz.ntmps50
  go_wp2_with (first | (go_at_call 95; refine (show Calls _ _ _ _ _ from HF.out).mono ?_; rintro e w1 ⟨rfl, rfl⟩) | go_in)
  go_ret
  exact ⟨rfl, rfl⟩
theorem table_12 (w : World) : Calls Tryz.prog 18 #[.int .i64 12] w fun e w' => e = .returned (.string ⟨#[116, 49, 50]⟩) ∧ w' = w := by
  go_enter Tryz.func18, Tryz.ntmps18
  go_wp2_with (first | (go_at_call 50; refine (itoa_12 _).mono ?_; rintro e w1 ⟨rfl, rfl⟩) | go_in)
  go_ret
  exact ⟨rfl, rfl⟩
end Go.Proofs.YtjfanbemihheiaaGreatDoor.Ma
