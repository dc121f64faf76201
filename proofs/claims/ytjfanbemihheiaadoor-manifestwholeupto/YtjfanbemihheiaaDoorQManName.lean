/-
  Package manifest: the name of a small number.
-/
import Derived.Test.YtjfanbemihheiaaDoorQMergeShelf
import Derived.Shelf.Strconv.Itoa3
import Derived.Laws.Concat
import Derived.WalkKit
namespace Go.Proofs.YtjfanbemihheiaaDoor.Ma
open Go.RowKit Go.Shelf
set_option linter.unusedVariables false

theorem itoa_12 (w : World) : Calls Tryd.prog 33 #[.int .i64 12] w fun e w' => e = .returned (.string ⟨#[49, 50]⟩) ∧ w' = w := by
  have hd : Lib.decDigits 12 = [49, 50] := by simp [Lib.decDigits]
  have hf : Calls Tryd.prog 62 #[.int .i64 12, .int .i64 10] w fun e w' => e = .returned (.string ⟨#[49, 50]⟩) ∧ w' = w := by
    have := Any.internal_strconv_FormatInt_10_small Tryd.formatS 12 (by omega) w
    rw [hd] at this
    exact this
  have HF : Hid _ := hf
  clear hf hd
  go_enter Tryd.func33, Tryd.ntmps33
  go_wp2_with (first | (go_at_call 62; refine (show Calls _ _ _ _ _ from HF.out).mono ?_; rintro e w1 ⟨rfl, rfl⟩) | go_in)
  go_ret
  exact ⟨rfl, rfl⟩
theorem table_12 (w : World) : Calls Tryd.prog 11 #[.int .i64 12] w fun e w' => e = .returned (.string ⟨#[116, 49, 50]⟩) ∧ w' = w := by
  go_enter Tryd.func11, Tryd.ntmps11
  go_wp2_with (first | (go_at_call 33; refine (itoa_12 _).mono ?_; rintro e w1 ⟨rfl, rfl⟩) | go_in)
  go_ret
  exact ⟨rfl, rfl⟩
end Go.Proofs.YtjfanbemihheiaaDoor.Ma
