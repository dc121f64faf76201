/-
  Package manifest: names: a letter and a number in decimal digits, whatever the number.
-/
import Derived.Test.YtjfanbemihheiaaGreatDoorRows
import Derived.Test.YtjfanbemihheiaaGreatDoorQManName
import Derived.Test.YtjfanbemihheiaaGreatDoorQManMath
import Derived.Test.YtjfanbemihheiaaGreatDoorQManShelf
import Derived.Shelf.Strconv.Itoa3
import Derived.Lib.AppendIntMem
import Derived.Lib.ItoaLen
namespace Go.Proofs.YtjfanbemihheiaaGreatDoor.Ma
open Go.RowKit Go.Shelf
set_option linter.unusedVariables false

/-- The third variable that ManifestNames' row lists: the table of powers of ten. -/
def powName : String := (Rows.manifestNamesUptoRow.laid.map fun x => x.1).getD 2 ""
/-- The table is laid. -/
def Pow (w : World) : Prop := Lib.TabIs Tryz.prog w powName .u64 Lib.pow10Tab
def digits (n : Int) : ByteArray := ⟨(Lib.itoa n).toArray⟩
def nameStr (p : ByteArray) (n : Int) : ByteArray := p ++ digits n
theorem digits_size (n : Int) (hn : OkI n) : (digits n).size ≤ 21 := by
  have := Lib.itoa_length_le n hn.1 hn.2
  show (Lib.itoa n).toArray.size ≤ 21
  rw [List.size_toArray]; exact this
theorem itoa_any (n : Int) (hn : OkI n) (w : World) (hp : Pow w) : Calls Tryz.prog 50 #[.int .i64 n] w fun e w' => e = .returned (.string (digits n)) ∧ Below w.heap.size w w' := by
  have hf : Calls Tryz.prog 95 #[.int .i64 n, .int .i64 10] w fun e w' => e = .returned (.string (digits n)) ∧ Below w.heap.size w w' := by
    refine (Any.internal_strconv_FormatInt_10 Tryz.formatM n hn.1 hn.2 w hp).mono ?_
    rintro e w' ⟨rfl, k, os, rfl⟩
    exact ⟨rfl, Lib.below_grow _ w (Nat.le_refl _) k os⟩
  have HF : Hid _ := hf
  clear hf
  go_enter Tryz.func50, Tryz.ntmps50
  go_wp2_with (first | (go_at_call 95; refine (show Calls _ _ _ _ _ from HF.out).mono ?_; rintro e w1 ⟨rfl, hb1⟩) | go_in)
  go_ret
  exact ⟨rfl, hb1⟩
theorem nameOf_t (n : Int) (hn : OkI n) (w : World) (hp : Pow w) : Calls Tryz.prog 49 #[.int .u8 116, .int .i64 n] w fun e w' => e = .returned (.string (nameStr (Utf8.encode 116) n)) ∧ Below w.heap.size w w' := by
  have HI : Hid _ := itoa_any n hn w hp
  have hs := digits_size n hn
  have he : (Utf8.encode 116).size = 1 := by kernel_rfl
  have hs' : ¬ (9223372036854775807 < (Utf8.encode 116).size + (digits n).size) := by omega
  go_enter Tryz.func49, Tryz.ntmps49
  go_wp2_with (go_at_call 50; refine (show Calls _ _ _ _ _ from HI.out).mono ?_; rintro e w1 ⟨rfl, hb1⟩)
  go_ret
  exact ⟨rfl, hb1⟩
theorem nameOf_w (n : Int) (hn : OkI n) (w : World) (hp : Pow w) : Calls Tryz.prog 49 #[.int .u8 119, .int .i64 n] w fun e w' => e = .returned (.string (nameStr (Utf8.encode 119) n)) ∧ Below w.heap.size w w' := by
  have HI : Hid _ := itoa_any n hn w hp
  have hs := digits_size n hn
  have he : (Utf8.encode 119).size = 1 := by kernel_rfl
  have hs' : ¬ (9223372036854775807 < (Utf8.encode 119).size + (digits n).size) := by omega
  go_enter Tryz.func49, Tryz.ntmps49
  go_wp2_with (go_at_call 50; refine (show Calls _ _ _ _ _ from HI.out).mono ?_; rintro e w1 ⟨rfl, hb1⟩)
  go_ret
  exact ⟨rfl, hb1⟩
theorem nameOf_m (n : Int) (hn : OkI n) (w : World) (hp : Pow w) : Calls Tryz.prog 49 #[.int .u8 109, .int .i64 n] w fun e w' => e = .returned (.string (nameStr (Utf8.encode 109) n)) ∧ Below w.heap.size w w' := by
  have HI : Hid _ := itoa_any n hn w hp
  have hs := digits_size n hn
  have he : (Utf8.encode 109).size = 1 := by kernel_rfl
  have hs' : ¬ (9223372036854775807 < (Utf8.encode 109).size + (digits n).size) := by omega
  go_enter Tryz.func49, Tryz.ntmps49
  go_wp2_with (go_at_call 50; refine (show Calls _ _ _ _ _ from HI.out).mono ?_; rintro e w1 ⟨rfl, hb1⟩)
  go_ret
  exact ⟨rfl, hb1⟩
theorem table_any (n : Int) (hn : OkI n) (w : World) (hp : Pow w) : Calls Tryz.prog 18 #[.int .i64 n] w fun e w' => e = .returned (.string (nameStr (Utf8.encode 116) n)) ∧ Below w.heap.size w w' := by
  have HI : Hid _ := nameOf_t n hn w hp
  go_enter Tryz.func18, Tryz.ntmps18
  go_wp2_with (go_at_call 49; refine (show Calls _ _ _ _ _ from HI.out).mono ?_; rintro e w1 ⟨rfl, hb1⟩)
  go_ret
  exact ⟨rfl, hb1⟩
theorem log_any (n : Int) (hn : OkI n) (w : World) (hp : Pow w) : Calls Tryz.prog 20 #[.int .i64 n] w fun e w' => e = .returned (.string (nameStr (Utf8.encode 119) n)) ∧ Below w.heap.size w w' := by
  have HI : Hid _ := nameOf_w n hn w hp
  go_enter Tryz.func20, Tryz.ntmps20
  go_wp2_with (go_at_call 49; refine (show Calls _ _ _ _ _ from HI.out).mono ?_; rintro e w1 ⟨rfl, hb1⟩)
  go_ret
  exact ⟨rfl, hb1⟩
theorem list_any (n : Int) (hn : OkI n) (w : World) (hp : Pow w) : Calls Tryz.prog 21 #[.int .i64 n] w fun e w' => e = .returned (.string (nameStr (Utf8.encode 109) n)) ∧ Below w.heap.size w w' := by
  have HI : Hid _ := nameOf_m n hn w hp
  go_enter Tryz.func21, Tryz.ntmps21
  go_wp2_with (go_at_call 49; refine (show Calls _ _ _ _ _ from HI.out).mono ?_; rintro e w1 ⟨rfl, hb1⟩)
  go_ret
  exact ⟨rfl, hb1⟩
end Go.Proofs.YtjfanbemihheiaaGreatDoor.Ma
