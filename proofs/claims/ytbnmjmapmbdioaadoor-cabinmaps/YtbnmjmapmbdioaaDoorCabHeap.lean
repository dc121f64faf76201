/-
  Package cabin: rows, seats and blocks in memory; a letter; a row's signs.
-/
import Derived.Test.YtbnmjmapmbdioaaDoorCabMath
import Derived.Test.YtbnmjmapmbdioaaDoorCmRows
import Derived.Deep.RegionHeld3
import Derived.Deep.DrawnRows
import Derived.BigQuiet
import Derived.Deep.RegionWith
namespace Go.Proofs.YtbnmjmapmbdioaaDoor.Cb
open Go.RowKit Cm
attribute [local go_sem ↓] Go.wp_at_zero Go.wp_at_succ
set_option linter.unusedVariables false

def rwShape : Shape Rw where
  sz := 5
  enc r := [.int .i64 r.num, .int .i64 r.cab, .int .i64 r.zone, .bool r.exit, .string r.seats]
  pos := by decide
  len _ := rfl
  one r := by intro u hu; simp at hu; rcases hu with rfl | rfl | rfl | rfl | rfl <;> rfl
def spShape : Shape Sp where
  sz := 7
  enc s := [.int .i64 s.num, .int .u8 s.ltr, .int .i64 s.cab, .int .i64 s.zone, .int .i64 s.blk, .bool s.exit, .bool s.bld]
  pos := by decide
  len _ := rfl
  one r := by intro u hu; simp at hu; rcases hu with rfl | rfl | rfl | rfl | rfl | rfl | rfl <;> rfl
theorem great_any (c : UInt8) (w : World) : Calls Tryd.prog 35 #[.int .u8 c.toNat] w fun e w' => e = .returned (.int .u8 (gr c.toNat)) ∧ w' = w := by
  have hc : (c.toNat : Int) ≤ 255 := by have := c.toNat_lt; omega
  have hc0 : (0 : Int) ≤ (c.toNat : Int) := by omega
  generalize (c.toNat : Int) = x at *
  by_cases h1 : 97 ≤ x
  · by_cases h2 : x ≤ 122
    · rw [gr_low ⟨h1, h2⟩]
      have e1 : IntKind.u8.wrap (x - 97) = x - 97 := by simp [IntKind.wrap, IntKind.bits, IntKind.signed]; omega
      have e2 : IntKind.u8.wrap (x - 97 + 65) = x - 32 := by simp [IntKind.wrap, IntKind.bits, IntKind.signed]; omega
      go_enter Tryd.func35, Tryd.ntmps35
      go_wp2
      go_ret
      refine ⟨?_, rfl⟩
      first | rfl | (congr 1; congr 1; omega)
    · rw [gr_id (by omega)]
      go_enter Tryd.func35, Tryd.ntmps35
      go_wp2
      go_ret
      exact ⟨rfl, rfl⟩
  · rw [gr_id (by omega)]
    go_enter Tryd.func35, Tryd.ntmps35
    go_wp2
    go_ret
    exact ⟨rfl, rfl⟩
theorem isLetter_any (x : Int) (w : World) : Calls Tryd.prog 31 #[.int .u8 x] w fun e w' => e = .returned (.bool (isL x)) ∧ w' = w := by
  unfold isL
  by_cases h1 : 65 ≤ x
  · have h1' : decide (65 ≤ x) = true := decide_eq_true h1
    go_enter Tryd.func31, Tryd.ntmps31
    go_wp2
    go_ret
    refine ⟨?_, rfl⟩
    simp [h1]
  · have h1' : decide (65 ≤ x) = false := decide_eq_false h1
    go_enter Tryd.func31, Tryd.ntmps31
    go_wp2
    go_ret
    refine ⟨?_, rfl⟩
    simp
/-- How the signs of a text go on. -/
theorem drop_at (s : ByteArray) (k : Nat) (h : k < s.size) : s.data.toList.drop k = s[k] :: s.data.toList.drop (k + 1) := by
  rw [List.drop_eq_getElem_cons (by simpa using h)]; rfl
theorem drop_end (s : ByteArray) (k : Nat) (h : ¬ k < s.size) : s.data.toList.drop k = [] := List.drop_of_length_le (by simp; omega)
set_option maxRecDepth 100000 in
set_option maxHeartbeats 1000000 in
theorem rightSeats_any (s : ByteArray) (w : World) (hs : s.size ≤ maxLen) : Calls Tryd.prog 34 #[.string s] w fun e w' => e = .returned (.bool (scan 0 0 true s.data.toList)) ∧ w' = w := by
  unfold maxLen at hs
  have HG : Hid (∀ c : UInt8, Calls Tryd.prog 35 #[.int .u8 c.toNat] w fun e w' => e = .returned (.int .u8 (gr c.toNat)) ∧ w' = w) := fun c => great_any c w
  have HI : Hid (∀ x : Int, Calls Tryd.prog 31 #[.int .u8 x] w fun e w' => e = .returned (.bool (isL x)) ∧ w' = w) := fun x => isLetter_any x w
  go_enter Tryd.func34, Tryd.ntmps34
  go_wp2
  go_loop [3, 4, 5, 10] (fun vn vl ve vi => ∃ (k : Nat) (n l : Int) (ed : Bool), vi = .int .i64 k ∧ k ≤ s.size ∧ vn = .int .i64 n ∧ 0 ≤ n ∧ n ≤ k ∧ vl = .int .u8 l ∧ ve = .bool ed ∧ Hid (scan 0 0 true s.data.toList = scan n l ed (s.data.toList.drop k))) (fun _ _ _ vi => s.size - (intOf vi).toNat)
  case atStart => exact ⟨0, 0, 0, true, rfl, by omega, rfl, by omega, by omega, rfl, rfl, rfl⟩
  case round =>
    obtain ⟨k, n, l, ed, rfl, hk, rfl, hn0, hn, rfl, rfl, HS⟩ := hrel
    by_cases hlt : k < s.size
    · have HD := HS.out
      rw [drop_at s k hlt] at HD
      by_cases hd : (s[k].toNat : Int) = 46
      · rw [scan_dot hd] at HD
        have HE : Hid _ := HD
        have hd' : decide ((s[k].toNat : Int) = 46) = true := decide_eq_true hd
        clear HD HS
        cases ed
        · go_wp2
          go_round
          case rel => exact ⟨k + 1, n, l, true, by go_num, by omega, rfl, hn0, by omega, rfl, rfl, by rw [HE.out]; rfl⟩
          case measure => simp [intOf]; omega
        · go_wp2
          go_ret
          refine ⟨?_, rfl⟩
          rw [HE.out]; rfl
      · have hd' : decide ((s[k].toNat : Int) = 46) = false := decide_eq_false hd
        have HC : Hid _ := HG.out s[k]
        by_cases hl : isL (gr (s[k].toNat : Int)) = true ∧ l < gr (s[k].toNat : Int)
        · rw [scan_let hd hl.1 hl.2] at HD
          have HE : Hid _ := HD
          have HL : Hid _ := HI.out (gr (s[k].toNat : Int))
          rw [hl.1] at HL
          have hle : ¬ (gr (s[k].toNat : Int) ≤ l) := by omega
          have hle' : decide (gr (s[k].toNat : Int) ≤ l) = false := decide_eq_false hle
          clear HD HS HG HI hl
          generalize gr (s[k].toNat : Int) = x at *
          go_wp2_with (first | (go_at_call 35; refine (show Calls _ _ _ _ _ from HC.out).mono ?_; rintro e w1 ⟨rfl, rfl⟩) | (go_at_call 31; refine (show Calls _ _ _ _ _ from HL.out).mono ?_; rintro e w1 ⟨rfl, rfl⟩))
          go_round
          case rel => exact ⟨k + 1, n + 1, x, false, by go_num, by omega, by go_num, by omega, by omega, rfl, rfl, by rw [HE.out]; rfl⟩
          case measure => simp [intOf]; omega
        · rw [scan_bad hd hl] at HD
          have HE : Hid _ := HD
          have HL : Hid _ := HI.out (gr (s[k].toNat : Int))
          clear HD HS HG HI
          generalize gr (s[k].toNat : Int) = x at *
          rcases Bool.eq_false_or_eq_true (isL x) with hx | hx
          · have hle : x ≤ l := by
              by_cases h : l < x
              · exact absurd ⟨hx, h⟩ hl
              · omega
            have hle' : decide (x ≤ l) = true := decide_eq_true hle
            rw [hx] at HL
            clear hl hx
            go_wp2_with (first | (go_at_call 35; refine (show Calls _ _ _ _ _ from HC.out).mono ?_; rintro e w1 ⟨rfl, rfl⟩) | (go_at_call 31; refine (show Calls _ _ _ _ _ from HL.out).mono ?_; rintro e w1 ⟨rfl, rfl⟩))
            go_ret
            refine ⟨?_, rfl⟩
            rw [HE.out]; rfl
          · rw [hx] at HL
            clear hl hx
            go_wp2_with (first | (go_at_call 35; refine (show Calls _ _ _ _ _ from HC.out).mono ?_; rintro e w1 ⟨rfl, rfl⟩) | (go_at_call 31; refine (show Calls _ _ _ _ _ from HL.out).mono ?_; rintro e w1 ⟨rfl, rfl⟩))
            go_ret
            refine ⟨?_, rfl⟩
            rw [HE.out]; rfl
    · have HD := HS.out
      rw [drop_end s k hlt] at HD
      have HE : Hid _ := HD
      clear HD HS HG HI
      cases ed
      · by_cases h6 : n ≤ 6
        · have h6' : decide (n ≤ 6) = true := decide_eq_true h6
          go_wp2
          go_ret
          refine ⟨?_, rfl⟩
          rw [HE.out]; simp [scan, h6]
        · have h6' : decide (n ≤ 6) = false := decide_eq_false h6
          go_wp2
          go_ret
          refine ⟨?_, rfl⟩
          rw [HE.out]; simp [scan, h6]
      · go_wp2
        go_ret
        refine ⟨?_, rfl⟩
        rw [HE.out]; simp [scan]
end Go.Proofs.YtbnmjmapmbdioaaDoor.Cb
