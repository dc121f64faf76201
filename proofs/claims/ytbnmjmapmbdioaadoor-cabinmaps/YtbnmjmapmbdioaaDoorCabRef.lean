/-
  The document's cabin: a letter, a row's signs, a map.
-/
import Derived.Test.YtbnmjmapmbdioaaDoorCabCheck
namespace Go.Proofs.YtbnmjmapmbdioaaDoor.Cb
open Go.RowKit Cm
attribute [local go_sem ↓] Go.wp_at_zero Go.wp_at_succ
set_option linter.unusedVariables false

/-- The document's great letter; 0: it is none. -/
def rg (c : Int) : Int := if isL (gr c) = true then gr c else 0
theorem greatR_any (c : UInt8) (w : World) : Calls Tryd.prog 28 #[.int .u8 c.toNat] w fun e w' => e = .returned (.int .u8 (rg c.toNat)) ∧ w' = w := by
  have hc : (c.toNat : Int) ≤ 255 := by have := c.toNat_lt; omega
  have hc0 : (0 : Int) ≤ (c.toNat : Int) := by omega
  generalize (c.toNat : Int) = x at *
  by_cases h1 : 97 ≤ x ∧ x ≤ 122
  · have e1 : IntKind.u8.wrap (x - 32) = x - 32 := by simp [IntKind.wrap, IntKind.bits, IntKind.signed]; omega
    have hr : rg x = x - 32 := by unfold rg; rw [gr_low h1, if_pos (by rw [isL_iff]; omega)]
    rw [hr]
    obtain ⟨h2, h3⟩ := h1
    go_enter Tryd.func28, Tryd.ntmps28
    go_wp2
    go_ret
    exact ⟨rfl, rfl⟩
  · by_cases h2 : 65 ≤ x ∧ x ≤ 90
    · have hr : rg x = x := by unfold rg; rw [gr_id h1, if_pos (by rw [isL_iff]; omega)]
      rw [hr]
      obtain ⟨h3, h4⟩ := h2
      have h5 : ¬ 97 ≤ x := by omega
      clear h1
      go_enter Tryd.func28, Tryd.ntmps28
      go_wp2
      go_ret
      exact ⟨rfl, rfl⟩
    · have hr : rg x = 0 := by unfold rg; rw [gr_id h1, if_neg (by rw [isL_iff]; omega)]
      rw [hr]
      by_cases g1 : 97 ≤ x
      · have g2 : ¬ x ≤ 122 := by omega
        have g3 : 65 ≤ x := by omega
        have g4 : ¬ x ≤ 90 := by omega
        clear h1 h2
        go_enter Tryd.func28, Tryd.ntmps28
        go_wp2
        go_ret
        exact ⟨rfl, rfl⟩
      · by_cases g3 : 65 ≤ x
        · have g4 : ¬ x ≤ 90 := by omega
          clear h1 h2
          go_enter Tryd.func28, Tryd.ntmps28
          go_wp2
          go_ret
          exact ⟨rfl, rfl⟩
        · clear h1 h2
          go_enter Tryd.func28, Tryd.ntmps28
          go_wp2
          go_ret
          exact ⟨rfl, rfl⟩
theorem rg_ok {x : Int} (h : isL (gr x) = true) : rg x = gr x := if_pos h
theorem rg_no {x : Int} (h : ¬ isL (gr x) = true) : rg x = 0 := if_neg h
set_option maxRecDepth 100000 in
set_option maxHeartbeats 2000000 in
theorem seatsR_any (s : ByteArray) (w : World) (hs : s.size ≤ maxLen) : Calls Tryd.prog 26 #[.string s] w fun e w' => e = .returned (.bool (scan 0 0 true s.data.toList)) ∧ w' = w := by
  unfold maxLen at hs
  have HG : Hid (∀ c : UInt8, Calls Tryd.prog 28 #[.int .u8 c.toNat] w fun e w' => e = .returned (.int .u8 (rg c.toNat)) ∧ w' = w) := fun c => greatR_any c w
  go_enter Tryd.func26, Tryd.ntmps26
  go_wp2
  go_loop [3, 4, 5] (fun vn vl vi => ∃ (k : Nat) (n l : Int) (ed : Bool), vi = .int .i64 k ∧ k ≤ s.size ∧ vn = .int .i64 n ∧ 0 ≤ n ∧ n ≤ k ∧ vl = .int .u8 l ∧ 0 ≤ l ∧ Hid (scan 0 0 true s.data.toList = scan n l ed (s.data.toList.drop k)) ∧ Hid (k = 0 → ed = true ∧ n = 0) ∧ Hid (∀ j (h : j < s.size), k = j + 1 → if ed = true then (s[j].toNat : Int) = 46 ∧ k < s.size else (s[j].toNat : Int) ≠ 46 ∧ 1 ≤ n)) (fun _ _ vi => s.size - (intOf vi).toNat)
  case atStart => exact ⟨0, 0, 0, true, rfl, by omega, rfl, by omega, by omega, rfl, by omega, rfl, fun _ => ⟨rfl, rfl⟩, fun j h e => by omega⟩
  case round =>
    obtain ⟨k, n, l, ed, rfl, hk, rfl, hn0, hn, rfl, hl0, HS, H0, H1⟩ := hrel
    by_cases hlt : k < s.size
    · have HD := HS.out
      rw [drop_at s k hlt] at HD
      by_cases hd : (s[k].toNat : Int) = 46
      · have hd' : decide ((s[k].toNat : Int) = 46) = true := decide_eq_true hd
        rw [scan_dot hd] at HD
        cases k with
        | zero =>
          rw [if_pos (H0.out rfl).1] at HD
          have HE : Hid _ := HD
          clear HD HS H0 H1
          go_wp2
          go_ret
          refine ⟨?_, rfl⟩
          rw [HE.out]; rfl
        | succ j =>
          have hj : j < s.size := by omega
          have h1 := H1.out j hj rfl
          by_cases hend : j + 2 = s.size
          · have hz : (if ed = true then false else scan n l true (s.data.toList.drop (j + 1 + 1))) = false := by
              rw [drop_end s (j + 1 + 1) (by omega)]
              simp [scan]
            rw [hz] at HD
            have HE : Hid _ := HD
            clear HD HS H0 H1 h1 hz
            have hw : IntKind.i64.wrap ((s.size : Int) - 1) = (s.size : Int) - 1 := IntWalk.i64_in _ ⟨by omega, by omega⟩
            have he' : decide ((j : Int) + 1 = (s.size : Int) - 1) = true := decide_eq_true (by omega)
            go_wp2
            go_ret
            refine ⟨?_, rfl⟩
            rw [HE.out]; rfl
          · have hw : IntKind.i64.wrap ((s.size : Int) - 1) = (s.size : Int) - 1 := IntWalk.i64_in _ ⟨by omega, by omega⟩
            have he0 : (((j : Int) + 1) == 0) = false := by simp; omega
            have he' : (((j : Int) + 1) == (s.size : Int) - 1) = false := by simp; omega
            cases ed
            · have hq : ((s[j].toNat : Int) == 46) = false := by
                have h2 : (s[j].toNat : Int) ≠ 46 := by
                  simp only [Bool.false_eq_true, if_false] at h1
                  exact h1.1
                rw [beq_eq_false_iff_ne]; exact h2
              have HN : Hid (1 ≤ n) := by
                simp only [Bool.false_eq_true, if_false] at h1
                exact h1.2
              have HE : Hid (scan 0 0 true s.data.toList = scan n l true (s.data.toList.drop (j + 1 + 1))) := HD
              have HQ : Hid ((s[j + 1].toNat : Int) = 46) := hd
              clear HD HS H0 H1 h1
              go_wp2
              go_round
              case rel => exact ⟨j + 1 + 1, n, l, true, by go_num, by omega, rfl, hn0, by omega, rfl, hl0, HE, fun h => by omega, fun i hi e => by
                obtain rfl : i = j + 1 := by omega
                rw [if_pos rfl]; exact ⟨HQ.out, by omega⟩⟩
              case measure => simp [intOf]; omega
            · have hq : ((s[j].toNat : Int) == 46) = true := by
                have h2 : (s[j].toNat : Int) = 46 := by
                  simp only [if_true] at h1
                  exact h1.1
                rw [beq_iff_eq]; exact h2
              have HE : Hid (scan 0 0 true s.data.toList = false) := HD
              clear HD HS H0 H1 h1
              go_wp2
              go_ret
              refine ⟨?_, rfl⟩
              rw [HE.out]; rfl
      · have hd' : decide ((s[k].toNat : Int) = 46) = false := decide_eq_false hd
        have HC : Hid _ := HG.out s[k]
        by_cases hx : isL (gr (s[k].toNat : Int)) = true
        · rw [rg_ok hx] at HC
          have hx65 := (isL_iff _).1 hx
          by_cases hle : l < gr (s[k].toNat : Int)
          · rw [scan_let hd hx hle] at HD
            have HE : Hid _ := HD
            have hle' : decide (gr (s[k].toNat : Int) ≤ l) = false := decide_eq_false (by omega)
            have hz : (gr (s[k].toNat : Int) == 0) = false := by rw [beq_eq_false_iff_ne]; omega
            have HQ : Hid ((s[k].toNat : Int) ≠ 46) := hd
            clear HD HS H0 H1 hx
            generalize gr (s[k].toNat : Int) = x at *
            go_wp2_with (go_at_call 28; refine (show Calls _ _ _ _ _ from HC.out).mono ?_; rintro e w1 ⟨rfl, rfl⟩)
            go_round
            case rel => exact ⟨k + 1, n + 1, x, false, by go_num, by omega, by go_num, by omega, by omega, rfl, by omega, HE, fun h => by omega, fun i hi e => by
              obtain rfl : i = k := by omega
              simp only [Bool.false_eq_true, if_false]; exact ⟨HQ.out, by omega⟩⟩
            case measure => simp [intOf]; omega
          · rw [scan_bad hd (fun h => hle h.2)] at HD
            have HE : Hid _ := HD
            have hle' : decide (gr (s[k].toNat : Int) ≤ l) = true := decide_eq_true (by omega)
            have hz : (gr (s[k].toNat : Int) == 0) = false := by rw [beq_eq_false_iff_ne]; omega
            clear HD HS H0 H1 hx
            generalize gr (s[k].toNat : Int) = x at *
            go_wp2_with (go_at_call 28; refine (show Calls _ _ _ _ _ from HC.out).mono ?_; rintro e w1 ⟨rfl, rfl⟩)
            go_ret
            refine ⟨?_, rfl⟩
            rw [HE.out]; rfl
        · rw [rg_no hx] at HC
          rw [scan_bad hd (fun h => hx h.1)] at HD
          have HE : Hid _ := HD
          clear HD HS H0 H1 hx
          go_wp2_with (go_at_call 28; refine (show Calls _ _ _ _ _ from HC.out).mono ?_; rintro e w1 ⟨rfl, rfl⟩)
          go_ret
          refine ⟨?_, rfl⟩
          rw [HE.out]; rfl
    · have HD := HS.out
      rw [drop_end s k hlt] at HD
      have hb : ed = false ∧ 1 ≤ n ∨ n = 0 ∧ ed = true := by
        cases k with
        | zero => exact .inr ⟨(H0.out rfl).2, (H0.out rfl).1⟩
        | succ j =>
          have h1 := H1.out j (by omega) rfl
          cases ed
          · simp only [Bool.false_eq_true, if_false] at h1
            exact .inl ⟨rfl, h1.2⟩
          · simp only [if_true] at h1
            omega
      rcases hb with ⟨rfl, h1⟩ | ⟨rfl, rfl⟩
      · have HE : Hid _ := HD
        clear HD HS H0 H1
        by_cases h6 : n ≤ 6
        · have h6' : decide (n ≤ 6) = true := decide_eq_true h6
          go_wp2
          go_ret
          refine ⟨?_, rfl⟩
          rw [HE.out]; simp [scan, h6]
        · have h6' : decide (n ≤ 6) = false := decide_eq_false h6
          go_wp2
          go_ret
          refine ⟨?_, rfl⟩
          rw [HE.out]; simp [scan, h6]
      · have HE : Hid _ := HD
        clear HD HS H0 H1
        go_wp2
        go_ret
        refine ⟨?_, rfl⟩
        rw [HE.out]; simp [scan]
end Go.Proofs.YtbnmjmapmbdioaaDoor.Cb
