/-
  The document's answer for layer 1 (package tarmacref01): what its reader's Num, Int and Text answer.
-/
import Derived.Test.YtjfanbemihheiaaGreatDoorQPackRef
import Derived.Test.YtjfanbemihheiaaGreatDoorQPackRead
import Derived.Deep.RegionWith
namespace Go.Proofs.YtjfanbemihheiaaGreatDoor.Pk
open Go.RowKit
set_option linter.unusedVariables false

/-- Block b is the document's reader with the bytes s left. -/
def RfAt (w : World) (b : Nat) (s : ByteArray) : Prop := w.heap[b]? = some (.cells #[.string s] 83 (0, 0))
theorem RfAt.lt {w : World} {b : Nat} {s : ByteArray} (h : RfAt w b s) : b < w.heap.size := lt_of_block h
theorem RfAt.below {w w' : World} {b : Nat} {s : ByteArray} (h : RfAt w b s) {B : Nat} (hb : Below B w w') (hB : b < B) : RfAt w' b s := (hb.block b hB).trans h

/-- Where byte k is the last: the number's own bytes stand there just if they are a number's. -/
theorem enc_last (s : ByteArray) (k : Nat) (h : k < s.size) (hk : k < 10) (hp : ∀ x ∈ s.data.toList.take k, 128 ≤ x.toNat) (hc : s[k].toNat < 128) (h9 : ¬ (k = 9 ∧ 1 < s[k].toNat)) :
    (dnum s.data.toList = none ∧ enc (val (s.data.toList.take k) + 128 ^ k * s[k].toNat) ≠ s.data.toList.take (k + 1)) ∨
    (dnum s.data.toList = some (val (s.data.toList.take k) + 128 ^ k * s[k].toNat, k + 1) ∧ enc (val (s.data.toList.take k) + 128 ^ k * s[k].toNat) = s.data.toList.take (k + 1)) := by
  have hl := take_len s k (by omega)
  have hd := dnum_last (s.data.toList.take k) s[k] (s.data.toList.drop (k + 1)) (by omega) hp hc
  rw [← split_at s k h, hl] at hd
  have hv := val_lt (s.data.toList.take k)
  rw [hl] at hv
  by_cases h0 : 0 < k ∧ s[k].toNat = 0
  · rw [if_pos (.inl h0)] at hd
    refine .inl ⟨hd, fun e => ?_⟩
    have hb : val (s.data.toList.take k) + 128 ^ k * s[k].toNat < 18446744073709551616 := by
      rw [h0.2]
      have h3 : (128 : Nat) ^ k ≤ 128 ^ 9 := Nat.pow_le_pow_right (by omega) (by omega)
      omega
    have h1 := dnum_enc _ (s.data.toList.drop (k + 1)) hb
    rw [e, List.take_append_drop, hd] at h1
    cases h1
  · rw [if_neg (by omega)] at hd
    refine .inr ⟨hd, ?_⟩
    obtain ⟨_, h2, h3, _⟩ := dnum_some hd
    have h4 := congrArg (List.take (k + 1)) h3
    generalize val (s.data.toList.take k) + 128 ^ k * s[k].toNat = N at *
    rw [h4, h2, List.take_left]

theorem drew1_below {w w2 : World} (h : Below w.drew.heap.size w.drew w2) : Below w.heap.size w w2 := ⟨h.os, h.tape, h.output, h.size, h.block⟩
theorem sum_lt {v c k : Nat} (hv : v < 128 ^ k) (hk : k < 10) (h9 : k = 9 → c % 128 ≤ 1) : v + 128 ^ k * (c % 128) < 18446744073709551616 := by
  by_cases h : k = 9
  · have h1 := h9 h
    have h2 : 128 ^ k = 128 ^ 9 := by rw [h]
    have h4 : 128 ^ k * (c % 128) ≤ 128 ^ 9 * 1 := by rw [h2]; exact Nat.mul_le_mul (Nat.le_refl _) h1
    omega
  · have h3 : (128 : Nat) ^ k ≤ 128 ^ 8 := Nat.pow_le_pow_right (by omega) (by omega)
    have h4 : 128 ^ k * (c % 128) ≤ 128 ^ 8 * 127 := Nat.mul_le_mul h3 (by omega)
    omega
theorem str_to (s : ByteArray) (k : Nat) (h : k + 1 ≤ s.size) (W : World) : (Instr.slice 9 (.string s) none (some (.int .i64 ((k : Int) + 1))) none).run Tryz.prog W = .ok (.string (s.extract 0 (k + 1))) W := by
  have := run_slice_string_h (P := Tryz.prog) W 9 s Tryz.underlying9 .i64 ((k : Int) + 1) (by omega) (by omega)
  rwa [show ((k : Int) + 1).toNat = k + 1 by omega] at this
theorem mul_unit {c k : Nat} (hc : c < 128) (hk : k < 10) (h9 : k = 9 → c ≤ 1) : IntKind.u64.wrap ((c : Int) * ((128 ^ k : Nat) : Int)) = ((128 ^ k * c : Nat) : Int) := by
  rw [show ((c : Int) * ((128 ^ k : Nat) : Int)) = ((128 ^ k * c : Nat) : Int) by rw [Int.natCast_mul, Int.mul_comm]]
  refine IntWalk.u64_in _ ⟨by omega, ?_⟩
  have h2 : 128 ^ k * c ≤ 18446744073709551615 := by
    by_cases h : k = 9
    · subst h; have := h9 rfl; omega
    · have h3 : (128 : Nat) ^ k ≤ 128 ^ 8 := Nat.pow_le_pow_right (by omega) (by omega)
      have h4 : 128 ^ k * c ≤ 128 ^ 8 * 127 := Nat.mul_le_mul h3 (by omega)
      omega
  omega

set_option maxRecDepth 100000 in
set_option maxHeartbeats 2000000 in
theorem fNum_any (b : Nat) (s : ByteArray) (w : World) (hr : RfAt w b s) (hs : s.size ≤ maxLen) :
    Calls Tryz.prog 45 #[.pointer (some ⟨b, 0, none⟩)] w fun e w' =>
      (dnum s.data.toList = none ∧ e = .returned (.tuple #[.int .u64 0, .int .i64 1]) ∧ Below w.heap.size w w') ∨
      (∃ n k, dnum s.data.toList = some (n, k) ∧ e = .returned (.tuple #[.int .u64 n, .int .i64 0]) ∧ ∃ w1, Below w.heap.size w w1 ∧ w' = w1.setCell ⟨b, 0, none⟩ (.string (s.extract k s.size))) := by
  have hc := cell_of_one hr
  have hf := free_of_one hr
  have hlt := hr.lt
  unfold maxLen at hs
  go_enter Tryz.func45, Tryz.ntmps45
  go_wp2
  go_loop [4, 5] (fun n i => ∃ (k : Nat) (m : Int), k ≤ 10 ∧ k ≤ s.size ∧ i = .int .i64 k ∧ n = .int .u64 m ∧ Hid (k < 10 → m = ((val (s.data.toList.take k) : Nat) : Int)) ∧ Hid (∀ x ∈ s.data.toList.take k, 128 ≤ x.toNat)) (fun _ i => 10 - (intOf i).toNat)
  case atStart => exact ⟨0, 0, by omega, by omega, rfl, rfl, fun _ => rfl, fun x hx => by simp at hx⟩
  case round =>
    obtain ⟨k, m, hk, hk2, rfl, rfl, HM, HP⟩ := hrel
    by_cases hk10 : k < 10
    · by_cases hks : k < s.size
      · have hv : val (s.data.toList.take k) < 128 ^ k := by have := val_lt (s.data.toList.take k); rwa [take_len s k (by omega)] at this
        have hcl := u8_lt s[k]
        have hm := HM.out hk10
        subst hm
        clear HM
        by_cases h9 : k = 9 ∧ 1 < s[k].toNat
        · have HD : Hid (dnum s.data.toList = none) := by
            obtain ⟨rfl, h9⟩ := h9
            show dnum _ = none
            by_cases h128 : s[9].toNat < 128
            · have := dnum_last (s.data.toList.take 9) s[9] (s.data.toList.drop 10) (by rw [take_len s 9 (by omega)]; omega) HP.out h128
              rw [← split_at s 9 hks, take_len s 9 (by omega)] at this
              rw [this, if_pos (.inr ⟨rfl, h9⟩)]
            · refine dnum_no_last _ ?_
              rw [take_snoc s 9 hks]
              intro x hx
              rcases List.mem_append.1 hx with hx | hx
              · exact HP.out x hx
              · simp at hx; subst hx; omega
          obtain ⟨hk9, h91⟩ := h9
          have hb9 : ((k : Int) == 9) = true := by rw [beq_iff_eq]; omega
          have hn1 : 1 ≤ s[k].toNat := by omega
          clear hk9
          go_wp2
          go_ret2
          exact .inl ⟨HD.out, rfl, Below.refl _ _⟩
        · have HK9 : Hid (k = 9 → s[k].toNat % 128 ≤ 1) := by intro h; have : ¬ 1 < s[k].toNat := fun g => h9 ⟨h, g⟩; omega
          have hcases : (((k : Int) == 9) = true ∧ s[k].toNat ≤ 1) ∨ ((k : Int) == 9) = false := by
            by_cases h : k = 9
            · left; exact ⟨by rw [beq_iff_eq]; omega, by have : ¬ 1 < s[k].toNat := fun g => h9 ⟨h, g⟩; omega⟩
            · right; rw [beq_eq_false_iff_ne]; omega
          have H9 : Hid _ := h9
          clear h9
          rcases hcases with ⟨hb9, hle1⟩ | hb9
          · skip
            go_wp2
            go_loop [7, 8] (fun u i => ∃ j U : Nat, j ≤ k ∧ i = .int .i64 j ∧ u = .int .u64 U ∧ Hid (U = 128 ^ j)) (fun _ i => k - (intOf i).toNat)
            case atStart => exact ⟨0, 1, by omega, rfl, rfl, rfl⟩
            case round =>
              obtain ⟨j, U, hj, rfl, rfl, HU⟩ := hrel
              by_cases hjk : j < k
              · have hU : U ≤ 72057594037927936 := by
                  rw [HU.out]
                  have h3 : (128 : Nat) ^ j ≤ 128 ^ 8 := Nat.pow_le_pow_right (by omega) (by omega)
                  omega
                have HU1 : Hid (U * 128 = 128 ^ (j + 1)) := by show _ = _; rw [HU.out, Nat.pow_succ]
                go_wp2
                go_round
                case rel => exact ⟨j + 1, U * 128, by omega, by go_num, by go_num, HU1⟩
                case measure => simp [intOf]; omega
              · obtain rfl : j = k := by omega
                obtain ⟨P, HPP⟩ : ∃ P : Nat, Hid (P = 128 ^ j * (s[j].toNat % 128)) := ⟨128 ^ j * (s[j].toNat % 128), rfl⟩
                have hmul : IntKind.u64.wrap ((s[j].toNat : Int) % 128 * (U : Int)) = (P : Int) := by
                  rw [HPP.out, HU.out]
                  exact mul_unit (c := s[j].toNat % 128) (by omega) hk10 HK9.out
                have hsum : val (s.data.toList.take j) + P < 18446744073709551616 := by
                  rw [HPP.out]
                  exact sum_lt hv hk10 HK9.out
                have h128 : s[j].toNat < 128 := by omega
                have HE : Hid _ := enc_last s j hks hk10 HP.out h128 H9.out
                rw [show 128 ^ j * s[j].toNat = P by rw [HPP.out, Nat.mod_eq_of_lt h128]] at HE
                have hj1 : (j : Int) + 1 ≤ (s.size : Int) := by omega
                have hj0 : (0 : Int) ≤ (j : Int) + 1 := by omega
                have hwj : IntKind.i64.wrap ((j : Int) + 1) = (j : Int) + 1 := IntWalk.i64_in _ ⟨by omega, by omega⟩
                have hsl := str_to s j (by omega)
                have hXd : (s.extract 0 (j + 1)).data.toList = s.data.toList.take (j + 1) := by rw [Lib.extract_data]; simp
                have HXd : Hid _ := hXd
                clear hXd
                generalize val (s.data.toList.take j) = V at *
                generalize s.extract 0 (j + 1) = X at *
                have hne0 : (V : Int) + (P : Int) ≤ 18446744073709551615 := by omega
                rcases HE.out with ⟨hd, hne⟩ | ⟨hd, heq⟩
                · have hcmp : (((⟨(enc (V + P)).toArray⟩ : ByteArray)).toList == X.toList) = false := by
                    rw [Lib.toList_data, Lib.toList_data, HXd.out, beq_eq_false_iff_ne]; exact hne
                  have HD : Hid _ := hd
                  clear hd HE
                  generalize hY : (⟨(enc (V + P)).toArray⟩ : ByteArray) = Y at *
                  have hct : ∀ W : World, Calls Tryz.prog 37 #[.int .u64 ((V : Int) + (P : Int))] W fun e w' => e = .returned (.string Y) ∧ Below W.heap.size W w' := fun W => by rw [← hY]; exact_mod_cast refNum_any (V + P) W hsum
                  have HCT : Hid _ := hct
                  clear hct hY
                  go_wp2
                  go_region_with (go_at_call 37; refine (HCT.out _).mono ?_; rintro e w2 ⟨rfl, hb2⟩; have hc2 : w2.cell? ⟨b, 0, none⟩ = some (.string s) := (hb2.cell (by simpa using hlt)).trans (by simpa using hc))
                  all_goals
                    have hbq : Below w.heap.size w w2 := drew1_below hb2
                    go_wp2
                    go_ret2
                    exact .inl ⟨HD.out, rfl, hbq⟩
                · have hcmp : (((⟨(enc (V + P)).toArray⟩ : ByteArray)).toList == X.toList) = true := by
                    rw [Lib.toList_data, Lib.toList_data, HXd.out, beq_iff_eq]; exact heq
                  have HD : Hid _ := hd
                  clear hd HE
                  generalize hY : (⟨(enc (V + P)).toArray⟩ : ByteArray) = Y at *
                  have hct : ∀ W : World, Calls Tryz.prog 37 #[.int .u64 ((V : Int) + (P : Int))] W fun e w' => e = .returned (.string Y) ∧ Below W.heap.size W w' := fun W => by rw [← hY]; exact_mod_cast refNum_any (V + P) W hsum
                  have HCT : Hid _ := hct
                  clear hct hY
                  go_wp2
                  go_region_with (go_at_call 37; refine (HCT.out _).mono ?_; rintro e w2 ⟨rfl, hb2⟩; have hc2 : w2.cell? ⟨b, 0, none⟩ = some (.string s) := (hb2.cell (by simpa using hlt)).trans (by simpa using hc))
                  all_goals
                    have hbq : Below w.heap.size w w2 := drew1_below hb2
                    have hf2 : w2.frozen? ⟨b, 0, none⟩ = false := (hbq.frozen (by simpa using hlt)).trans hf
                    go_wp2
                    go_ret2
                    exact .inr ⟨V + P, j + 1, HD.out, by rw [Int.natCast_add]; rfl, w2, hbq, rfl⟩
          · skip
            go_wp2
            go_loop [7, 8] (fun u i => ∃ j U : Nat, j ≤ k ∧ i = .int .i64 j ∧ u = .int .u64 U ∧ Hid (U = 128 ^ j)) (fun _ i => k - (intOf i).toNat)
            case atStart => exact ⟨0, 1, by omega, rfl, rfl, rfl⟩
            case round =>
              obtain ⟨j, U, hj, rfl, rfl, HU⟩ := hrel
              by_cases hjk : j < k
              · have hU : U ≤ 72057594037927936 := by
                  rw [HU.out]
                  have h3 : (128 : Nat) ^ j ≤ 128 ^ 8 := Nat.pow_le_pow_right (by omega) (by omega)
                  omega
                have HU1 : Hid (U * 128 = 128 ^ (j + 1)) := by show _ = _; rw [HU.out, Nat.pow_succ]
                go_wp2
                go_round
                case rel => exact ⟨j + 1, U * 128, by omega, by go_num, by go_num, HU1⟩
                case measure => simp [intOf]; omega
              · obtain rfl : j = k := by omega
                obtain ⟨P, HPP⟩ : ∃ P : Nat, Hid (P = 128 ^ j * (s[j].toNat % 128)) := ⟨128 ^ j * (s[j].toNat % 128), rfl⟩
                have hmul : IntKind.u64.wrap ((s[j].toNat : Int) % 128 * (U : Int)) = (P : Int) := by
                  rw [HPP.out, HU.out]
                  exact mul_unit (c := s[j].toNat % 128) (by omega) hk10 HK9.out
                have hsum : val (s.data.toList.take j) + P < 18446744073709551616 := by
                  rw [HPP.out]
                  exact sum_lt hv hk10 HK9.out
                by_cases h128 : s[j].toNat < 128
                · have HE : Hid _ := enc_last s j hks hk10 HP.out h128 H9.out
                  rw [show 128 ^ j * s[j].toNat = P by rw [HPP.out, Nat.mod_eq_of_lt h128]] at HE
                  have hj1 : (j : Int) + 1 ≤ (s.size : Int) := by omega
                  have hj0 : (0 : Int) ≤ (j : Int) + 1 := by omega
                  have hwj : IntKind.i64.wrap ((j : Int) + 1) = (j : Int) + 1 := IntWalk.i64_in _ ⟨by omega, by omega⟩
                  have hsl := str_to s j (by omega)
                  have hXd : (s.extract 0 (j + 1)).data.toList = s.data.toList.take (j + 1) := by rw [Lib.extract_data]; simp
                  have HXd : Hid _ := hXd
                  clear hXd
                  generalize val (s.data.toList.take j) = V at *
                  generalize s.extract 0 (j + 1) = X at *
                  have hne0 : (V : Int) + (P : Int) ≤ 18446744073709551615 := by omega
                  rcases HE.out with ⟨hd, hne⟩ | ⟨hd, heq⟩
                  · have hcmp : (((⟨(enc (V + P)).toArray⟩ : ByteArray)).toList == X.toList) = false := by
                      rw [Lib.toList_data, Lib.toList_data, HXd.out, beq_eq_false_iff_ne]; exact hne
                    have HD : Hid _ := hd
                    clear hd HE
                    generalize hY : (⟨(enc (V + P)).toArray⟩ : ByteArray) = Y at *
                    have hct : ∀ W : World, Calls Tryz.prog 37 #[.int .u64 ((V : Int) + (P : Int))] W fun e w' => e = .returned (.string Y) ∧ Below W.heap.size W w' := fun W => by rw [← hY]; exact_mod_cast refNum_any (V + P) W hsum
                    have HCT : Hid _ := hct
                    clear hct hY
                    go_wp2
                    go_region_with (go_at_call 37; refine (HCT.out _).mono ?_; rintro e w2 ⟨rfl, hb2⟩; have hc2 : w2.cell? ⟨b, 0, none⟩ = some (.string s) := (hb2.cell (by simpa using hlt)).trans (by simpa using hc))
                    all_goals
                      have hbq : Below w.heap.size w w2 := drew1_below hb2
                      go_wp2
                      go_ret2
                      exact .inl ⟨HD.out, rfl, hbq⟩
                  · have hcmp : (((⟨(enc (V + P)).toArray⟩ : ByteArray)).toList == X.toList) = true := by
                      rw [Lib.toList_data, Lib.toList_data, HXd.out, beq_iff_eq]; exact heq
                    have HD : Hid _ := hd
                    clear hd HE
                    generalize hY : (⟨(enc (V + P)).toArray⟩ : ByteArray) = Y at *
                    have hct : ∀ W : World, Calls Tryz.prog 37 #[.int .u64 ((V : Int) + (P : Int))] W fun e w' => e = .returned (.string Y) ∧ Below W.heap.size W w' := fun W => by rw [← hY]; exact_mod_cast refNum_any (V + P) W hsum
                    have HCT : Hid _ := hct
                    clear hct hY
                    go_wp2
                    go_region_with (go_at_call 37; refine (HCT.out _).mono ?_; rintro e w2 ⟨rfl, hb2⟩; have hc2 : w2.cell? ⟨b, 0, none⟩ = some (.string s) := (hb2.cell (by simpa using hlt)).trans (by simpa using hc))
                    all_goals
                      have hbq : Below w.heap.size w w2 := drew1_below hb2
                      have hf2 : w2.frozen? ⟨b, 0, none⟩ = false := (hbq.frozen (by simpa using hlt)).trans hf
                      go_wp2
                      go_ret2
                      exact .inr ⟨V + P, j + 1, HD.out, by rw [Int.natCast_add]; rfl, w2, hbq, rfl⟩
                · have HS : Hid (∀ x ∈ s.data.toList.take (j + 1), 128 ≤ x.toNat) := by
                    show ∀ x ∈ s.data.toList.take (j + 1), 128 ≤ x.toNat
                    rw [take_snoc s j hks]
                    intro x hx
                    rcases List.mem_append.1 hx with hx | hx
                    · exact HP.out x hx
                    · simp at hx; subst hx; omega
                  have HV : Hid (j + 1 < 10 → ((val (s.data.toList.take j) : Nat) : Int) + (P : Int) = ((val (s.data.toList.take (j + 1)) : Nat) : Int)) := by
                    intro h
                    rw [take_snoc s j hks, val_snoc, take_len s j (by omega), HPP.out]
                    omega
                  go_wp2
                  go_round
                  case rel => exact ⟨j + 1, _, by omega, by omega, by go_num, rfl, HV, HS⟩
                  case measure => simp [intOf]; omega
      · have HD : Hid (dnum s.data.toList = none) := dnum_no_last _ (by rw [List.take_of_length_le (by rw [← Lib.size_eq]; omega)]; have := HP.out; rwa [List.take_of_length_le (by rw [← Lib.size_eq]; omega)] at this)
        go_wp2
        go_ret2
        exact .inl ⟨HD.out, rfl, Below.refl _ _⟩
    · have HD : Hid (dnum s.data.toList = none) := dnum_no_last _ (by have := HP.out; rwa [show k = 10 by omega] at this)
      go_wp2
      go_ret2
      exact .inl ⟨HD.out, rfl, Below.refl _ _⟩

end Go.Proofs.YtjfanbemihheiaaGreatDoor.Pk
