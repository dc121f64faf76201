/-
  Package pack's inner functions 'spare', 'above' and 'number': what they answer, for every text.
-/
import Derived.Test.YtjiajnmpdlaidaaProg
import Derived.Test.YtjiajnmpdlaidaaPackMath
import Derived.WalkKit
import Derived.Deep.Light
import Derived.Laws.BitsAllLaws
namespace Go.Proofs.Ytjiajnmpdlaidaa.Pk
open Go.RowKit
set_option linter.unusedVariables false

theorem ret_bool {a b : Bool} (h : a = b) : Ending.returned (.bool a) = .returned (.bool b) := by rw [h]

theorem spare_any (i : Nat) (c : UInt8) (w : World) (hi : i < 10) :
    Calls Try.prog 47 #[.int .i64 i, .int .u8 c.toNat] w fun e w' => e = .returned (.bool (decide (0 < i ∧ c.toNat = 0))) ∧ w' = w := by
  go_enter Try.func47, Try.ntmps47
  go_wp2
  · have h : 0 < i := by assumption
    go_ret
    exact ⟨ret_bool (by rw [Bool.eq_iff_iff]; simp [h]), rfl⟩
  · have h : ¬ 0 < i := by assumption
    go_ret
    exact ⟨ret_bool (by simp [h]), rfl⟩
theorem above_any (i : Nat) (c : UInt8) (w : World) (hi : i < 10) :
    Calls Try.prog 48 #[.int .i64 i, .int .u8 c.toNat] w fun e w' => e = .returned (.bool (decide (i = 9 ∧ 1 < c.toNat))) ∧ w' = w := by
  by_cases h : i = 9
  · subst h
    go_enter Try.func48, Try.ntmps48
    go_wp2
    go_ret
    exact ⟨ret_bool (by rw [Bool.eq_iff_iff]; simp; omega), rfl⟩
  · have h9 : ((i : Int) == 9) = false := by rw [beq_eq_false_iff_ne]; omega
    go_enter Try.func48, Try.ntmps48
    go_wp2
    go_ret
    exact ⟨ret_bool (by simp [h]), rfl⟩

theorem mask127 (c : UInt8) : bits .andNot .u8 (c.toNat : Int) 128 = ((c.toNat % 128 : Nat) : Int) := by
  have := u8_andNot_nat c.toNat 128 (u8_lt _) (by omega)
  rw [show (((128 : Nat) : Int)) = 128 from rfl] at this
  rw [this]
  congr 1
  exact Nat.and_two_pow_sub_one_eq_mod _ 7
theorem pow7 (k : Nat) : 2 ^ (7 * k) = 128 ^ k := by rw [Nat.pow_mul]
theorem shl7 {c k : Nat} (hc : c < 256) (hk : k < 10) (h9 : k = 9 → c % 128 ≤ 1) : IntKind.u64.wrap ((c : Int) % 128 * 2 ^ (7 * k)) = ((128 ^ k * (c % 128) : Nat) : Int) := by
  have e : ((c : Int) % 128 * 2 ^ (7 * k)) = ((128 ^ k * (c % 128) : Nat) : Int) := by
    rw [← pow7]; push_cast; rw [Int.mul_comm]
  rw [e]
  refine IntWalk.u64_in _ ⟨by omega, ?_⟩
  have h2 : 128 ^ k * (c % 128) ≤ 18446744073709551615 := by
    by_cases h : k = 9
    · subst h
      have := h9 rfl
      omega
    · have h3 : (128 : Nat) ^ k ≤ 128 ^ 8 := Nat.pow_le_pow_right (by omega) (by omega)
      have h4 : 128 ^ k * (c % 128) ≤ 128 ^ 8 * 127 := Nat.mul_le_mul h3 (by omega)
      omega
  omega
theorem or_sum {m k c : Nat} (hm : m < 128 ^ k) (hb : 128 ^ k * (c % 128) < 18446744073709551616) (hk : k < 10) : bits .or .u64 (m : Int) ((128 ^ k * (c % 128) : Nat) : Int) = ((m + 128 ^ k * (c % 128) : Nat) : Int) := by
  have h3 : (128 : Nat) ^ k ≤ 128 ^ 9 := Nat.pow_le_pow_right (by omega) (by omega)
  rw [u64_or_nat _ _ (by omega) hb]
  congr 1
  rw [← pow7] at hm ⊢
  rw [Nat.or_comm, ← Nat.two_pow_add_eq_or_of_lt hm, Nat.add_comm]

theorem take_snoc (s : ByteArray) (k : Nat) (h : k < s.size) : s.data.toList.take (k + 1) = s.data.toList.take k ++ [s[k]] := by
  rw [List.take_succ_eq_append_getElem (by simpa using h)]; rfl
theorem take_len (s : ByteArray) (k : Nat) (h : k ≤ s.size) : (s.data.toList.take k).length = k := by
  rw [List.length_take, Array.length_toList]; exact Nat.min_eq_left h
theorem split_at (s : ByteArray) (k : Nat) (h : k < s.size) : s.data.toList = s.data.toList.take k ++ s[k] :: s.data.toList.drop (k + 1) := by
  have h' : k < s.data.toList.length := by simpa using h
  conv => lhs; rw [← List.take_append_drop k s.data.toList]
  rw [List.drop_eq_getElem_cons h']; rfl
/-- What the number comes to where byte k is the last. -/
theorem num_last (s : ByteArray) (k : Nat) (h : k < s.size) (hk : k < 10) (hp : ∀ x ∈ s.data.toList.take k, 128 ≤ x.toNat) (hc : s[k].toNat < 128) :
    num s.data.toList = if (0 < k ∧ s[k].toNat = 0) ∨ (k = 9 ∧ 1 < s[k].toNat) then (0, 0) else (val (s.data.toList.take k) + 128 ^ k * s[k].toNat, k + 1) := by
  have hl := take_len s k (by omega)
  have := dnum_last (s.data.toList.take k) s[k] (s.data.toList.drop (k + 1)) (by omega) hp hc
  rw [← split_at s k h, hl] at this
  rw [num, this]
  split <;> rfl
theorem num_no_last (s : ByteArray) (k : Nat) (h : k = s.size ∨ k = 10) (hp : ∀ x ∈ s.data.toList.take k, 128 ≤ x.toNat) : num s.data.toList = (0, 0) := by
  rw [num, dnum_no_last]; rfl
  rcases h with h | h
  · subst h
    rw [List.take_of_length_le (by simp)] at hp
    exact fun x hx => hp x (List.mem_of_mem_take hx)
  · subst h; exact hp

theorem ret_two {a b : Int} {p : Nat × Nat} (h : a = p.1) (h' : b = p.2) : Ending.returned (.tuple #[.int .u64 a, .int .i64 b]) = .returned (.tuple #[.int .u64 p.1, .int .i64 p.2]) := by rw [h, h']
theorem or_shl {m c k : Nat} (hm : m < 128 ^ k) (hc : c < 256) (hk : k < 10) (h9 : k = 9 → c % 128 ≤ 1) :
    bits .or .u64 (m : Int) (IntKind.u64.wrap ((c : Int) % 128 * 2 ^ (7 * k))) = ((m + 128 ^ k * (c % 128) : Nat) : Int) := by
  rw [shl7 hc hk h9]
  refine or_sum hm ?_ hk
  by_cases h : k = 9
  · subst h
    have := h9 rfl
    omega
  · have h3 : (128 : Nat) ^ k ≤ 128 ^ 8 := Nat.pow_le_pow_right (by omega) (by omega)
    have h4 : 128 ^ k * (c % 128) ≤ 128 ^ 8 * 127 := Nat.mul_le_mul h3 (by omega)
    omega

set_option maxRecDepth 100000 in
set_option maxHeartbeats 1000000 in
theorem number_any (s : ByteArray) (w : World) (hs : s.size ≤ maxLen) :
    Calls Try.prog 39 #[.string s] w fun e w' => e = .returned (.tuple #[.int .u64 (num s.data.toList).1, .int .i64 (num s.data.toList).2]) ∧ w' = w := by
  rcases (show s.size ≤ 10 ∨ 10 < s.size by omega) with h10 | h10
  all_goals
    go_enter Try.func39, Try.ntmps39
    go_wp2
    go_loop [4, 10] (fun n i => ∃ (k : Nat) (m : Int), k ≤ 10 ∧ k ≤ s.size ∧ i = .int .i64 k ∧ n = .int .u64 m ∧ Hid (k < 10 → m = ((val (s.data.toList.take k) : Nat) : Int)) ∧ Hid (∀ x ∈ s.data.toList.take k, 128 ≤ x.toNat)) (fun _ i => 10 - (intOf i).toNat)
    case atStart => exact ⟨0, 0, by omega, by omega, rfl, rfl, fun _ => rfl, fun x hx => by simp at hx⟩
    case round =>
      obtain ⟨k, m, hk, hk2, rfl, rfl, HM, HP⟩ := hrel
      by_cases hlt : k < s.size ∧ k < 10
      · obtain ⟨hlt, hk10⟩ := hlt
        have hmask : bits .andNot .u8 (s[k].toNat : Int) 128 = ((s[k].toNat % 128 : Nat) : Int) := mask127 _
        have hv : val (s.data.toList.take k) < 128 ^ k := by have := val_lt (s.data.toList.take k); rwa [take_len s k (by omega)] at this
        have hcl := u8_lt s[k]
        have hm := HM.out hk10
        subst hm
        clear HM
        by_cases hc : s[k].toNat < 128
        · have HL : Hid (num s.data.toList = if (0 < k ∧ s[k].toNat = 0) ∨ (k = 9 ∧ 1 < s[k].toNat) then (0, 0) else (val (s.data.toList.take k) + 128 ^ k * s[k].toNat, k + 1)) := num_last s k hlt hk10 HP.out hc
          generalize val (s.data.toList.take k) = m at *
          by_cases hq : (0 < k ∧ s[k].toNat = 0) ∨ (k = 9 ∧ 1 < s[k].toNat)
          · have HV : Hid (num s.data.toList = (0, 0)) := by have := HL.out; rwa [if_pos hq] at this
            go_wp2_with (first | (go_at_call 47; refine (spare_any _ _ _ ?_).mono ?_; (· omega); rintro e w' ⟨rfl, rfl⟩) | (go_at_call 48; refine (above_any _ _ _ ?_).mono ?_; (· omega); rintro e w' ⟨rfl, rfl⟩))
            all_goals first
              | (exfalso; go_light; simp_all; done)
              | (go_ret2; exact ⟨ret_two (by rw [HV.out]; rfl) (by rw [HV.out]; rfl), rfl⟩)
          · have HV : Hid (num s.data.toList = (m + 128 ^ k * s[k].toNat, k + 1)) := by have := HL.out; rwa [if_neg hq] at this
            have HO : Hid (bits .or .u64 (m : Int) (IntKind.u64.wrap ((s[k].toNat : Int) % 128 * 2 ^ (7 * k))) = ((m + 128 ^ k * (s[k].toNat % 128) : Nat) : Int)) := or_shl hv hcl hk10 (by omega)
            have hmod : s[k].toNat % 128 = s[k].toNat := by omega
            have HM : Hid (s[k].toNat % 128 = s[k].toNat) := hmod
            clear hmod HL
            go_wp2_with (first | (go_at_call 47; refine (spare_any _ _ _ ?_).mono ?_; (· omega); rintro e w' ⟨rfl, rfl⟩) | (go_at_call 48; refine (above_any _ _ _ ?_).mono ?_; (· omega); rintro e w' ⟨rfl, rfl⟩))
            all_goals first
              | (exfalso; go_light; simp_all; done)
              | (go_ret2; exact ⟨ret_two (by rw [HV.out, HO.out, HM.out]) (by rw [HV.out]; simp), rfl⟩)
        · have HS : Hid (∀ x ∈ s.data.toList.take (k + 1), 128 ≤ x.toNat) := by
            show ∀ x ∈ s.data.toList.take (k + 1), 128 ≤ x.toNat
            rw [take_snoc s k hlt]
            intro x hx
            rcases List.mem_append.1 hx with hx | hx
            · exact HP.out x hx
            · simp at hx; subst hx; omega
          have HO : Hid (k + 1 < 10 → bits .or .u64 ((val (s.data.toList.take k) : Nat) : Int) (IntKind.u64.wrap ((s[k].toNat : Int) % 128 * 2 ^ (7 * k))) = ((val (s.data.toList.take (k + 1)) : Nat) : Int)) := by
            intro h
            rw [or_shl hv hcl hk10 (by omega), take_snoc s k hlt, val_snoc, take_len s k (by omega)]
          go_wp2
          go_round
          case rel => exact ⟨k + 1, _, by omega, by omega, by go_num, rfl, HO, HS⟩
          case measure => simp [intOf]; omega
      · have HV : Hid (num s.data.toList = (0, 0)) := num_no_last s k (by omega) HP.out
        go_wp2
        go_ret2
        exact ⟨ret_two (by rw [HV.out]; rfl) (by rw [HV.out]; rfl), rfl⟩

end Go.Proofs.Ytjiajnmpdlaidaa.Pk
