/-
  The texts BloomRef.
-/
import Derived.Test.YtedjohkdfchocaaQBloomMay

/-
  The document's answers of layer 7: hash, probe, bit, what a filter says.
-/
namespace Go.Proofs.Ytedjohkdfchocaa.Bl
open Go.RowKit Cm
set_option linter.unusedVariables false

set_option maxHeartbeats 1000000 in
theorem hashR_any (s : ByteArray) (hs : s.size ≤ 9223372036854775807) (w : World) :
    Calls Try.prog 47 #[.string s] w fun e w' => e = .returned (.int .u64 (hash s : Nat)) ∧ w' = w := by
  go_enter Try.func47, Try.ntmps47
  go_wp2
  go_loop [3, 4] (fun rv i => ∃ k m : Nat, k ≤ s.size ∧ i = .int .i64 k ∧ rv = .int .u64 m ∧ m < 18446744073709551616 ∧ Hid (m = run 14695981039346656037 (s.data.toList.take k))) (fun _ i => s.size - (intOf i).toNat)
  case atStart => exact ⟨0, 14695981039346656037, by omega, rfl, rfl, by omega, hid_rfl⟩
  case round =>
    obtain ⟨k, m, hk, rfl, rfl, hm, HM⟩ := hrel
    by_cases hlt : k < s.size
    · have HF := run_bytes 14695981039346656037 s k hlt
      rw [← HM.out] at HF
      have HF0 : Hid _ := HF
      have hfl := feed_lt m s[k]
      clear HF
      have HE : Hid _ := feed_run m hm s[k]
      generalize hcj : s[k] = c at *
      generalize feed m c = F at *
      go_wp2
      go_round
      case rel => exact ⟨k + 1, F, by omega, by go_num, by rw [HE.out], hfl, HF0⟩
      case measure => simp [intOf]; omega
    · have hk' : k = s.size := by omega
      subst hk'
      have HM2 : Hid (m = hash s) := by rw [HM.out, List.take_of_length_le (by simp)]; exact hid_rfl
      go_wp2
      go_ret
      rw [← HM2.out]
      exact ⟨rfl, rfl⟩

theorem fin_probe {x : Int} {n m p : Nat} (hx : x = n) (hp : p = n % m) (hl : p < m) (hm : m ≤ 9223372036854775807) : wrap64 (x % (m : Int)) = p := by
  subst hx
  rw [← Int.natCast_emod, ← hp]
  unfold wrap64
  omega
set_option maxHeartbeats 1000000 in
theorem probeR_any (h k m : Nat) (hh : h < 18446744073709551616) (hk : k < 4) (hm : 0 < m) (hm2 : m ≤ 9223372036854775807) (w : World) :
    Calls Try.prog 49 #[.int .u64 h, .int .i64 k, .int .i64 m] w fun e w' => e = .returned (.int .i64 (probe h k m : Nat)) ∧ w' = w := by
  have hl := probe_lt h k hm
  have HP : Hid (probe h k m = (h % 4294967296 + k * odd (h / 4294967296)) % m) := rfl
  generalize probe h k m = p at *
  rcases Nat.mod_two_eq_zero_or_one (h / 4294967296) with h2 | h2
  · have ho : odd (h / 4294967296) = h / 4294967296 + 1 := by unfold odd; rw [if_pos h2]
    rw [ho] at HP
    clear ho
    match k, hk with
    | 0, _ =>
      go_enter Try.func49, Try.ntmps49
      go_wp2
      go_ret
      exact ⟨by rw [fin_probe (by omega) HP.out hl hm2]; rfl, rfl⟩
    | 1, _ =>
      go_enter Try.func49, Try.ntmps49
      go_wp2
      go_ret
      exact ⟨by rw [fin_probe (by omega) HP.out hl hm2]; rfl, rfl⟩
    | 2, _ =>
      go_enter Try.func49, Try.ntmps49
      go_wp2
      go_ret
      exact ⟨by rw [fin_probe (by omega) HP.out hl hm2]; rfl, rfl⟩
    | 3, _ =>
      go_enter Try.func49, Try.ntmps49
      go_wp2
      go_ret
      exact ⟨by rw [fin_probe (by omega) HP.out hl hm2]; rfl, rfl⟩
  · have ho : odd (h / 4294967296) = h / 4294967296 := by unfold odd; rw [if_neg (by omega)]
    rw [ho] at HP
    clear ho
    match k, hk with
    | 0, _ =>
      go_enter Try.func49, Try.ntmps49
      go_wp2
      go_ret
      exact ⟨by rw [fin_probe (by omega) HP.out hl hm2]; rfl, rfl⟩
    | 1, _ =>
      go_enter Try.func49, Try.ntmps49
      go_wp2
      go_ret
      exact ⟨by rw [fin_probe (by omega) HP.out hl hm2]; rfl, rfl⟩
    | 2, _ =>
      go_enter Try.func49, Try.ntmps49
      go_wp2
      go_ret
      exact ⟨by rw [fin_probe (by omega) HP.out hl hm2]; rfl, rfl⟩
    | 3, _ =>
      go_enter Try.func49, Try.ntmps49
      go_wp2
      go_ret
      exact ⟨by rw [fin_probe (by omega) HP.out hl hm2]; rfl, rfl⟩

theorem half_bit (f : ByteArray) (p : Nat) (h : p / 8 < f.size) : ((((f[p / 8].toNat / 2 ^ (p % 8) : Nat) : Int) % 2) == 1) = bitAt f.data.toList p := by
  have e : f.data.toList.getD (p / 8) 0 = f[p / 8] := by
    rw [getD_lt _ _ _ (by simpa using h)]
    rfl
  unfold bitAt
  rw [e, Nat.testBit_eq_decide_div_mod_eq]
  generalize f[p / 8].toNat / 2 ^ (p % 8) = x
  rcases Nat.mod_two_eq_zero_or_one x with h | h
  · rw [show (x : Int) % 2 = 0 by omega, h]; rfl
  · rw [show (x : Int) % 2 = 1 by omega, h]; rfl
set_option maxHeartbeats 1000000 in
theorem bitR_any (f : ByteArray) (p : Nat) (hp : p < 8 * f.size) (hf : f.size ≤ 1152921504606846975) (w : World) :
    Calls Try.prog 48 #[.string f, .int .i64 p] w fun e w' => e = .returned (.bool (bitAt f.data.toList p)) ∧ w' = w := by
  have hd : p / 8 < f.size := by omega
  have HB : Hid _ := half_bit f p hd
  have hx := f[p / 8].toNat_lt
  generalize bitAt f.data.toList p = B at *
  go_enter Try.func48, Try.ntmps48
  go_wp2
  go_loop [5, 6] (fun rv i => ∃ k m : Nat, k ≤ p % 8 ∧ i = .int .i64 k ∧ rv = .int .u8 m ∧ m < 256 ∧ Hid (m = f[p / 8].toNat / 2 ^ k)) (fun _ i => p % 8 - (intOf i).toNat)
  case atStart => exact ⟨0, f[p / 8].toNat, by omega, rfl, rfl, by omega, by simp [Hid]⟩
  case round =>
    obtain ⟨k, m, hk, rfl, rfl, hm, HM⟩ := hrel
    by_cases hlt : k < p % 8
    · have HN : Hid (m / 2 = f[p / 8].toNat / 2 ^ (k + 1)) := by rw [HM.out, Nat.div_div_eq_div_mul, ← Nat.pow_succ]; exact hid_rfl
      go_wp2
      go_round
      case rel => exact ⟨k + 1, m / 2, by omega, by go_num, by go_num, by omega, HN⟩
      case measure => simp [intOf]; omega
    · have hk' : k = p % 8 := by omega
      have HN : Hid (((m : Int) % 2 == 1) = B) := by rw [HM.out, hk']; exact HB
      subst hk'
      go_wp2
      go_ret
      rw [← HN.out]
      exact ⟨rfl, rfl⟩

set_option maxHeartbeats 1000000 in
theorem mayR_any (f s : ByteArray) (hs : s.size ≤ 9223372036854775807) (hf : f.size ≤ 1152921504606846975) (w : World) :
    Calls Try.prog 25 #[.string f, .string s] w fun e w' => e = .returned (.bool (may f.data.toList s)) ∧ w' = w := by
  by_cases h0 : f.size = 0
  · have he : f = ByteArray.empty := by
      apply ByteArray.ext; apply Array.ext'; apply List.eq_nil_of_length_eq_zero; rw [← Lib.size_eq]; exact h0
    subst he
    have hq : may ByteArray.empty.data.toList s = false := by unfold may; rfl
    rw [hq]
    clear hq
    go_enter Try.func25, Try.ntmps25
    go_wp2
    go_ret
    exact ⟨rfl, rfl⟩
  have hp : 0 < f.size := by omega
  have hne : f.toList.isEmpty = false := by
    rw [ByteArray.toList_eq]
    rw [Lib.size_eq] at hp
    cases hl : f.data.toList with
    | nil => rw [hl] at hp; simp at hp
    | cons => rfl
  have HMay : Hid (may f.data.toList s = true ↔ ∀ i, i < 4 → bitAt f.data.toList (probe (hash s) i (8 * f.size)) = true) := by
    have hq : f.data.toList ≠ [] := by intro e; rw [Lib.size_eq, e] at hp; simp at hp
    have := may_iff (f := f.data.toList) (x := s)
    rw [← Lib.size_eq] at this
    show _ ↔ _
    rw [this]
    exact ⟨fun h => h.2, fun h => ⟨hq, h⟩⟩
  have HC : Hid (∀ w : World, Calls Try.prog 47 #[.string s] w fun e w' => e = .returned (.int .u64 (hash s : Nat)) ∧ w' = w) := hashR_any s hs
  have hh := hash_lt s
  generalize hash s = h at *
  generalize may f.data.toList s = M at *
  go_enter Try.func25, Try.ntmps25
  go_wp2_with fail
  refine (HC.out _).mono ?_
  rintro e w1 ⟨rfl, rfl⟩
  go_wp2
  go_loop [6] (fun i => ∃ k : Nat, k ≤ 4 ∧ i = .int .i64 k ∧ Hid (∀ j, j < k → bitAt f.data.toList (probe h j (8 * f.size)) = true)) (fun i => 4 - (intOf i).toNat)
  case atStart => exact ⟨0, by omega, rfl, fun j hj => absurd hj (by omega)⟩
  case round =>
    obtain ⟨k, hk, rfl, HK⟩ := hrel
    by_cases hlt : k < 4
    · have HP : Hid (∀ w : World, Calls Try.prog 49 #[.int .u64 h, .int .i64 k, .int .i64 (8 * (f.size : Int))] w fun e w' => e = .returned (.int .i64 (probe h k (8 * f.size) : Nat)) ∧ w' = w) := fun w => by
        have := probeR_any h k (8 * f.size) hh hlt (by omega) (by omega) w
        rw [show ((8 * f.size : Nat) : Int) = 8 * (f.size : Int) by omega] at this
        exact this
      have hpl := probe_lt h k (m := 8 * f.size) (by omega)
      have HN : Hid (bitAt f.data.toList (probe h k (8 * f.size)) = true → ∀ j, j < k + 1 → bitAt f.data.toList (probe h j (8 * f.size)) = true) := fun hb j hj => by
        by_cases e : j = k
        · rw [e]; exact hb
        · exact HK.out j (by omega)
      have HF : Hid (bitAt f.data.toList (probe h k (8 * f.size)) = false → M = false) := fun hb => by
        rw [← Bool.not_eq_true, HMay.out]
        intro hall
        rw [hall k hlt] at hb
        cases hb
      generalize probe h k (8 * f.size) = p at *
      clear HK
      go_wp2_with fail
      refine (HP.out _).mono ?_
      rintro e w2 ⟨rfl, rfl⟩
      go_wp2_with fail
      refine (bitR_any f p hpl hf _).mono ?_
      rintro e w3 ⟨rfl, rfl⟩
      rcases Bool.eq_false_or_eq_true (bitAt f.data.toList p) with hb | hb
      · rw [hb]
        have HN2 : Hid _ := HN.out hb
        clear hb HN HF
        go_wp2
        go_round
        case rel => exact ⟨k + 1, by omega, by go_num, HN2⟩
        case measure => simp [intOf]; omega
      · rw [hb]
        have hM := HF.out hb
        clear hb HN HF HMay
        subst hM
        go_wp2
        go_ret
        exact ⟨rfl, rfl⟩
    · have hk' : k = 4 := by omega
      subst hk'
      have hM : M = true := HMay.out.2 HK.out
      clear HMay
      subst hM
      go_wp2
      go_ret
      exact ⟨rfl, rfl⟩

end Go.Proofs.Ytedjohkdfchocaa.Bl
