/-
  The texts BloomMay.
-/
import Derived.Test.YtedjohkdfchocaaQBloomHash

/-
  Package bloom: what a filter says of a key.
-/
namespace Go.Proofs.Ytedjohkdfchocaa.Bl
open Go.RowKit Cm
set_option linter.unusedVariables false

theorem idx0 (a b c d : Nat) (w : World) : (Instr.index 119 (.agg #[.int .u64 a, .int .u64 b, .int .u64 c, .int .u64 d]) (.int .i64 0)).run Try.prog w = .ok (.int .u64 a) w := by kernel_rfl
theorem idx1 (a b c d : Nat) (w : World) : (Instr.index 119 (.agg #[.int .u64 a, .int .u64 b, .int .u64 c, .int .u64 d]) (.int .i64 1)).run Try.prog w = .ok (.int .u64 b) w := by kernel_rfl
theorem idx2 (a b c d : Nat) (w : World) : (Instr.index 119 (.agg #[.int .u64 a, .int .u64 b, .int .u64 c, .int .u64 d]) (.int .i64 2)).run Try.prog w = .ok (.int .u64 c) w := by kernel_rfl
theorem idx3 (a b c d : Nat) (w : World) : (Instr.index 119 (.agg #[.int .u64 a, .int .u64 b, .int .u64 c, .int .u64 d]) (.int .i64 3)).run Try.prog w = .ok (.int .u64 d) w := by kernel_rfl

theorem test_bit (f : ByteArray) (p : Nat) (h : p / 8 < f.size) : (bits .and .u8 ((f[p / 8].toNat : Int) / 2 ^ (p % 8)) 1 == 0) = !(bitAt f.data.toList p) := by
  have e : f.data.toList.getD (p / 8) 0 = f[p / 8] := by
    rw [getD_lt _ _ _ (by simpa using h)]
    rfl
  unfold bitAt
  rw [e]
  have hx := f[p / 8].toNat_lt
  generalize f[p / 8].toNat = x at *
  generalize p % 8 = k
  have h2 : ((x : Int) / 2 ^ k) = ((x / 2 ^ k : Nat) : Int) := by simp
  have hle : x / 2 ^ k ≤ x := Nat.div_le_self _ _
  have := u8_and_nat (x / 2 ^ k) 1 (by omega) (by omega)
  rw [show ((1 : Nat) : Int) = 1 from rfl] at this
  rw [h2, this, Nat.and_one_is_mod, Nat.testBit_eq_decide_div_mod_eq]
  rcases Nat.mod_two_eq_zero_or_one (x / 2 ^ k) with h | h <;> rw [h] <;> decide

set_option maxHeartbeats 1000000 in
theorem may_any (f s : ByteArray) (hs : s.size ≤ 9223372036854775807) (hf : f.size ≤ 1152921504606846975) (w : World) :
    Calls Try.prog 46 #[.string f, .string s] w fun e w' => e = .returned (.bool (may f.data.toList s)) ∧ Below w.heap.size w w' := by
  by_cases h0 : f.size = 0
  · have he : f = ByteArray.empty := by
      apply ByteArray.ext; apply Array.ext'; apply List.eq_nil_of_length_eq_zero; rw [← Lib.size_eq]; exact h0
    subst he
    have hq : may ByteArray.empty.data.toList s = false := by unfold may; rfl
    rw [hq]
    clear hq
    go_enter Try.func46, Try.ntmps46
    go_wp2
    go_ret
    exact ⟨rfl, Below.refl _ _⟩
  have hp : 0 < f.size := by omega
  have HC : Hid (∀ w : World, Calls Try.prog 66 #[.string s, .int .i64 f.size] w fun e w' => e = .returned (probesV (hash s) (8 * f.size)) ∧ Below w.heap.size w w') := probes_any s hs f.size hp hf
  unfold probesV at HC
  have hne : f.toList.isEmpty = false := by
    rw [ByteArray.toList_eq]
    rw [Lib.size_eq] at hp
    cases hl : f.data.toList with
    | nil => rw [hl] at hp; simp at hp
    | cons => rfl
  have l0 := probe_lt (hash s) 0 (m := 8 * f.size) (by omega)
  have l1 := probe_lt (hash s) 1 (m := 8 * f.size) (by omega)
  have l2 := probe_lt (hash s) 2 (m := 8 * f.size) (by omega)
  have l3 := probe_lt (hash s) 3 (m := 8 * f.size) (by omega)
  have HM : Hid (may f.data.toList s = (bitAt f.data.toList (probe (hash s) 0 (8 * f.size)) && (bitAt f.data.toList (probe (hash s) 1 (8 * f.size)) && (bitAt f.data.toList (probe (hash s) 2 (8 * f.size)) && bitAt f.data.toList (probe (hash s) 3 (8 * f.size)))))) := by
    unfold may
    rw [← Lib.size_eq]
    have : f.data.toList ≠ [] := by intro e; rw [Lib.size_eq, e] at hp; simp at hp
    rw [decide_eq_true this, Bool.true_and]
    exact hid_rfl
  generalize may f.data.toList s = M at *
  generalize probe (hash s) 0 (8 * f.size) = p0 at *
  generalize probe (hash s) 1 (8 * f.size) = p1 at *
  generalize probe (hash s) 2 (8 * f.size) = p2 at *
  generalize probe (hash s) 3 (8 * f.size) = p3 at *
  go_enter Try.func46, Try.ntmps46
  go_wp2_with fail
  refine (HC.out _).mono ?_
  rintro e w1 ⟨rfl, hb1⟩
  go_wp2
  go_loop [13] (fun i => ∃ k : Nat, i = .int .i64 k ∧ Hid (k = 0 ∨ (k = 1 ∧ bitAt f.data.toList p0 = true) ∨ (k = 2 ∧ bitAt f.data.toList p0 = true ∧ bitAt f.data.toList p1 = true) ∨ (k = 3 ∧ bitAt f.data.toList p0 = true ∧ bitAt f.data.toList p1 = true ∧ bitAt f.data.toList p2 = true) ∨ (k = 4 ∧ bitAt f.data.toList p0 = true ∧ bitAt f.data.toList p1 = true ∧ bitAt f.data.toList p2 = true ∧ bitAt f.data.toList p3 = true))) (fun i => 4 - (intOf i).toNat)
  case atStart => exact ⟨0, rfl, .inl rfl⟩
  case round =>
    obtain ⟨k, rfl, HK⟩ := hrel
    rcases HK.out with rfl | ⟨rfl, B0⟩ | ⟨rfl, B0, B1⟩ | ⟨rfl, B0, B1, B2⟩ | ⟨rfl, B0, B1, B2, B3⟩
    · clear HK
      have hi := idx0
      have hlt : p0 / 8 < f.size := by omega
      have ht := test_bit f p0 hlt
      rcases Bool.eq_false_or_eq_true (bitAt f.data.toList p0) with hB | hB
      rotate_left
      · have hM : M = false := by rw [HM.out, hB]; simp
        rw [hB] at ht
        subst hM
        go_wp2
        go_ret
        exact ⟨rfl, hb1⟩
      · rw [hB] at ht
        have HB : Hid _ := hB
        clear hB
        go_wp2
        go_round
        case rel => have hB := HB.out; exact ⟨1, rfl, .inr (.inl ⟨rfl, hB⟩)⟩
        case measure => simp [intOf]
    · clear HK
      have hi := idx1
      have hlt : p1 / 8 < f.size := by omega
      have ht := test_bit f p1 hlt
      rcases Bool.eq_false_or_eq_true (bitAt f.data.toList p1) with hB | hB
      rotate_left
      · have hM : M = false := by rw [HM.out, B0, hB]; simp
        rw [hB] at ht
        subst hM
        go_wp2
        go_ret
        exact ⟨rfl, hb1⟩
      · rw [hB] at ht
        have HB : Hid _ := hB
        clear hB
        go_wp2
        go_round
        case rel => have hB := HB.out; exact ⟨2, rfl, .inr (.inr (.inl ⟨rfl, B0, hB⟩))⟩
        case measure => simp [intOf]
    · clear HK
      have hi := idx2
      have hlt : p2 / 8 < f.size := by omega
      have ht := test_bit f p2 hlt
      rcases Bool.eq_false_or_eq_true (bitAt f.data.toList p2) with hB | hB
      rotate_left
      · have hM : M = false := by rw [HM.out, B0, B1, hB]; simp
        rw [hB] at ht
        subst hM
        go_wp2
        go_ret
        exact ⟨rfl, hb1⟩
      · rw [hB] at ht
        have HB : Hid _ := hB
        clear hB
        go_wp2
        go_round
        case rel => have hB := HB.out; exact ⟨3, rfl, .inr (.inr (.inr (.inl ⟨rfl, B0, B1, hB⟩)))⟩
        case measure => simp [intOf]
    · clear HK
      have hi := idx3
      have hlt : p3 / 8 < f.size := by omega
      have ht := test_bit f p3 hlt
      rcases Bool.eq_false_or_eq_true (bitAt f.data.toList p3) with hB | hB
      rotate_left
      · have hM : M = false := by rw [HM.out, B0, B1, B2, hB]; simp
        rw [hB] at ht
        subst hM
        go_wp2
        go_ret
        exact ⟨rfl, hb1⟩
      · rw [hB] at ht
        have HB : Hid _ := hB
        clear hB
        go_wp2
        go_round
        case rel => have hB := HB.out; exact ⟨4, rfl, .inr (.inr (.inr (.inr (⟨rfl, B0, B1, B2, hB⟩))))⟩
        case measure => simp [intOf]
    · have hM : M = true := by rw [HM.out, B0, B1, B2, B3]; rfl
      clear HK
      subst hM
      go_wp2
      go_ret
      exact ⟨rfl, hb1⟩

end Go.Proofs.Ytedjohkdfchocaa.Bl
