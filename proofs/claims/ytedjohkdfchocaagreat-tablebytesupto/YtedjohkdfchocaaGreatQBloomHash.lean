/-
  The texts BloomHash.
-/
import Derived.Test.YtedjohkdfchocaaGreatQBloomMath
import Derived.Test.YtedjohkdfchocaaGreatPart1
import Derived.Lib.SmallJoins
import Derived.Handy

/-
  Package bloom: the hash of a key, its probes.
-/
namespace Go.Proofs.YtedjohkdfchocaaGreat.Bl
open Go.RowKit Cm
set_option linter.unusedVariables false

theorem wrap_u64 (n : Nat) : IntKind.u64.wrap (n : Int) = ((n % 18446744073709551616 : Nat) : Int) := by
  simp [IntKind.wrap, IntKind.bits, IntKind.signed]
theorem feed_run (m : Nat) (hm : m < 18446744073709551616) (c : UInt8) : IntKind.u64.wrap (bits .xor .u64 (m : Int) (IntKind.u64.wrap (c.toNat : Int)) * 1099511628211) = ((feed m c : Nat) : Int) := by
  have h := c.toNat_lt
  rw [wrap_u64, Nat.mod_eq_of_lt (by omega), u64_xor_nat m c.toNat hm (by omega)]
  unfold feed
  rw [← wrap_u64]
  congr 1

set_option maxHeartbeats 1000000 in
theorem hash_any (s : ByteArray) (hs : s.size ≤ 9223372036854775807) (w : World) :
    Calls Tryz.prog 74 #[.string s] w fun e w' => e = .returned (.int .u64 (hash s : Nat)) ∧ w' = w := by
  go_enter Tryz.func74, Tryz.ntmps74
  go_wp2
  go_loop [3, 7] (fun rv i => ∃ k m : Nat, k ≤ s.size ∧ i = .int .i64 k ∧ rv = .int .u64 m ∧ m < 18446744073709551616 ∧ Hid (m = run 14695981039346656037 (s.data.toList.take k))) (fun _ i => s.size - (intOf i).toNat)
  case atStart => exact ⟨0, 14695981039346656037, by omega, rfl, rfl, by omega, hid_rfl⟩
  case round =>
    obtain ⟨k, m, hk, rfl, rfl, hm, HM⟩ := hrel
    by_cases hlt : k < s.size
    · have HF := run_bytes 14695981039346656037 s k hlt
      rw [← HM.out] at HF
      have HF0 : Hid _ := HF
      have hfl := feed_lt m s[k]
      clear HF
      have HE : Hid _ := feed_run m hm s[k]
      generalize hcj : s[k] = c at *
      generalize feed m c = F at *
      go_wp2
      go_round
      case rel => exact ⟨k + 1, F, by omega, by go_num, by rw [HE.out], hfl, HF0⟩
      case measure => simp [intOf]; omega
    · have hk' : k = s.size := by omega
      subst hk'
      have HM2 : Hid (m = hash s) := by rw [HM.out, List.take_of_length_le (by simp)]; exact hid_rfl
      go_wp2
      go_ret
      rw [← HM2.out]
      exact ⟨rfl, rfl⟩

theorem and_low (h : Nat) (hh : h < 18446744073709551616) : bits .and .u64 (h : Int) 4294967295 = ((h % 4294967296 : Nat) : Int) := by
  have := u64_and_nat h 4294967295 hh (by omega)
  rw [show ((4294967295 : Nat) : Int) = 4294967295 from rfl] at this
  rw [this, show 4294967295 = 2 ^ 32 - 1 from rfl, Nat.and_two_pow_sub_one_eq_mod]
theorem or_high (h : Nat) (hh : h < 18446744073709551616) : bits .or .u64 ((h : Int) / 4294967296) 1 = ((odd (h / 4294967296) : Nat) : Int) := by
  have := u64_or_nat (h / 4294967296) 1 (by omega) (by omega)
  rw [or_one] at this
  rw [← this]
  congr 1
def arr (a b c d : Nat) : Obj := .cells #[.int .u64 a, .int .u64 b, .int .u64 c, .int .u64 d] 91
def probesV (h m : Nat) : Value := .agg #[.int .u64 (probe h 0 m : Nat), .int .u64 (probe h 1 m : Nat), .int .u64 (probe h 2 m : Nat), .int .u64 (probe h 3 m : Nat)]
set_option maxHeartbeats 1000000 in
theorem probes_any (s : ByteArray) (hs : s.size ≤ 9223372036854775807) (n : Nat) (hn : 0 < n) (hn2 : n ≤ 1152921504606846975) (w : World) :
    Calls Tryz.prog 46 #[.string s, .int .i64 n] w fun e w' => e = .returned (probesV (hash s) (8 * n)) ∧ Below w.heap.size w w' := by
  have HC : Hid (∀ w : World, Calls Tryz.prog 74 #[.string s] w fun e w' => e = .returned (.int .u64 (hash s : Nat)) ∧ w' = w) := hash_any s hs
  have hh := hash_lt s
  generalize hash s = h at *
  have ha := and_low h hh
  have hb := or_high h hh
  have hal : h % 4294967296 < 4294967296 := by omega
  have hbl : odd (h / 4294967296) < 4294967296 := odd_lt (by omega)
  have H0 : Hid (probe h 0 (8 * n) = (h % 4294967296 + 0 * odd (h / 4294967296)) % (8 * n)) := rfl
  have H1 : Hid (probe h 1 (8 * n) = (h % 4294967296 + 1 * odd (h / 4294967296)) % (8 * n)) := rfl
  have H2 : Hid (probe h 2 (8 * n) = (h % 4294967296 + 2 * odd (h / 4294967296)) % (8 * n)) := rfl
  have H3 : Hid (probe h 3 (8 * n) = (h % 4294967296 + 3 * odd (h / 4294967296)) % (8 * n)) := rfl
  generalize h % 4294967296 = a at *
  generalize odd (h / 4294967296) = b at *
  unfold probesV
  generalize probe h 0 (8 * n) = p0 at *
  generalize probe h 1 (8 * n) = p1 at *
  generalize probe h 2 (8 * n) = p2 at *
  generalize probe h 3 (8 * n) = p3 at *
  go_enter Tryz.func46, Tryz.ntmps46
  go_wp2_with fail
  refine (HC.out _).mono ?_
  rintro e w1 ⟨rfl, rfl⟩
  go_wp2
  go_loopw [17] (fun i wr => ∃ k : Nat, i = .int .i64 k ∧ Hid ((k = 0 ∧ wr = (w.alloc (arr 0 0 0 0)).alloc (arr 0 0 0 0)) ∨ (k = 1 ∧ wr = (w.alloc (arr 0 0 0 0)).alloc (arr p0 0 0 0)) ∨ (k = 2 ∧ wr = (w.alloc (arr 0 0 0 0)).alloc (arr p0 p1 0 0)) ∨ (k = 3 ∧ wr = (w.alloc (arr 0 0 0 0)).alloc (arr p0 p1 p2 0)) ∨ (k = 4 ∧ wr = (w.alloc (arr 0 0 0 0)).alloc (arr p0 p1 p2 p3)))) (fun i _ => 4 - (intOf i).toNat)
  case atStart => exact ⟨0, rfl, .inl ⟨rfl, rfl⟩⟩
  case round =>
    obtain ⟨k, rfl, HW⟩ := hrel
    rcases HW.out with ⟨rfl, rfl⟩ | ⟨rfl, rfl⟩ | ⟨rfl, rfl⟩ | ⟨rfl, rfl⟩ | ⟨rfl, rfl⟩
    · clear HW
      unfold arr
      go_wp2
      go_roundw
      case rel => exact ⟨1, rfl, .inr (.inl ⟨rfl, by simp [H0.out]⟩)⟩
      case measure => simp [intOf]
    · clear HW
      unfold arr
      go_wp2
      go_roundw
      case rel => exact ⟨2, rfl, .inr (.inr (.inl ⟨rfl, by simp [H1.out]⟩))⟩
      case measure => simp [intOf]
    · clear HW
      unfold arr
      go_wp2
      go_roundw
      case rel => exact ⟨3, rfl, .inr (.inr (.inr (.inl ⟨rfl, by simp [H2.out]⟩)))⟩
      case measure => simp [intOf]
    · clear HW
      unfold arr
      go_wp2
      go_roundw
      case rel => exact ⟨4, rfl, .inr (.inr (.inr (.inr (⟨rfl, by simp [H3.out]⟩))))⟩
      case measure => simp [intOf]
    · clear HW
      unfold arr
      go_wp2
      go_returns
      exact ⟨rfl, ((Below.refl _ _).alloc (Nat.le_refl _) _).alloc (by simp) _⟩

end Go.Proofs.YtedjohkdfchocaaGreat.Bl
