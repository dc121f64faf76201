/-
  Package frame: what the sum of parts, a word's four bytes and the word of four bytes come to.
-/
import Derived.Test.YtpiaegkeclmpgaaFrameMath
import Derived.Test.YtpiaegkeclmpgaaCmHeap
import Derived.Lib.SmallJoins
namespace Go.Proofs.Ytpiaegkeclmpgaa.Fr
open Go.RowKit Cm
set_option linter.unusedVariables false

theorem and1 (n : Nat) (h : n < 4294967296) : bits .and .u32 (n : Int) 1 = ((n % 2 : Nat) : Int) := by
  have := u32_and_nat n 1 (by omega) (by omega)
  rw [show ((1 : Nat) : Int) = 1 from rfl] at this
  rw [this, Nat.and_one_is_mod]
theorem xorPoly (n : Nat) (h : n < 4294967296) : bits .xor .u32 (n : Int) 3988292384 = ((n ^^^ poly : Nat) : Int) := by
  have := u32_xor_nat n poly (by omega) (by decide)
  exact this

def stepN : Nat → Nat → Nat
  | 0, r => r
  | k + 1, r => step (stepN k r)
theorem stepN_lt {r : Nat} (h : r < 4294967296) (k : Nat) : stepN k r < 4294967296 := by
  induction k with
  | zero => exact h
  | succ k ih => exact step_lt ih

set_option maxHeartbeats 1000000 in
theorem shifted_any (r : Nat) (h : r < 4294967296) (w : World) :
    Calls Try.prog 43 #[.int .u32 r] w fun e w' => e = .returned (.int .u32 (shift r : Nat)) ∧ w' = w := by
  go_enter Try.func43, Try.ntmps43
  go_wp2
  go_loop [0, 4] (fun rv i => ∃ k m : Nat, k ≤ 8 ∧ i = .int .i64 k ∧ rv = .int .u32 m ∧ m < 4294967296 ∧ Hid (m = stepN k r)) (fun _ i => 8 - (intOf i).toNat)
  case atStart => exact ⟨0, r, by omega, rfl, rfl, h, hid_rfl⟩
  case round =>
    obtain ⟨k, m, hk, rfl, rfl, hm, HM⟩ := hrel
    by_cases hlt : k < 8
    · have ha := and1 m hm
      have hx : bits .xor .u32 ((m : Int) / 2) 3988292384 = ((m / 2 ^^^ poly : Nat) : Int) := by rw [show (m : Int) / 2 = ((m / 2 : Nat) : Int) by omega]; exact xorPoly _ (by omega)
      have HN : Hid (step m = stepN (k + 1) r) := by rw [HM.out]; exact hid_rfl
      rcases Nat.mod_two_eq_zero_or_one m with h2 | h2
      · have HS : Hid (m / 2 = step m) := by unfold step; rw [if_neg (by omega)]; exact hid_rfl
        rw [h2] at ha
        go_wp2
        go_round
        case rel => exact ⟨k + 1, m / 2, by omega, by go_num, by go_num, by omega, by rw [HS.out]; exact HN⟩
        case measure => simp [intOf]; omega
      · have HS : Hid (m / 2 ^^^ poly = step m) := by unfold step; rw [if_pos h2]; exact hid_rfl
        rw [h2] at ha
        have hl : m / 2 ^^^ poly < 4294967296 := xor_lt32 (by omega) (by decide)
        go_wp2
        go_round
        case rel => exact ⟨k + 1, m / 2 ^^^ poly, by omega, by go_num, by go_num, hl, by rw [HS.out]; exact HN⟩
        case measure => simp [intOf]; omega
    · have hk' : k = 8 := by omega
      subst hk'
      have hm' : m = shift r := HM.out
      subst hm'
      go_wp2
      go_ret
      exact ⟨rfl, rfl⟩

def cat (xs : List ByteArray) : List UInt8 := xs.flatMap fun s => s.data.toList
theorem cat_snoc (xs : List ByteArray) (k : Nat) (h : k < xs.length) : cat (xs.take (k + 1)) = cat (xs.take k) ++ (xs.getD k ByteArray.empty).data.toList := by
  rw [List.take_succ_eq_append_getElem h, getD_lt _ _ _ h]; simp only [cat, List.flatMap_append, List.flatMap_cons, List.flatMap_nil, List.append_nil]
theorem not32 {n : Nat} (h : n < 4294967296) : bits .xor .u32 IntKind.u32.max (n : Int) = ((4294967295 - n : Nat) : Int) := by
  show IntKind.u32.wrap ((BitVec.ofInt 32 IntKind.u32.max ^^^ BitVec.ofInt 32 (n : Int)).toNat : Int) = _
  have h3 : BitVec.ofInt 32 IntKind.u32.max = BitVec.allOnes 32 := by decide
  rw [h3, BitVec.allOnes_xor, BitVec.toNat_not, BitVec.toNat_ofInt]
  simp [IntKind.wrap, IntKind.bits, IntKind.signed]
  omega

theorem run_bytes (r : Nat) (s : ByteArray) (k : Nat) (h : k < s.size) : shift (run r (s.data.toList.take k) ^^^ s[k].toNat) = run r (s.data.toList.take (k + 1)) := by
  rw [List.take_succ_eq_append_getElem (by simpa using h), run_snoc]
  rfl
theorem xor_byte (m : Nat) (hm : m < 4294967296) (c : UInt8) : bits .xor .u32 (m : Int) ((c.toNat : Int) % 4294967296) = ((m ^^^ c.toNat : Nat) : Int) := by
  have h := c.toNat_lt
  rw [show (c.toNat : Int) % 4294967296 = (c.toNat : Int) by omega]
  exact u32_xor_nat m c.toNat hm (by omega)

set_option maxHeartbeats 500000 in
theorem sum_any (ao : Option Addr) (cap : Nat) (xs : List ByteArray) (w : World) (hc : CellsAt w ao (strVals xs)) (hlen : xs.length ≤ 9223372036854775807) (hs : ∀ x ∈ xs, x.size ≤ 9223372036854775807) :
    Calls Try.prog 34 #[.slice ao xs.length cap] w fun e w' => e = .returned (.int .u32 (sum (cat xs) : Nat)) ∧ w' = w := by
  go_enter Try.func34, Try.ntmps34
  go_wp2
  go_loop [3, 9] (fun rv i => ∃ k m : Nat, k ≤ xs.length ∧ i = .int .i64 k ∧ rv = .int .u32 m ∧ m < 4294967296 ∧ Hid (m = run 4294967295 (cat (xs.take k)))) (fun _ i => xs.length - (intOf i).toNat)
  case atStart => exact ⟨0, 4294967295, by omega, rfl, rfl, by omega, hid_rfl⟩
  case round =>
    obtain ⟨k, m, hk, rfl, rfl, hm, HM⟩ := hrel
    by_cases hlt : k < xs.length
    · rcases hc with h0 | ⟨b, off, rfl, hbl, hcells⟩
      · have : xs.length = 0 := by have := congrArg List.length h0; simpa [strVals] using this
        omega
      have hck := hcells k (by simpa [strVals] using hlt)
      have hx : (strVals xs)[k]? = some (.string (xs.getD k ByteArray.empty)) := by simp [strVals, hlt]
      have hsz : (xs.getD k ByteArray.empty).size ≤ 9223372036854775807 := hs _ (by rw [getD_lt _ _ _ hlt]; exact List.getElem_mem hlt)
      rw [hx] at hck
      have HN : Hid _ := cat_snoc xs k hlt
      generalize xs.getD k ByteArray.empty = s at *
      have HR : Hid (run 4294967295 (cat (xs.take (k + 1))) = run m s.data.toList) := by rw [HN.out, run_append, ← HM.out]; exact hid_rfl
      clear hcells hs hx HN HM
      go_wp2
      go_loop [3, 15] (fun rv i => ∃ j m1 : Nat, j ≤ s.size ∧ i = .int .i64 j ∧ rv = .int .u32 m1 ∧ m1 < 4294967296 ∧ Hid (m1 = run m (s.data.toList.take j))) (fun _ i => s.size - (intOf i).toNat)
      case atStart => exact ⟨0, m, by omega, rfl, rfl, hm, hid_rfl⟩
      case round =>
        obtain ⟨j, m1, hj, rfl, rfl, hm1, HM1⟩ := hrel
        by_cases hjl : j < s.size
        · have HF := run_bytes m s j hjl
          have hxb := xor_byte m1 hm1 s[j]
          have hxl := xor_byte_lt hm1 s[j]
          rw [← HM1.out] at HF
          have HF0 : Hid _ := HF
          clear HF
          generalize hcj : s[j] = c at *
          go_wp2_with fail
          refine (shifted_any (m1 ^^^ c.toNat) hxl _).mono ?_
          rintro e w1 ⟨rfl, rfl⟩
          go_wp2
          go_round
          case rel => exact ⟨j + 1, shift (m1 ^^^ c.toNat), by omega, by go_num, rfl, shift_lt hxl, HF0⟩
          case measure => simp [intOf]; omega
        · have hj' : j = s.size := by omega
          subst hj'
          have HM2 : Hid (m1 = run 4294967295 (cat (xs.take (k + 1)))) := by
            rw [HR.out, HM1.out, List.take_of_length_le (by simp)]; exact hid_rfl
          go_wp2
          go_round
          case rel => exact ⟨k + 1, m1, by omega, by go_num, rfl, hm1, HM2⟩
          case measure => simp [intOf]; omega
    · have hk' : k = xs.length := by omega
      subst hk'
      rw [List.take_length] at HM
      have hn := not32 hm
      have HQ : Hid (4294967295 - m = sum (cat xs)) := by rw [HM.out]; exact hid_rfl
      go_wp2
      go_ret
      rw [← HQ.out]
      exact ⟨rfl, rfl⟩

end Go.Proofs.Ytpiaegkeclmpgaa.Fr
