/-
  The texts BloomMay.
-/
import Derived.Test.YtedjohkdfchocaaGreatQBloomHash

/-
  Package bloom: what a filter says of a key.
-/
namespace Go.Proofs.YtedjohkdfchocaaGreat.Bl
open Go.RowKit Cm
set_option linter.unusedVariables false

theorem idx0 (a b c d : Nat) (w : World) : (Instr.index 91 (.agg #[.int .u64 a, .int .u64 b, .int .u64 c, .int .u64 d]) (.int .i64 0)).run Tryz.prog w = .ok (.int .u64 a) w := by kernel_rfl
theorem idx1 (a b c d : Nat) (w : World) : (Instr.index 91 (.agg #[.int .u64 a, .int .u64 b, .int .u64 c, .int .u64 d]) (.int .i64 1)).run Tryz.prog w = .ok (.int .u64 b) w := by kernel_rfl
theorem idx2 (a b c d : Nat) (w : World) : (Instr.index 91 (.agg #[.int .u64 a, .int .u64 b, .int .u64 c, .int .u64 d]) (.int .i64 2)).run Tryz.prog w = .ok (.int .u64 c) w := by kernel_rfl
theorem idx3 (a b c d : Nat) (w : World) : (Instr.index 91 (.agg #[.int .u64 a, .int .u64 b, .int .u64 c, .int .u64 d]) (.int .i64 3)).run Tryz.prog w = .ok (.int .u64 d) w := by kernel_rfl

theorem test_bit (f : ByteArray) (p : Nat) (h : p / 8 < f.size) : (bits .and .u8 ((f[p / 8].toNat : Int) / 2 ^ (p % 8)) 1 == 0) = !(bitAt f.data.toList p) := by
  have e : f.data.toList.getD (p / 8) 0 = f[p / 8] := by
    rw [getD_lt _ _ _ (by simpa using h)]
    rfl
  unfold bitAt
  rw [e]
  have hx := f[p / 8].toNat_lt
  generalize f[p / 8].toNat = x at *
  generalize p % 8 = k
  have h2 : ((x : Int) / 2 ^ k) = ((x / 2 ^ k : Nat) : Int) := by simp
  have hle : x / 2 ^ k ≤ x := Nat.div_le_self _ _
  have := u8_and_nat (x / 2 ^ k) 1 (by omega) (by omega)
  rw [show ((1 : Nat) : Int) = 1 from rfl] at this
  rw [h2, this, Nat.and_one_is_mod, Nat.testBit_eq_decide_div_mod_eq]
  rcases Nat.mod_two_eq_zero_or_one (x / 2 ^ k) with h | h <;> rw [h] <;> decide

end Go.Proofs.YtedjohkdfchocaaGreat.Bl
