/-
  Numbers in decimal digits, plainly: read again they are the same; no two numbers have the same digits.
-/
import Derived.Test.YtbnmjmapmbdioaaDoorManMath
import Derived.Lib.AtoiAllCases
import Derived.Lib.ItoaNum
namespace Go.Proofs.YtbnmjmapmbdioaaDoor.Ma
open Go.Lib
set_option linter.unusedVariables false

theorem parse_snoc (c : UInt8) (hc : 48 ≤ c.toNat ∧ c.toNat ≤ 57) : ∀ (l : List UInt8) (acc u : Nat), parseUint10 acc l = .ok u → u * 10 + (c.toNat - 48) < 18446744073709551616 → parseUint10 acc (l ++ [c]) = .ok (u * 10 + (c.toNat - 48))
  | [], acc, u, h, hu => by
    simp only [parseUint10] at h
    injection h with h
    subst h
    simp only [List.nil_append, parseUint10]
    rw [if_pos hc, if_neg (by omega), if_neg (by omega)]
  | b :: r, acc, u, h, hu => by
    simp only [parseUint10, List.cons_append] at h ⊢
    split at h
    · rename_i hb
      rw [if_pos hb]
      split at h
      · cases h
      · rename_i h1
        rw [if_neg h1]
        split at h
        · cases h
        · rename_i h2
          rw [if_neg h2]
          exact parse_snoc c hc r _ u h hu
    · cases h
theorem digit_nat (d : Nat) (hd : d < 10) : (UInt8.ofNat (48 + d)).toNat = 48 + d := by
  rw [UInt8.toNat_ofNat']
  omega
theorem parse_dec (u : Nat) (hu : u < 18446744073709551616) : parseUint10 0 (decDigits u) = .ok u := by
  induction u using Nat.strongRecOn with
  | _ u ih =>
    by_cases h : u < 10
    · rw [decDigits, dif_pos h]
      have := parse_snoc (UInt8.ofNat (48 + u)) (by rw [digit_nat u h]; omega) [] 0 0 rfl (by rw [digit_nat u h]; omega)
      rw [digit_nat u h] at this
      simpa using this
    · rw [decDigits, dif_neg h]
      have hd : u % 10 < 10 := Nat.mod_lt _ (by omega)
      have := parse_snoc (UInt8.ofNat (48 + u % 10)) (by rw [digit_nat _ hd]; omega) (decDigits (u / 10)) 0 (u / 10) (ih (u / 10) (by omega) (by omega)) (by rw [digit_nat _ hd]; omega)
      rw [digit_nat _ hd] at this
      rw [this]
      congr 1
      omega
theorem dec_digit (u : Nat) : ∀ c ∈ decDigits u, 48 ≤ c.toNat ∧ c.toNat ≤ 57 := by
  induction u using Nat.strongRecOn with
  | _ u ih =>
    by_cases h : u < 10
    · rw [decDigits, dif_pos h]
      intro c hc
      rw [List.mem_singleton.1 hc, digit_nat u h]; omega
    · rw [decDigits, dif_neg h]
      intro c hc
      have hd : u % 10 < 10 := Nat.mod_lt _ (by omega)
      rcases List.mem_append.1 hc with hc | hc
      · exact ih (u / 10) (by omega) c hc
      · rw [List.mem_singleton.1 hc, digit_nat _ hd]; omega
theorem dec_ne (u : Nat) : decDigits u ≠ [] := by
  rw [decDigits]
  split <;> simp
theorem parseMag_dec (u : Nat) (hu : u < 18446744073709551616) : parseMag (decDigits u) = .ok u := by
  unfold parseMag
  rw [if_neg (dec_ne u)]
  exact parse_dec u hu
/-- What is written is read. -/
theorem atoi_itoa (n : Int) (h0 : 0 ≤ n) (h1 : n ≤ 9223372036854775807) : atoiAll (itoa n) = .ok n := by
  unfold itoa
  rw [if_neg (by omega)]
  have hp := parseMag_dec n.toNat (by omega)
  have hd := dec_digit n.toNat
  generalize decDigits n.toNat = l at *
  cases l with
  | nil => simp [parseMag] at hp
  | cons c r =>
    have hc := hd c (by simp)
    unfold atoiAll
    simp only
    rw [if_neg (by omega), hp]
    simp only
    rw [if_neg (by omega), if_neg (by omega), if_neg (by omega)]
    congr 1
    omega
/-- No two numbers have the same digits. -/
theorem itoa_inj {n m : Int} (hn : OkI n) (hm : OkI m) (h : itoa n = itoa m) : n = m := by
  unfold OkI at hn hm
  have dec_inj : ∀ a b : Nat, a < 18446744073709551616 → b < 18446744073709551616 → decDigits a = decDigits b → a = b := fun a b ha hb e => by
    have h1 := parse_dec a ha
    rw [e, parse_dec b hb] at h1
    injection h1 with h1
    exact h1.symm
  unfold itoa at h
  split at h
  · split at h
    · have := dec_inj n.natAbs m.natAbs (by omega) (by omega) (by simpa using h)
      omega
    · have := dec_digit m.toNat 45 (by rw [← h]; simp)
      simp at this
  · split at h
    · have := dec_digit n.toNat 45 (by rw [h]; simp)
      simp at this
    · have := dec_inj n.toNat m.toNat (by omega) (by omega) h
      omega
end Go.Proofs.YtbnmjmapmbdioaaDoor.Ma
