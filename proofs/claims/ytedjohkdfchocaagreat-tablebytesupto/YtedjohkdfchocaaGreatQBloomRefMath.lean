/-
  The texts BloomRefMath.
-/
import Derived.Test.YtedjohkdfchocaaGreatQBloomMath

/-
  A filter as a list of bits, and its bytes.
-/
namespace Go.Proofs.YtedjohkdfchocaaGreat.Bl

/-- The number that the bits from number k on, t of them, make, the lowest first. -/
def val (b : Nat → Bool) : Nat → Nat → Nat
  | _, 0 => 0
  | k, t + 1 => 2 * val b (k + 1) t + (if b k = true then 1 else 0)
theorem val_lt (b : Nat → Bool) (k t : Nat) : val b k t < 2 ^ t := by
  induction t generalizing k with
  | zero => simp [val]
  | succ t ih =>
    have := ih (k + 1)
    unfold val
    rw [Nat.pow_succ]
    split <;> omega
theorem val_bit (b : Nat → Bool) (t j : Nat) (h : j < t) (k : Nat) : (val b k t).testBit j = b (k + j) := by
  induction t generalizing k j with
  | zero => omega
  | succ t ih =>
    unfold val
    cases j with
    | zero =>
      rw [Nat.testBit_zero]
      cases hb : b k <;> simp
    | succ j =>
      rw [Nat.testBit_succ]
      have e : (2 * val b (k + 1) t + (if b k = true then 1 else 0)) / 2 = val b (k + 1) t := by split <;> omega
      rw [e, ih j (by omega), show k + 1 + j = k + (j + 1) by omega]
def bitOf (B : List Bool) (i q : Nat) : Bool := B.getD (8 * i + q) false
def byteB (B : List Bool) (i : Nat) : UInt8 := UInt8.ofNat (val (bitOf B i) 0 8)
def pack (B : List Bool) (n : Nat) : List UInt8 := (List.range n).map (byteB B)
theorem pack_length (B : List Bool) (n : Nat) : (pack B n).length = n := by simp [pack]
theorem pack_succ (B : List Bool) (n : Nat) : pack B (n + 1) = pack B n ++ [byteB B n] := by simp [pack, List.range_succ]
theorem pack_bit (B : List Bool) (n q : Nat) (h : q < 8 * n) : bitAt (pack B n) q = B.getD q false := by
  have e : (pack B n).getD (q / 8) 0 = byteB B (q / 8) := by
    have : q / 8 < n := by omega
    unfold pack
    simp [this]
  unfold bitAt
  rw [e]
  unfold byteB
  have hl : val (bitOf B (q / 8)) 0 8 < 2 ^ 8 := val_lt _ _ _
  rw [UInt8.toNat_ofNat_of_lt' hl, val_bit _ _ _ (by omega)]
  unfold bitOf
  rw [show 8 * (q / 8) + (0 + q % 8) = q by omega]

/-- So far: the keys of the list, and the first j probes of one more. -/
def PartB (xs : List ByteArray) (m : Nat) (x : ByteArray) (j : Nat) (B : List Bool) : Prop := B.length = m ∧ ∀ q, q < m → (B.getD q false = true ↔ Hits xs m q ∨ ∃ i, i < j ∧ q = probe (hash x) i m)
theorem PartB.step {xs : List ByteArray} {m : Nat} {x : ByteArray} {j : Nat} {B : List Bool} (h : PartB xs m x j B) (hm : 0 < m) : PartB xs m x (j + 1) (B.set (probe (hash x) j m) true) := by
  have hp := probe_lt (hash x) j hm
  have hpl : probe (hash x) j m < B.length := by rw [h.1]; exact hp
  refine ⟨by rw [List.length_set]; exact h.1, fun q hq => ?_⟩
  have e : (B.set (probe (hash x) j m) true).getD q false = true ↔ q = probe (hash x) j m ∨ B.getD q false = true := by
    by_cases e : q = probe (hash x) j m
    · subst e
      simp [hpl]
    · simp only [List.getD_eq_getElem?_getD]
      rw [List.getElem?_set_ne (Ne.symm e)]
      simp [e]
  rw [e, h.2 q hq]
  clear e
  constructor
  · rintro (e | e | ⟨i, hi, e⟩)
    · exact .inr ⟨j, by omega, e⟩
    · exact .inl e
    · exact .inr ⟨i, by omega, e⟩
  · rintro (e | ⟨i, hi, e⟩)
    · exact .inr (.inl e)
    · by_cases e2 : i = j
      · subst e2; exact .inl e
      · exact .inr (.inr ⟨i, by omega, e⟩)
theorem PartB.turn {xs : List ByteArray} {m : Nat} {x y : ByteArray} {B : List Bool} (h : PartB xs m x 4 B) : PartB (xs ++ [x]) m y 0 B := by
  refine ⟨h.1, fun q hq => ?_⟩
  rw [h.2 q hq]
  unfold Hits
  constructor
  · rintro (⟨a, ha, r⟩ | r)
    · exact .inl ⟨a, by simp [ha], r⟩
    · exact .inl ⟨x, by simp, r⟩
  · rintro (⟨a, ha, r⟩ | ⟨i, hi, _⟩)
    · rcases List.mem_append.1 ha with ha | ha
      · exact .inl ⟨a, ha, r⟩
      · rw [List.mem_singleton.1 ha] at r; exact .inr r
    · omega
theorem PartB.other {xs : List ByteArray} {m : Nat} {x y : ByteArray} {B : List Bool} (h : PartB xs m x 0 B) : PartB xs m y 0 B :=
  ⟨h.1, fun q hq => by rw [h.2 q hq]; simp⟩
theorem PartB.start (m : Nat) (x : ByteArray) : PartB [] m x 0 (List.replicate m false) := by
  refine ⟨by simp, fun q _ => ?_⟩
  have : (List.replicate m false).getD q false = false := by
    simp only [List.getD_eq_getElem?_getD, List.getElem?_replicate]
    split <;> rfl
  rw [this]
  constructor
  · intro h; cases h
  · rintro (⟨a, ha, _⟩ | ⟨i, hi, _⟩)
    · cases ha
    · omega
theorem PartB.done {xs : List ByteArray} {x : ByteArray} {B : List Bool} (h : PartB xs (8 * len xs.length) x 0 B) : IsFilter xs (pack B (len xs.length)) := by
  refine ⟨pack_length _ _, fun q hq => ?_⟩
  rw [pack_length] at hq ⊢
  rw [pack_bit _ _ _ hq, h.2 q hq]
  constructor
  · rintro (e | ⟨i, hi, _⟩)
    · exact e
    · omega
  · exact .inl

end Go.Proofs.YtedjohkdfchocaaGreat.Bl
