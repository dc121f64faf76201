/-
  The texts BloomMath.
-/
import Derived.WalkKit

/-
  The filter as plain mathematics: the hash of a key's bytes, the probes, a list of bytes told by its bits; a filter is told by its length and its set bits, so there is only one for given keys, in whatever order.
-/
namespace Go.Proofs.YtedjohkdfchocaaGreat.Bl

def feed (h : Nat) (c : UInt8) : Nat := ((h ^^^ c.toNat) * 1099511628211) % 18446744073709551616
def run (h : Nat) (l : List UInt8) : Nat := l.foldl feed h
def hash (s : ByteArray) : Nat := run 14695981039346656037 s.data.toList
theorem feed_lt (h : Nat) (c : UInt8) : feed h c < 18446744073709551616 := Nat.mod_lt _ (by decide)
theorem run_lt {h : Nat} (hh : h < 18446744073709551616) (l : List UInt8) : run h l < 18446744073709551616 := by
  induction l generalizing h with
  | nil => exact hh
  | cons c l ih => exact ih (feed_lt h c)
theorem hash_lt (s : ByteArray) : hash s < 18446744073709551616 := run_lt (by decide) _
theorem run_snoc (h : Nat) (l : List UInt8) (c : UInt8) : run h (l ++ [c]) = feed (run h l) c := by
  unfold run
  rw [List.foldl_append, List.foldl_cons, List.foldl_nil]
theorem run_bytes (h : Nat) (s : ByteArray) (k : Nat) (hk : k < s.size) : feed (run h (s.data.toList.take k)) s[k] = run h (s.data.toList.take (k + 1)) := by
  rw [List.take_succ_eq_append_getElem (by simpa using hk), run_snoc]
  rfl

def odd (b : Nat) : Nat := if b % 2 = 0 then b + 1 else b
theorem odd_lt {b : Nat} (h : b < 4294967296) : odd b < 4294967296 := by unfold odd; split <;> omega
theorem or_one (b : Nat) : b ||| 1 = odd b := by
  apply Nat.eq_of_testBit_eq
  intro i
  unfold odd
  rw [Nat.testBit_or]
  cases i with
  | zero =>
    simp only [Nat.testBit_zero]
    split <;> simp <;> omega
  | succ i =>
    rw [Nat.testBit_succ, Nat.testBit_succ, Nat.testBit_succ]
    have h1 : 1 / 2 = 0 := rfl
    rw [h1, Nat.zero_testBit, Bool.or_false]
    split
    · rw [show (b + 1) / 2 = b / 2 by omega]
    · rfl
/-- The probe number i in m bits of a key with that hash. -/
def probe (h i m : Nat) : Nat := (h % 4294967296 + i * odd (h / 4294967296)) % m
theorem probe_lt (h i : Nat) {m : Nat} (hm : 0 < m) : probe h i m < m := Nat.mod_lt _ hm

/-- The bit number p of a list of bytes. -/
def bitAt (f : List UInt8) (p : Nat) : Bool := (f.getD (p / 8) 0).toNat.testBit (p % 8)
theorem byte_ext {a b : UInt8} (h : ∀ j, j < 8 → a.toNat.testBit j = b.toNat.testBit j) : a = b := by
  apply UInt8.toNat_inj.1
  apply Nat.eq_of_testBit_eq
  intro i
  rcases Nat.lt_or_ge i 8 with hi | hi
  · exact h i hi
  · have e : 2 ^ 8 ≤ 2 ^ i := Nat.pow_le_pow_right (by decide) hi
    have ha := a.toNat_lt
    have hb := b.toNat_lt
    rw [Nat.testBit_lt_two_pow (by omega), Nat.testBit_lt_two_pow (by omega)]
theorem bits_ext {f g : List UInt8} (hl : f.length = g.length) (h : ∀ q, q < 8 * f.length → bitAt f q = bitAt g q) : f = g := by
  apply List.ext_getElem hl
  intro i h1 h2
  apply byte_ext
  intro j hj
  have := h (8 * i + j) (by omega)
  unfold bitAt at this
  rw [show (8 * i + j) / 8 = i by omega, show (8 * i + j) % 8 = j by omega] at this
  simpa [h1, h2] using this

/-- One bit more. -/
def setBit (f : List UInt8) (p : Nat) : List UInt8 := f.set (p / 8) (UInt8.ofNat ((f.getD (p / 8) 0).toNat ||| 2 ^ (p % 8)))
theorem setBit_length (f : List UInt8) (p : Nat) : (setBit f p).length = f.length := by simp [setBit]
theorem or_pow_lt (x : UInt8) (j : Nat) (hj : j < 8) : x.toNat ||| 2 ^ j < 256 := by
  have h1 : x.toNat < 2 ^ 8 := x.toNat_lt
  have h2 : 2 ^ j < 2 ^ 8 := Nat.pow_lt_pow_right (by decide) hj
  exact Nat.or_lt_two_pow h1 h2
theorem setBit_at {f : List UInt8} {p : Nat} (hp : p < 8 * f.length) (q : Nat) : bitAt (setBit f p) q = (decide (q = p) || bitAt f q) := by
  have hp8 : p / 8 < f.length := by omega
  unfold bitAt setBit
  by_cases h : q / 8 = p / 8
  · rw [h]
    have e : (f.set (p / 8) (UInt8.ofNat ((f.getD (p / 8) 0).toNat ||| 2 ^ (p % 8)))).getD (p / 8) 0 = UInt8.ofNat ((f.getD (p / 8) 0).toNat ||| 2 ^ (p % 8)) := by
      simp [hp8]
    rw [e]
    have hlt := or_pow_lt (f.getD (p / 8) 0) (p % 8) (by omega)
    rw [UInt8.toNat_ofNat_of_lt' hlt, Nat.testBit_or, Nat.testBit_two_pow, Bool.or_comm]
    congr 1
    by_cases e2 : q = p
    · subst e2; simp
    · rw [decide_eq_false e2, decide_eq_false (by omega)]
  · have e : (f.set (p / 8) (UInt8.ofNat ((f.getD (p / 8) 0).toNat ||| 2 ^ (p % 8)))).getD (q / 8) 0 = f.getD (q / 8) 0 := by
      simp only [List.getD_eq_getElem?_getD]
      rw [List.getElem?_set_ne (by omega)]
    rw [e, decide_eq_false (by rintro rfl; exact h rfl), Bool.false_or]

def len (n : Nat) : Nat := (10 * n + 7) / 8
/-- q is a probe of one of the keys. -/
def Hits (xs : List ByteArray) (m q : Nat) : Prop := ∃ x ∈ xs, ∃ i, i < 4 ∧ q = probe (hash x) i m
/-- f is the filter of the keys. -/
def IsFilter (xs : List ByteArray) (f : List UInt8) : Prop := f.length = len xs.length ∧ ∀ q, q < 8 * f.length → (bitAt f q = true ↔ Hits xs (8 * f.length) q)
theorem IsFilter.unique {xs ys : List ByteArray} {f g : List UInt8} (hf : IsFilter xs f) (hg : IsFilter ys g) (hl : xs.length = ys.length) (hm : ∀ x, x ∈ xs ↔ x ∈ ys) : f = g := by
  have hlen : f.length = g.length := by rw [hf.1, hg.1, hl]
  refine bits_ext hlen fun q hq => ?_
  apply Bool.eq_iff_iff.2
  rw [hf.2 q hq, hg.2 q (by omega), hlen]
  unfold Hits
  simp only [hm]
/-- What the filter says of a key. -/
def may (f : List UInt8) (x : ByteArray) : Bool := decide (f ≠ []) && (bitAt f (probe (hash x) 0 (8 * f.length)) && (bitAt f (probe (hash x) 1 (8 * f.length)) && (bitAt f (probe (hash x) 2 (8 * f.length)) && bitAt f (probe (hash x) 3 (8 * f.length)))))
theorem may_iff {f : List UInt8} {x : ByteArray} : may f x = true ↔ f ≠ [] ∧ ∀ i, i < 4 → bitAt f (probe (hash x) i (8 * f.length)) = true := by
  unfold may
  simp only [Bool.and_eq_true, decide_eq_true_eq]
  constructor
  · rintro ⟨h, h0, h1, h2, h3⟩
    refine ⟨h, fun i hi => ?_⟩
    match i, hi with
    | 0, _ => exact h0
    | 1, _ => exact h1
    | 2, _ => exact h2
    | 3, _ => exact h3
  · rintro ⟨h, k⟩
    exact ⟨h, k 0 (by omega), k 1 (by omega), k 2 (by omega), k 3 (by omega)⟩
theorem IsFilter.keeps {xs : List ByteArray} {f : List UInt8} (hf : IsFilter xs f) {x : ByteArray} (hx : x ∈ xs) : may f x = true := by
  have hn : 0 < xs.length := List.length_pos_of_mem hx
  have hl : 0 < f.length := by rw [hf.1]; unfold len; omega
  refine may_iff.2 ⟨by intro h; rw [h] at hl; simp at hl, fun i hi => ?_⟩
  exact (hf.2 _ (probe_lt _ _ (by omega))).2 ⟨x, hx, i, hi, rfl⟩
theorem IsFilter.nil_iff {xs : List ByteArray} {f : List UInt8} (hf : IsFilter xs f) : f = [] ↔ xs.length = 0 := by
  have h := hf.1
  unfold len at h
  rw [← List.length_eq_zero_iff]
  omega

/-! ### How a filter is filled, probe by probe -/
/-- So far: the keys of the list, and the first j probes of one more. -/
def Part (xs : List ByteArray) (m : Nat) (x : ByteArray) (j : Nat) (f : List UInt8) : Prop := 8 * f.length = m ∧ ∀ q, q < m → (bitAt f q = true ↔ Hits xs m q ∨ ∃ i, i < j ∧ q = probe (hash x) i m)
theorem Part.step {xs : List ByteArray} {m : Nat} {x : ByteArray} {j : Nat} {f : List UInt8} (h : Part xs m x j f) (hm : 0 < m) : Part xs m x (j + 1) (setBit f (probe (hash x) j m)) := by
  have hp := probe_lt (hash x) j hm
  refine ⟨by rw [setBit_length]; exact h.1, fun q hq => ?_⟩
  rw [setBit_at (by rw [h.1]; exact hp), Bool.or_eq_true, decide_eq_true_eq, h.2 q hq]
  constructor
  · rintro (e | e | ⟨i, hi, e⟩)
    · exact .inr ⟨j, by omega, e⟩
    · exact .inl e
    · exact .inr ⟨i, by omega, e⟩
  · rintro (e | ⟨i, hi, e⟩)
    · exact .inr (.inl e)
    · by_cases e2 : i = j
      · subst e2; exact .inl e
      · exact .inr (.inr ⟨i, by omega, e⟩)
theorem Part.turn {xs : List ByteArray} {m : Nat} {x y : ByteArray} {f : List UInt8} (h : Part xs m x 4 f) : Part (xs ++ [x]) m y 0 f := by
  refine ⟨h.1, fun q hq => ?_⟩
  rw [h.2 q hq]
  unfold Hits
  constructor
  · rintro (⟨a, ha, r⟩ | r)
    · exact .inl ⟨a, by simp [ha], r⟩
    · exact .inl ⟨x, by simp, r⟩
  · rintro (⟨a, ha, r⟩ | ⟨i, hi, _⟩)
    · rcases List.mem_append.1 ha with ha | ha
      · exact .inl ⟨a, ha, r⟩
      · rw [List.mem_singleton.1 ha] at r; exact .inr r
    · omega
theorem bitAt_zeros (n q : Nat) : bitAt (List.replicate n 0) q = false := by
  unfold bitAt
  have : (List.replicate n (0 : UInt8)).getD (q / 8) 0 = 0 := by
    simp only [List.getD_eq_getElem?_getD, List.getElem?_replicate]
    split <;> rfl
  rw [this]
  simp
theorem Part.start (n : Nat) (x : ByteArray) : Part [] (8 * n) x 0 (List.replicate n 0) := by
  refine ⟨by simp, fun q _ => ?_⟩
  rw [bitAt_zeros]
  constructor
  · intro h; cases h
  · rintro (⟨a, ha, _⟩ | ⟨i, hi, _⟩)
    · cases ha
    · omega
theorem Part.done {xs : List ByteArray} {x : ByteArray} {f : List UInt8} (h : Part xs (8 * len xs.length) x 0 f) : IsFilter xs f := by
  have hl : f.length = len xs.length := by have := h.1; omega
  refine ⟨hl, fun q hq => ?_⟩
  rw [hl] at hq ⊢
  rw [h.2 q hq]
  constructor
  · rintro (e | ⟨i, hi, _⟩)
    · exact e
    · omega
  · exact .inl

/-! ### More bits -/
def joinAt (f g : List UInt8) (i : Nat) : UInt8 := if i < g.length then UInt8.ofNat ((f.getD i 0).toNat ||| (g.getD i 0).toNat) else f.getD i 0
def joined (f g : List UInt8) (k : Nat) : List UInt8 := (List.range k).map (joinAt f g)
theorem joined_grows (f g : List UInt8) {q : Nat} (hq : q < 8 * f.length) (h : bitAt f q = true) : bitAt (joined f g f.length) q = true := by
  unfold bitAt joined at *
  have e : ((List.range f.length).map (joinAt f g)).getD (q / 8) 0 = joinAt f g (q / 8) := by
    have : q / 8 < f.length := by omega
    simp [this]
  rw [e]
  unfold joinAt
  split
  · have h1 : (f.getD (q / 8) 0).toNat < 2 ^ 8 := UInt8.toNat_lt _
    have h2 : (g.getD (q / 8) 0).toNat < 2 ^ 8 := UInt8.toNat_lt _
    rw [UInt8.toNat_ofNat_of_lt' (Nat.or_lt_two_pow h1 h2), Nat.testBit_or, h, Bool.true_or]
  · exact h
theorem joined_length (f g : List UInt8) (k : Nat) : (joined f g k).length = k := by simp [joined]
theorem joined_succ (f g : List UInt8) (k : Nat) : joined f g (k + 1) = joined f g k ++ [joinAt f g k] := by simp [joined, List.range_succ]
theorem may_grows {f g : List UInt8} {x : ByteArray} (h : may f x = true) : may (joined f g f.length) x = true := by
  obtain ⟨h0, h1⟩ := may_iff.1 h
  have hl : 0 < f.length := List.length_pos_iff.2 h0
  refine may_iff.2 ⟨by intro e; have := joined_length f g f.length; rw [e] at this; simp at this; omega, fun i hi => ?_⟩
  rw [joined_length]
  exact joined_grows f g (probe_lt _ _ (by omega)) (h1 i hi)

end Go.Proofs.YtedjohkdfchocaaGreat.Bl
