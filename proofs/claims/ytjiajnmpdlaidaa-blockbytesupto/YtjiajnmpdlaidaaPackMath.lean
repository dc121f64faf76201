/-
  The bytes of numbers, whole numbers and texts (layer 1), as plain functions on lists: they come back, and no other bytes are read.
-/
import Derived.KernelRfl
namespace Go.Proofs.Ytjiajnmpdlaidaa.Pk

/-- A number's bytes, with so many bytes more at the most. -/
def encF : Nat → Nat → List UInt8
  | 0, n => [UInt8.ofNat n]
  | f + 1, n => if n < 128 then [UInt8.ofNat n] else UInt8.ofNat (n % 128 + 128) :: encF f (n / 128)
def enc (n : Nat) : List UInt8 := encF 9 n

/-- The number at a list's beginning, and how many bytes it has. -/
def numF : Nat → List UInt8 → Option (Nat × Nat)
  | 0, _ => none
  | _ + 1, [] => none
  | f + 1, c :: r =>
    if c.toNat < 128 then (if f = 0 ∧ 1 < c.toNat then none else some (c.toNat, 1))
    else match numF f r with
      | none => none
      | some (n, k) => if n = 0 then none else some (c.toNat - 128 + 128 * n, k + 1)
def dnum (l : List UInt8) : Option (Nat × Nat) := numF 10 l
def num (l : List UInt8) : Nat × Nat := (dnum l).getD (0, 0)

theorem u8_toNat_ofNat {n : Nat} (h : n < 256) : (UInt8.ofNat n).toNat = n := by simp; omega
theorem u8_ext {a b : UInt8} (h : a.toNat = b.toNat) : a = b := UInt8.toNat_inj.1 h
theorem u8_lt (a : UInt8) : a.toNat < 256 := a.toNat_lt

theorem encF_small (f n : Nat) (h : n < 128) : encF f n = [UInt8.ofNat n] := by cases f <;> simp [encF, h]
theorem encF_big (f n : Nat) (h : 128 ≤ n) : encF (f + 1) n = UInt8.ofNat (n % 128 + 128) :: encF f (n / 128) := by simp [encF]; omega
theorem encF_ne (f n : Nat) : encF f n ≠ [] := by
  cases f with
  | zero => simp [encF]
  | succ f => simp only [encF]; split <;> simp
theorem encF_len (f n : Nat) : 1 ≤ (encF f n).length ∧ (encF f n).length ≤ f + 1 := by
  induction f generalizing n with
  | zero => simp [encF]
  | succ f ih => simp only [encF]; split <;> simp; have := ih (n / 128); omega
theorem enc_len (n : Nat) : 1 ≤ (enc n).length ∧ (enc n).length ≤ 10 := encF_len 9 n
theorem enc_ne (n : Nat) : enc n ≠ [] := encF_ne 9 n

/-- So great a number may have so many bytes: f + 1 bytes, the last one below 128 (or below 2 where there are ten). -/
def fits : Nat → Nat → Prop
  | 0, n => n < 2
  | f + 1, n => n < 128 ∨ fits f (n / 128)

theorem fits_of {n : Nat} (h : n < 18446744073709551616) : fits 9 n := by
  simp only [fits]; omega

theorem fits_lt {n : Nat} (h : fits 9 n) : n < 18446744073709551616 := by
  simp only [fits] at h; omega

theorem numF_encF (f n : Nat) (r : List UInt8) (h : fits f n) : numF (f + 1) (encF f n ++ r) = some (n, (encF f n).length) := by
  induction f generalizing n with
  | zero =>
    simp only [fits] at h
    simp only [encF, List.cons_append, List.nil_append, numF, u8_toNat_ofNat (show n < 256 by omega), List.length_singleton]
    rw [if_pos (by omega), if_neg (by omega)]
  | succ f ih =>
    by_cases hn : n < 128
    · rw [encF_small _ _ hn]
      simp only [List.cons_append, List.nil_append, numF, u8_toNat_ofNat (show n < 256 by omega), List.length_singleton]
      rw [if_pos hn, if_neg (by omega)]
    · have h' : fits f (n / 128) := by simp only [fits] at h; rcases h with h | h; omega; exact h
      rw [encF_big _ _ (by omega), List.cons_append, numF, u8_toNat_ofNat (show n % 128 + 128 < 256 by omega), if_neg (by omega), ih _ h']
      simp only [List.length_cons]
      rw [if_neg (by omega)]
      congr 2
      omega

theorem dnum_enc (n : Nat) (r : List UInt8) (h : n < 18446744073709551616) : dnum (enc n ++ r) = some (n, (enc n).length) := numF_encF 9 n r (fits_of h)

theorem numF_some {f : Nat} {l : List UInt8} {n k : Nat} (h : numF (f + 1) l = some (n, k)) : fits f n ∧ k = (encF f n).length ∧ l = encF f n ++ l.drop k ∧ k ≤ l.length := by
  induction f generalizing l n k with
  | zero =>
    cases l with
    | nil => simp [numF] at h
    | cons c r =>
      simp only [numF] at h
      split at h
      · split at h
        · cases h
        · rename_i h1 h2
          simp only [true_and] at h2
          simp only [Option.some.injEq, Prod.mk.injEq] at h
          obtain ⟨rfl, rfl⟩ := h
          have hc : UInt8.ofNat c.toNat = c := u8_ext (u8_toNat_ofNat (by omega))
          exact ⟨by simp only [fits]; omega, by simp [encF], by simp [encF], by simp⟩
      · simp at h
  | succ f ih =>
    cases l with
    | nil => simp [numF] at h
    | cons c r =>
      rw [numF] at h
      split at h
      · rename_i h1
        simp only [Nat.add_one_ne_zero, false_and, if_false, Option.some.injEq, Prod.mk.injEq] at h
        obtain ⟨rfl, rfl⟩ := h
        have hc : UInt8.ofNat c.toNat = c := u8_ext (u8_toNat_ofNat (by omega))
        exact ⟨by simp only [fits]; omega, by simp [encF_small _ _ h1], by simp [encF_small _ _ h1], by simp⟩
      · rename_i h1
        cases hq : numF (f + 1) r with
        | none => rw [hq] at h; cases h
        | some p =>
          obtain ⟨n', k'⟩ := p
          rw [hq] at h
          simp only at h
          split at h
          · cases h
          · rename_i h2
            simp only [Option.some.injEq, Prod.mk.injEq] at h
            obtain ⟨rfl, rfl⟩ := h
            obtain ⟨g1, g2, g3, g4⟩ := ih hq
            have hc := u8_lt c
            have hbig : 128 ≤ c.toNat - 128 + 128 * n' := by omega
            have hd : (c.toNat - 128 + 128 * n') / 128 = n' := by omega
            have hm : (c.toNat - 128 + 128 * n') % 128 + 128 = c.toNat := by omega
            have he : encF (f + 1) (c.toNat - 128 + 128 * n') = c :: encF f n' := by
              rw [encF_big _ _ hbig, hd, hm]
              congr 1
              exact u8_ext (u8_toNat_ofNat (by omega))
            refine ⟨by simp only [fits]; right; rw [hd]; exact g1, by rw [he]; simp [g2], ?_, by simp; omega⟩
            rw [he, List.cons_append, List.drop_succ_cons, ← g3]

theorem dnum_some {l : List UInt8} {n k : Nat} (h : dnum l = some (n, k)) : n < 18446744073709551616 ∧ k = (enc n).length ∧ l = enc n ++ l.drop k ∧ k ≤ l.length := by
  obtain ⟨a, b, c, d⟩ := numF_some h
  exact ⟨fits_lt a, b, c, d⟩

/-- Bytes that all say that another one follows are no number's. -/
theorem numF_follow (f : Nat) (l : List UInt8) (h : ∀ c ∈ l, 128 ≤ c.toNat) : numF f l = none := by
  induction l generalizing f with
  | nil => cases f <;> rfl
  | cons c r ih =>
    cases f with
    | zero => rfl
    | succ f =>
      have := h c (by simp)
      rw [numF, if_neg (by omega), ih f (fun x hx => h x (by simp [hx]))]

theorem encF_begin (f n k : Nat) (hn : n < 128 ^ (f + 1)) (hk : k < (encF f n).length) : ∀ c ∈ (encF f n).take k, 128 ≤ c.toNat := by
  induction f generalizing n k with
  | zero => simp [encF] at hk; subst hk; simp
  | succ f ih =>
    by_cases h : n < 128
    · rw [encF_small _ _ h] at hk ⊢; simp at hk; subst hk; simp
    · rw [encF_big _ _ (by omega)] at hk ⊢
      cases k with
      | zero => simp
      | succ k =>
        intro c hc
        simp only [List.take_succ_cons, List.mem_cons] at hc
        rcases hc with rfl | hc
        · rw [u8_toNat_ofNat (by omega)]; omega
        · exact ih (n / 128) k (by rw [Nat.pow_succ] at hn; omega) (by simpa using hk) c hc

theorem dnum_begin (n k : Nat) (hn : n < 18446744073709551616) (hk : k < (enc n).length) : dnum ((enc n).take k) = none :=
  numF_follow _ _ (encF_begin 9 n k (by omega) hk)

theorem enc_inj {a b : Nat} (ha : a < 18446744073709551616) (hb : b < 18446744073709551616) (h : enc a = enc b) : a = b := by
  have h1 := dnum_enc a [] ha
  rw [h, dnum_enc b [] hb] at h1
  simp at h1
  exact h1.symm

theorem num_none {l : List UInt8} (h : dnum l = none) : num l = (0, 0) := by simp [num, h]
theorem num_some {l : List UInt8} {p : Nat × Nat} (h : dnum l = some p) : num l = p := by simp [num, h]
theorem num_two {l : List UInt8} (h : (num l).2 = 0) : dnum l = none := by
  cases hd : dnum l with
  | none => rfl
  | some p =>
    obtain ⟨n, k⟩ := p
    have := dnum_some hd
    have := enc_len n
    rw [num_some hd] at h
    simp at h; omega
theorem num_lt (l : List UInt8) : (num l).1 < 18446744073709551616 ∧ (num l).2 ≤ 10 ∧ (num l).2 ≤ l.length := by
  cases hd : dnum l with
  | none => rw [num_none hd]; simp
  | some p =>
    obtain ⟨n, k⟩ := p
    have h := dnum_some hd
    have := enc_len n
    rw [num_some hd]
    exact ⟨h.1, by simp; omega, h.2.2.2⟩

/-! ### As the loop goes over the bytes -/
/-- The number that bytes with the mark 'another one follows' stand for, so far. -/
def val : List UInt8 → Nat
  | [] => 0
  | c :: r => c.toNat % 128 + 128 * val r

theorem val_snoc (l : List UInt8) (c : UInt8) : val (l ++ [c]) = val l + 128 ^ l.length * (c.toNat % 128) := by
  induction l with
  | nil => simp [val]
  | cons x l ih =>
    simp only [List.cons_append, val, ih, List.length_cons, Nat.pow_succ, Nat.mul_add]
    rw [Nat.mul_comm (128 ^ l.length) 128, Nat.mul_assoc]
    omega
theorem val_lt (l : List UInt8) : val l < 128 ^ l.length := by
  induction l with
  | nil => simp [val]
  | cons x l ih => simp only [val, List.length_cons, Nat.pow_succ]; omega

/-- Behind bytes that all say that another one follows. -/
theorem numF_behind (p t : List UInt8) (f : Nat) (h : ∀ c ∈ p, 128 ≤ c.toNat) :
    numF (p.length + f) (p ++ t) = match numF f t with
      | none => none
      | some (n, k) => if p ≠ [] ∧ n = 0 then none else some (val p + 128 ^ p.length * n, p.length + k) := by
  induction p with
  | nil =>
    simp only [List.length_nil, Nat.zero_add, List.nil_append, val, Nat.pow_zero, Nat.one_mul]
    cases numF f t with
    | none => rfl
    | some q => simp
  | cons c p ih =>
    have hc := h c (by simp)
    have hlt := u8_lt c
    have ih' := ih (fun x hx => h x (by simp [hx]))
    rw [List.length_cons, show p.length + 1 + f = (p.length + f) + 1 by omega, List.cons_append, numF, if_neg (by omega), ih']
    cases numF f t with
    | none => rfl
    | some q =>
      obtain ⟨n, k⟩ := q
      simp only
      by_cases hn : n = 0
      · subst hn
        by_cases hp : p = []
        · subst hp; simp [val]
        · simp [hp]
      · have hv : val p + 128 ^ p.length * n ≠ 0 := by
          have : 0 < 128 ^ p.length * n := Nat.mul_pos (Nat.pow_pos (by omega)) (by omega)
          omega
        simp only [hn, and_false, if_false, hv, ne_eq, reduceCtorEq, not_false_eq_true, val, Nat.pow_succ, Nat.mul_add]
        refine congrArg some (Prod.ext ?_ ?_) <;> dsimp only
        · rw [show c.toNat % 128 = c.toNat - 128 by omega, Nat.mul_comm (128 ^ p.length) 128, Nat.mul_assoc]; omega
        · omega

/-- The last byte's ways. -/
theorem dnum_last (p : List UInt8) (c : UInt8) (t : List UInt8) (hp : p.length < 10) (h : ∀ x ∈ p, 128 ≤ x.toNat) (hc : c.toNat < 128) :
    dnum (p ++ c :: t) = if (0 < p.length ∧ c.toNat = 0) ∨ (p.length = 9 ∧ 1 < c.toNat) then none else some (val p + 128 ^ p.length * c.toNat, p.length + 1) := by
  have e : (10 : Nat) = p.length + ((9 - p.length) + 1) := by omega
  unfold dnum
  rw [e, numF_behind p (c :: t) _ h, numF, if_pos hc]
  have hpl : p ≠ [] ↔ 0 < p.length := by cases p <;> simp
  by_cases h9 : p.length = 9 ∧ 1 < c.toNat
  · rw [if_pos (show 9 - p.length = 0 ∧ 1 < c.toNat by omega), if_pos (.inr h9)]
  · rw [if_neg (show ¬ (9 - p.length = 0 ∧ 1 < c.toNat) by omega)]
    simp only [hpl]
    by_cases h0 : 0 < p.length ∧ c.toNat = 0
    · rw [if_pos h0, if_pos (.inl h0)]
    · rw [if_neg h0, if_neg (by omega)]

/-- There is no last byte among the first ten. -/
theorem dnum_no_last (l : List UInt8) (h : ∀ x ∈ l.take 10, 128 ≤ x.toNat) : dnum l = none := by
  by_cases h10 : l.length ≤ 10
  · rw [List.take_of_length_le h10] at h
    exact numF_follow _ _ h
  · have hl : (l.take 10).length = 10 := by simp; omega
    have := numF_behind (l.take 10) (l.drop 10) 0 h
    rw [List.take_append_drop, hl] at this
    exact this

/-! ### Whole numbers -/
def fold (n : Int) : Nat := if n < 0 then (2 * (-n - 1) + 1).toNat else (2 * n).toNat
def unfold (u : Nat) : Int := if u % 2 = 1 then -((u / 2 : Nat) : Int) - 1 else ((u / 2 : Nat) : Int)
theorem unfold_fold (n : Int) : unfold (fold n) = n := by
  unfold unfold fold
  split <;> split <;> omega
theorem fold_unfold (u : Nat) : fold (unfold u) = u := by
  unfold unfold fold
  split <;> split <;> omega
theorem fold_lt {n : Int} (h1 : -9223372036854775808 ≤ n) (h2 : n ≤ 9223372036854775807) : fold n < 18446744073709551616 := by
  unfold fold; split <;> omega
theorem unfold_bd {u : Nat} (h : u < 18446744073709551616) : -9223372036854775808 ≤ unfold u ∧ unfold u ≤ 9223372036854775807 := by
  unfold unfold; split <;> omega

/-! ### Lists of them -/
def nums (l : List Nat) : List UInt8 := l.flatMap enc
def ints (l : List Int) : List UInt8 := l.flatMap fun n => enc (fold n)
def text (s : List UInt8) : List UInt8 := enc s.length ++ s
def texts (l : List (List UInt8)) : List UInt8 := l.flatMap text

/-- The text at a list's beginning: how many bytes stand ahead of it, and how many it has. -/
def dtext (l : List UInt8) : Option (Nat × Nat) := match dnum l with
  | none => none
  | some (n, k) => if n ≤ l.length - k then some (k, n) else none

end Go.Proofs.Ytjiajnmpdlaidaa.Pk
