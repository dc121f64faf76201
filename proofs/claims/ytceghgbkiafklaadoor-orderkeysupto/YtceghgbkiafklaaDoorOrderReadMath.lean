/-
  Reading keys over plain lists of bytes: what goes on behind bytes that were read is read in one way.
-/
import Derived.Test.YtceghgbkiafklaaDoorOrderMath
namespace Go.Proofs.YtceghgbkiafklaaDoor.Od
open Go.Lib (compareBytes)
set_option linter.unusedVariables false

/-- What was read is a beginning of what there is to read. -/
theorem esc_split {d l t r : List UInt8} (h : esc d ++ l = esc t ++ 0 :: 0 :: r) : ∃ t', t = d ++ t' ∧ l = esc t' ++ 0 :: 0 :: r := by
  induction d generalizing t with
  | nil => exact ⟨t, rfl, h⟩
  | cons x d ih =>
    cases t with
    | nil =>
      exfalso
      simp only [esc] at h
      by_cases hx : x = 0
      · rw [if_pos hx] at h; simp at h
      · rw [if_neg hx] at h; simp at h; exact hx h.1
    | cons y t =>
      simp only [esc] at h
      by_cases hx : x = 0
      · rw [if_pos hx] at h
        by_cases hy : y = 0
        · rw [if_pos hy] at h
          simp only [List.cons_append, List.cons.injEq, true_and] at h
          obtain ⟨t', rfl, e⟩ := ih h
          exact ⟨t', by rw [hx, hy]; rfl, e⟩
        · rw [if_neg hy] at h
          simp only [List.cons_append, List.cons.injEq] at h
          exact absurd h.1.symm hy
      · rw [if_neg hx] at h
        by_cases hy : y = 0
        · rw [if_pos hy] at h
          simp only [List.cons_append, List.cons.injEq] at h
          exact absurd h.1 hx
        · rw [if_neg hy] at h
          simp only [List.cons_append, List.cons.injEq] at h
          obtain ⟨t', rfl, e⟩ := ih h.2
          exact ⟨t', by rw [h.1]; rfl, e⟩
theorem esc_unique {t r t2 r2 : List UInt8} (h : esc t ++ 0 :: 0 :: r = esc t2 ++ 0 :: 0 :: r2) : t = t2 ∧ r = r2 := by
  obtain ⟨t', rfl, e⟩ := esc_split h
  cases t' with
  | nil => simp [esc] at e; exact ⟨by simp, e⟩
  | cons x t' =>
    exfalso
    simp only [esc] at e
    by_cases hx : x = 0
    · rw [if_pos hx] at e; simp at e
    · rw [if_neg hx] at e; simp at e; exact hx e.1.symm
theorem esc_no_zero {t r l : List UInt8} (h : (0 : UInt8) ∉ l) : l ≠ esc t ++ 0 :: 0 :: r := by
  intro e
  rw [e] at h
  simp at h
theorem esc_short {t r p : List UInt8} (hp : esc p = p) : p ++ [0] ≠ esc t ++ 0 :: 0 :: r := by
  intro e
  rw [← hp] at e
  obtain ⟨t', _, e2⟩ := esc_split e
  have := congrArg List.length e2
  simp at this
  omega
theorem esc_other {t r p r1 : List UInt8} {c : UInt8} (hp : esc p = p) (h0 : c ≠ 0) (h255 : c ≠ 255) : p ++ 0 :: c :: r1 ≠ esc t ++ 0 :: 0 :: r := by
  intro e
  rw [← hp] at e
  obtain ⟨t', _, e2⟩ := esc_split e
  cases t' with
  | nil => simp [esc] at e2; exact h0 e2.1
  | cons x t' =>
    simp only [esc] at e2
    by_cases hx : x = 0
    · rw [if_pos hx] at e2; simp at e2; exact h255 e2.1
    · rw [if_neg hx] at e2; simp at e2; exact hx e2.1.symm

/-- The bytes go on with a text's end. -/
def hasText (l : List UInt8) : Prop := ∃ t r, l = esc t ++ 0 :: 0 :: r
theorem noText_of {d l : List UInt8} (h : ¬ hasText l) : ¬ hasText (esc d ++ l) := by
  rintro ⟨t, r, e⟩
  obtain ⟨t', _, e2⟩ := esc_split e
  exact h ⟨t', r, e2⟩

/-- The number that eight bytes say. -/
def numOf (l : List UInt8) : Int := (val l : Int) - 9223372036854775808
theorem numOf_in {l : List UInt8} (h : l.length = 8) : inI (numOf l) := by
  have := val_lt l
  rw [h] at this
  unfold numOf inI
  simp at this
  omega
theorem numB_numOf {l : List UInt8} (h : l.length = 8) : numB (numOf l) = l := by
  have h1 := val_lt l
  rw [h] at h1
  have : numU (numOf l) = val l := by unfold numU numOf; omega
  rw [numB, this, be_val h]
theorem numOf_numB {n : Int} (h : inI n) : numOf (numB n) = n := by
  unfold numOf numB
  rw [val_be (numU_lt h)]
  have := h.1
  unfold numU
  omega

/-- The bytes begin with a part's. -/
def hasPart (l : List UInt8) : Prop := ∃ p r, right p ∧ p.ok ∧ l = partB p ++ r
theorem noPart_mark {m : UInt8} {l : List UInt8} (h1 : m ≠ 1) (h2 : m ≠ 2) : ¬ hasPart (m :: l) := by
  rintro ⟨p, r, hr, _, e⟩
  unfold partB at e
  split at e
  · simp at e; exact h1 e.1
  · simp at e; exact h2 e.1
theorem noPart_int {l : List UInt8} (h : l.length < 8) : ¬ hasPart (1 :: l) := by
  rintro ⟨p, r, hr, _, e⟩
  unfold partB at e
  split at e
  · simp at e
    have := congrArg List.length e
    simp [numB, be_length] at this
    omega
  · simp at e
theorem noPart_text {l : List UInt8} (h : ¬ hasText l) : ¬ hasPart (2 :: l) := by
  rintro ⟨p, r, hr, _, e⟩
  unfold partB at e
  split at e
  · simp at e
  · simp at e
    exact h ⟨_, _, e⟩

/-- The bytes are a key. -/
def isKey (l : List UInt8) : Prop := ∃ ps, rights ps ∧ oks ps ∧ l = keyOf ps
theorem key_split {ps qs : List Pt} {l : List UInt8} (hp : rights ps) (hq : rights qs) (op : oks ps) (oq : oks qs) (h : keyOf ps ++ l = keyOf qs) : ∃ qs', qs = ps ++ qs' ∧ l = keyOf qs' := by
  have : ps <+: qs := (key_begins hp hq op oq).1 ⟨l, h⟩
  obtain ⟨qs', rfl⟩ := this
  rw [keyOf_append] at h
  exact ⟨qs', rfl, List.append_cancel_left h⟩
theorem noKey_of {ps : List Pt} {l : List UInt8} (hp : rights ps) (op : oks ps) (hl : l ≠ []) (h : ¬ hasPart l) : ¬ isKey (keyOf ps ++ l) := by
  rintro ⟨qs, hq, oq, e⟩
  obtain ⟨qs', rfl, e2⟩ := key_split hp hq op oq e
  cases qs' with
  | nil => exact hl e2
  | cons q qs' =>
    rw [keyOf_cons] at e2
    exact h ⟨q, keyOf qs', hq q (by simp), oq q (by simp), e2⟩
end Go.Proofs.YtceghgbkiafklaaDoor.Od
