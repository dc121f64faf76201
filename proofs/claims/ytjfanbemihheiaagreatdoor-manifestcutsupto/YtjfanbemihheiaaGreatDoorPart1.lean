/-
  The texts PackMath, PackHeap, PackPut, PackWrite, PackNumber, PackRest, PackRead.
-/
import Derived.KernelRfl
import Derived.Test.YtjfanbemihheiaaGreatDoorProg
import Derived.WalkKit
import Derived.Deep.AppendLies
import Derived.Deep.AppendSrc
import Derived.Laws.BitsAllLaws
import Derived.Lib.AppendStr
import Derived.Deep.Light
import Derived.Laws.DeepNot64
import Derived.Lib.Strings
import Derived.Lib.SmallJoins

/-
  The bytes of numbers, whole numbers and texts (layer 1), as plain functions on lists: they come back, and no other bytes are read.
-/
namespace Go.Proofs.YtjfanbemihheiaaGreatDoor.Pk

/-- A number's bytes, with so many bytes more at the most. -/
def encF : Nat → Nat → List UInt8
  | 0, n => [UInt8.ofNat n]
  | f + 1, n => if n < 128 then [UInt8.ofNat n] else UInt8.ofNat (n % 128 + 128) :: encF f (n / 128)
def enc (n : Nat) : List UInt8 := encF 9 n

/-- The number at a list's beginning, and how many bytes it has. -/
def numF : Nat → List UInt8 → Option (Nat × Nat)
  | 0, _ => none
  | _ + 1, [] => none
  | f + 1, c :: r =>
    if c.toNat < 128 then (if f = 0 ∧ 1 < c.toNat then none else some (c.toNat, 1))
    else match numF f r with
      | none => none
      | some (n, k) => if n = 0 then none else some (c.toNat - 128 + 128 * n, k + 1)
def dnum (l : List UInt8) : Option (Nat × Nat) := numF 10 l
def num (l : List UInt8) : Nat × Nat := (dnum l).getD (0, 0)

theorem u8_toNat_ofNat {n : Nat} (h : n < 256) : (UInt8.ofNat n).toNat = n := by simp; omega
theorem u8_ext {a b : UInt8} (h : a.toNat = b.toNat) : a = b := UInt8.toNat_inj.1 h
theorem u8_lt (a : UInt8) : a.toNat < 256 := a.toNat_lt

theorem encF_small (f n : Nat) (h : n < 128) : encF f n = [UInt8.ofNat n] := by cases f <;> simp [encF, h]
theorem encF_big (f n : Nat) (h : 128 ≤ n) : encF (f + 1) n = UInt8.ofNat (n % 128 + 128) :: encF f (n / 128) := by simp [encF]; omega
theorem encF_ne (f n : Nat) : encF f n ≠ [] := by
  cases f with
  | zero => simp [encF]
  | succ f => simp only [encF]; split <;> simp
theorem encF_len (f n : Nat) : 1 ≤ (encF f n).length ∧ (encF f n).length ≤ f + 1 := by
  induction f generalizing n with
  | zero => simp [encF]
  | succ f ih => simp only [encF]; split <;> simp; have := ih (n / 128); omega
theorem enc_len (n : Nat) : 1 ≤ (enc n).length ∧ (enc n).length ≤ 10 := encF_len 9 n
theorem enc_ne (n : Nat) : enc n ≠ [] := encF_ne 9 n

/-- So great a number may have so many bytes: f + 1 bytes, the last one below 128 (or below 2 where there are ten). -/
def fits : Nat → Nat → Prop
  | 0, n => n < 2
  | f + 1, n => n < 128 ∨ fits f (n / 128)

theorem fits_of {n : Nat} (h : n < 18446744073709551616) : fits 9 n := by
  simp only [fits]; omega

theorem fits_lt {n : Nat} (h : fits 9 n) : n < 18446744073709551616 := by
  simp only [fits] at h; omega

theorem numF_encF (f n : Nat) (r : List UInt8) (h : fits f n) : numF (f + 1) (encF f n ++ r) = some (n, (encF f n).length) := by
  induction f generalizing n with
  | zero =>
    simp only [fits] at h
    simp only [encF, List.cons_append, List.nil_append, numF, u8_toNat_ofNat (show n < 256 by omega), List.length_singleton]
    rw [if_pos (by omega), if_neg (by omega)]
  | succ f ih =>
    by_cases hn : n < 128
    · rw [encF_small _ _ hn]
      simp only [List.cons_append, List.nil_append, numF, u8_toNat_ofNat (show n < 256 by omega), List.length_singleton]
      rw [if_pos hn, if_neg (by omega)]
    · have h' : fits f (n / 128) := by simp only [fits] at h; rcases h with h | h; omega; exact h
      rw [encF_big _ _ (by omega), List.cons_append, numF, u8_toNat_ofNat (show n % 128 + 128 < 256 by omega), if_neg (by omega), ih _ h']
      simp only [List.length_cons]
      rw [if_neg (by omega)]
      congr 2
      omega

theorem dnum_enc (n : Nat) (r : List UInt8) (h : n < 18446744073709551616) : dnum (enc n ++ r) = some (n, (enc n).length) := numF_encF 9 n r (fits_of h)

theorem numF_some {f : Nat} {l : List UInt8} {n k : Nat} (h : numF (f + 1) l = some (n, k)) : fits f n ∧ k = (encF f n).length ∧ l = encF f n ++ l.drop k ∧ k ≤ l.length := by
  induction f generalizing l n k with
  | zero =>
    cases l with
    | nil => simp [numF] at h
    | cons c r =>
      simp only [numF] at h
      split at h
      · split at h
        · cases h
        · rename_i h1 h2
          simp only [true_and] at h2
          simp only [Option.some.injEq, Prod.mk.injEq] at h
          obtain ⟨rfl, rfl⟩ := h
          have hc : UInt8.ofNat c.toNat = c := u8_ext (u8_toNat_ofNat (by omega))
          exact ⟨by simp only [fits]; omega, by simp [encF], by simp [encF], by simp⟩
      · simp at h
  | succ f ih =>
    cases l with
    | nil => simp [numF] at h
    | cons c r =>
      rw [numF] at h
      split at h
      · rename_i h1
        simp only [Nat.add_one_ne_zero, false_and, if_false, Option.some.injEq, Prod.mk.injEq] at h
        obtain ⟨rfl, rfl⟩ := h
        have hc : UInt8.ofNat c.toNat = c := u8_ext (u8_toNat_ofNat (by omega))
        exact ⟨by simp only [fits]; omega, by simp [encF_small _ _ h1], by simp [encF_small _ _ h1], by simp⟩
      · rename_i h1
        cases hq : numF (f + 1) r with
        | none => rw [hq] at h; cases h
        | some p =>
          obtain ⟨n', k'⟩ := p
          rw [hq] at h
          simp only at h
          split at h
          · cases h
          · rename_i h2
            simp only [Option.some.injEq, Prod.mk.injEq] at h
            obtain ⟨rfl, rfl⟩ := h
            obtain ⟨g1, g2, g3, g4⟩ := ih hq
            have hc := u8_lt c
            have hbig : 128 ≤ c.toNat - 128 + 128 * n' := by omega
            have hd : (c.toNat - 128 + 128 * n') / 128 = n' := by omega
            have hm : (c.toNat - 128 + 128 * n') % 128 + 128 = c.toNat := by omega
            have he : encF (f + 1) (c.toNat - 128 + 128 * n') = c :: encF f n' := by
              rw [encF_big _ _ hbig, hd, hm]
              congr 1
              exact u8_ext (u8_toNat_ofNat (by omega))
            refine ⟨by simp only [fits]; right; rw [hd]; exact g1, by rw [he]; simp [g2], ?_, by simp; omega⟩
            rw [he, List.cons_append, List.drop_succ_cons, ← g3]

theorem dnum_some {l : List UInt8} {n k : Nat} (h : dnum l = some (n, k)) : n < 18446744073709551616 ∧ k = (enc n).length ∧ l = enc n ++ l.drop k ∧ k ≤ l.length := by
  obtain ⟨a, b, c, d⟩ := numF_some h
  exact ⟨fits_lt a, b, c, d⟩

/-- Bytes that all say that another one follows are no number's. -/
theorem numF_follow (f : Nat) (l : List UInt8) (h : ∀ c ∈ l, 128 ≤ c.toNat) : numF f l = none := by
  induction l generalizing f with
  | nil => cases f <;> rfl
  | cons c r ih =>
    cases f with
    | zero => rfl
    | succ f =>
      have := h c (by simp)
      rw [numF, if_neg (by omega), ih f (fun x hx => h x (by simp [hx]))]

theorem encF_begin (f n k : Nat) (hn : n < 128 ^ (f + 1)) (hk : k < (encF f n).length) : ∀ c ∈ (encF f n).take k, 128 ≤ c.toNat := by
  induction f generalizing n k with
  | zero => simp [encF] at hk; subst hk; simp
  | succ f ih =>
    by_cases h : n < 128
    · rw [encF_small _ _ h] at hk ⊢; simp at hk; subst hk; simp
    · rw [encF_big _ _ (by omega)] at hk ⊢
      cases k with
      | zero => simp
      | succ k =>
        intro c hc
        simp only [List.take_succ_cons, List.mem_cons] at hc
        rcases hc with rfl | hc
        · rw [u8_toNat_ofNat (by omega)]; omega
        · exact ih (n / 128) k (by rw [Nat.pow_succ] at hn; omega) (by simpa using hk) c hc

theorem dnum_begin (n k : Nat) (hn : n < 18446744073709551616) (hk : k < (enc n).length) : dnum ((enc n).take k) = none :=
  numF_follow _ _ (encF_begin 9 n k (by omega) hk)

theorem enc_inj {a b : Nat} (ha : a < 18446744073709551616) (hb : b < 18446744073709551616) (h : enc a = enc b) : a = b := by
  have h1 := dnum_enc a [] ha
  rw [h, dnum_enc b [] hb] at h1
  simp at h1
  exact h1.symm

theorem num_none {l : List UInt8} (h : dnum l = none) : num l = (0, 0) := by simp [num, h]
theorem num_some {l : List UInt8} {p : Nat × Nat} (h : dnum l = some p) : num l = p := by simp [num, h]
theorem num_two {l : List UInt8} (h : (num l).2 = 0) : dnum l = none := by
  cases hd : dnum l with
  | none => rfl
  | some p =>
    obtain ⟨n, k⟩ := p
    have := dnum_some hd
    have := enc_len n
    rw [num_some hd] at h
    simp at h; omega
theorem num_lt (l : List UInt8) : (num l).1 < 18446744073709551616 ∧ (num l).2 ≤ 10 ∧ (num l).2 ≤ l.length := by
  cases hd : dnum l with
  | none => rw [num_none hd]; simp
  | some p =>
    obtain ⟨n, k⟩ := p
    have h := dnum_some hd
    have := enc_len n
    rw [num_some hd]
    exact ⟨h.1, by simp; omega, h.2.2.2⟩

/-! ### As the loop goes over the bytes -/
/-- The number that bytes with the mark 'another one follows' stand for, so far. -/
def val : List UInt8 → Nat
  | [] => 0
  | c :: r => c.toNat % 128 + 128 * val r

theorem val_snoc (l : List UInt8) (c : UInt8) : val (l ++ [c]) = val l + 128 ^ l.length * (c.toNat % 128) := by
  induction l with
  | nil => simp [val]
  | cons x l ih =>
    simp only [List.cons_append, val, ih, List.length_cons, Nat.pow_succ, Nat.mul_add]
    rw [Nat.mul_comm (128 ^ l.length) 128, Nat.mul_assoc]
    omega
theorem val_lt (l : List UInt8) : val l < 128 ^ l.length := by
  induction l with
  | nil => simp [val]
  | cons x l ih => simp only [val, List.length_cons, Nat.pow_succ]; omega

/-- Behind bytes that all say that another one follows. -/
theorem numF_behind (p t : List UInt8) (f : Nat) (h : ∀ c ∈ p, 128 ≤ c.toNat) :
    numF (p.length + f) (p ++ t) = match numF f t with
      | none => none
      | some (n, k) => if p ≠ [] ∧ n = 0 then none else some (val p + 128 ^ p.length * n, p.length + k) := by
  induction p with
  | nil =>
    simp only [List.length_nil, Nat.zero_add, List.nil_append, val, Nat.pow_zero, Nat.one_mul]
    cases numF f t with
    | none => rfl
    | some q => simp
  | cons c p ih =>
    have hc := h c (by simp)
    have hlt := u8_lt c
    have ih' := ih (fun x hx => h x (by simp [hx]))
    rw [List.length_cons, show p.length + 1 + f = (p.length + f) + 1 by omega, List.cons_append, numF, if_neg (by omega), ih']
    cases numF f t with
    | none => rfl
    | some q =>
      obtain ⟨n, k⟩ := q
      simp only
      by_cases hn : n = 0
      · subst hn
        by_cases hp : p = []
        · subst hp; simp [val]
        · simp [hp]
      · have hv : val p + 128 ^ p.length * n ≠ 0 := by
          have : 0 < 128 ^ p.length * n := Nat.mul_pos (Nat.pow_pos (by omega)) (by omega)
          omega
        simp only [hn, and_false, if_false, hv, ne_eq, reduceCtorEq, not_false_eq_true, val, Nat.pow_succ, Nat.mul_add]
        refine congrArg some (Prod.ext ?_ ?_) <;> dsimp only
        · rw [show c.toNat % 128 = c.toNat - 128 by omega, Nat.mul_comm (128 ^ p.length) 128, Nat.mul_assoc]; omega
        · omega

/-- The last byte's ways. -/
theorem dnum_last (p : List UInt8) (c : UInt8) (t : List UInt8) (hp : p.length < 10) (h : ∀ x ∈ p, 128 ≤ x.toNat) (hc : c.toNat < 128) :
    dnum (p ++ c :: t) = if (0 < p.length ∧ c.toNat = 0) ∨ (p.length = 9 ∧ 1 < c.toNat) then none else some (val p + 128 ^ p.length * c.toNat, p.length + 1) := by
  have e : (10 : Nat) = p.length + ((9 - p.length) + 1) := by omega
  unfold dnum
  rw [e, numF_behind p (c :: t) _ h, numF, if_pos hc]
  have hpl : p ≠ [] ↔ 0 < p.length := by cases p <;> simp
  by_cases h9 : p.length = 9 ∧ 1 < c.toNat
  · rw [if_pos (show 9 - p.length = 0 ∧ 1 < c.toNat by omega), if_pos (.inr h9)]
  · rw [if_neg (show ¬ (9 - p.length = 0 ∧ 1 < c.toNat) by omega)]
    simp only [hpl]
    by_cases h0 : 0 < p.length ∧ c.toNat = 0
    · rw [if_pos h0, if_pos (.inl h0)]
    · rw [if_neg h0, if_neg (by omega)]

/-- There is no last byte among the first ten. -/
theorem dnum_no_last (l : List UInt8) (h : ∀ x ∈ l.take 10, 128 ≤ x.toNat) : dnum l = none := by
  by_cases h10 : l.length ≤ 10
  · rw [List.take_of_length_le h10] at h
    exact numF_follow _ _ h
  · have hl : (l.take 10).length = 10 := by simp; omega
    have := numF_behind (l.take 10) (l.drop 10) 0 h
    rw [List.take_append_drop, hl] at this
    exact this

/-! ### Whole numbers -/
def fold (n : Int) : Nat := if n < 0 then (2 * (-n - 1) + 1).toNat else (2 * n).toNat
def unfold (u : Nat) : Int := if u % 2 = 1 then -((u / 2 : Nat) : Int) - 1 else ((u / 2 : Nat) : Int)
theorem unfold_fold (n : Int) : unfold (fold n) = n := by
  unfold unfold fold
  split <;> split <;> omega
theorem fold_unfold (u : Nat) : fold (unfold u) = u := by
  unfold unfold fold
  split <;> split <;> omega
theorem fold_lt {n : Int} (h1 : -9223372036854775808 ≤ n) (h2 : n ≤ 9223372036854775807) : fold n < 18446744073709551616 := by
  unfold fold; split <;> omega
theorem unfold_bd {u : Nat} (h : u < 18446744073709551616) : -9223372036854775808 ≤ unfold u ∧ unfold u ≤ 9223372036854775807 := by
  unfold unfold; split <;> omega

/-! ### Lists of them -/
def nums (l : List Nat) : List UInt8 := l.flatMap enc
def ints (l : List Int) : List UInt8 := l.flatMap fun n => enc (fold n)
def text (s : List UInt8) : List UInt8 := enc s.length ++ s
def texts (l : List (List UInt8)) : List UInt8 := l.flatMap text

/-- The text at a list's beginning: how many bytes stand ahead of it, and how many it has. -/
def dtext (l : List UInt8) : Option (Nat × Nat) := match dnum l with
  | none => none
  | some (n, k) => if n ≤ l.length - k then some (k, n) else none

end Go.Proofs.YtjfanbemihheiaaGreatDoor.Pk

/-
  A writer in memory (layer 1): the block that holds its slice, the row that the slice owns, and what stays as it was when something is put.
-/
namespace Go.Proofs.YtjfanbemihheiaaGreatDoor.Pk
open Go.RowKit

/-- Everything that was there but block b and row r is as it was. -/
structure Kept (b : Nat) (r : Option Nat) (w w' : World) : Prop where
  os : w'.os = w.os
  tape : w'.tape = w.tape
  output : w'.output = w.output
  size : w.heap.size ≤ w'.heap.size
  block : ∀ k, k < w.heap.size → k ≠ b → some k ≠ r → w'.heap[k]? = w.heap[k]?

theorem Kept.refl (b : Nat) (r : Option Nat) (w : World) : Kept b r w w := ⟨rfl, rfl, rfl, Nat.le_refl _, fun _ _ _ _ => rfl⟩

/-- From row r to row r': the same, or one that is made on the way. -/
structure Step (b : Nat) (w : World) (r : Option Nat) (w' : World) (r' : Option Nat) : Prop where
  kept : Kept b r w w'
  row : r' = r ∨ ∃ g, r' = some g ∧ w.heap.size ≤ g

theorem Step.refl (b : Nat) (r : Option Nat) (w : World) : Step b w r w r := ⟨Kept.refl b r w, .inl rfl⟩
theorem Step.trans {b : Nat} {w w1 w2 : World} {r r1 r2 : Option Nat} (h : Step b w r w1 r1) (k : Step b w1 r1 w2 r2) : Step b w r w2 r2 := by
  have hs := h.kept.size
  refine ⟨⟨k.kept.os.trans h.kept.os, k.kept.tape.trans h.kept.tape, k.kept.output.trans h.kept.output, Nat.le_trans hs k.kept.size, fun i hi hb hr => ?_⟩, ?_⟩
  · refine (k.kept.block i (by omega) hb ?_).trans (h.kept.block i hi hb hr)
    rcases h.row with e | ⟨g, e, hg⟩
    · rw [e]; exact hr
    · rw [e]; intro he; simp at he; omega
  · rcases k.row with e | ⟨g, e, hg⟩
    · rw [e]; exact h.row
    · exact .inr ⟨g, e, by omega⟩
theorem Step.alloc (b : Nat) (r : Option Nat) (w : World) (o : Obj) : Step b w r (w.alloc o) r :=
  ⟨⟨rfl, rfl, rfl, by simp, fun k hk _ _ => Below.heap_alloc _ _ _ hk⟩, .inl rfl⟩
theorem Step.below {b B : Nat} {w w' : World} {r r' : Option Nat} (h : Step b w r w' r') (hB : B ≤ w.heap.size) (hb : B ≤ b) (hr : ∀ k, r = some k → B ≤ k) : Below B w w' :=
  ⟨h.kept.os, h.kept.tape, h.kept.output, h.kept.size, fun k hk => h.kept.block k (by omega) (by omega) (fun e => by have := hr k e.symm; omega)⟩

def B8 (c : UInt8) : Value := .int .u8 c.toNat

/-- Block b is a writer that has put the bytes bs; its slice's row is r. -/
def WrAt (w : World) (base b : Nat) (r : Option Nat) (bs : List UInt8) : Prop :=
  ∃ v, w.heap[b]? = some (.cells #[v] 115 (0, 0)) ∧ w.ownsRow base 5 1 v bs.length (bs.map B8) ∧ v.ownBlock = r

theorem WrAt.row_ge {w : World} {base b : Nat} {r : Option Nat} {bs : List UInt8} (h : WrAt w base b r bs) : ∀ k, r = some k → base ≤ k ∧ k < w.heap.size ∧ k ≠ b := by
  obtain ⟨v, hb, hown, rfl⟩ := h
  intro k hk
  have := hown.lt k hk
  refine ⟨this.1, this.2, ?_⟩
  rintro rfl
  rcases hown.2 with ⟨rfl, _⟩ | ⟨g, cap, cur, rfl, _, hg, _⟩
  · simp [Value.ownBlock] at hk
  · simp [Value.ownBlock] at hk
    subst hk
    rw [hb] at hg
    simp at hg
theorem WrAt.lt {w : World} {base b : Nat} {r : Option Nat} {bs : List UInt8} (h : WrAt w base b r bs) : b < w.heap.size := by
  obtain ⟨v, hb, _⟩ := h
  exact lt_of_block hb

/-- Another writer, or whatever changes other blocks alone, leaves it. -/
theorem WrAt.keep {w w' : World} {base b : Nat} {r : Option Nat} {bs : List UInt8} (h : WrAt w base b r bs) (hb : w'.heap[b]? = w.heap[b]?) (hr : ∀ k, r = some k → w'.heap[k]? = w.heap[k]?) : WrAt w' base b r bs := by
  obtain ⟨v, hv, hown, rfl⟩ := h
  refine ⟨v, hb.trans hv, ⟨hown.1, ?_⟩, rfl⟩
  rcases hown.2 with h | ⟨g, cap, cur, rfl, h1, hg, h2⟩
  · exact .inl h
  · exact .inr ⟨g, cap, cur, rfl, h1, (hr g rfl).trans hg, h2⟩
theorem WrAt.step {w w' : World} {base b c : Nat} {r s s' : Option Nat} {bs : List UInt8} (h : WrAt w base b r bs) (k : Step c w s w' s') (hbc : b ≠ c) (hbs : some b ≠ s) (hrc : r ≠ some c) (hrs : r = none ∨ r ≠ s) : WrAt w' base b r bs := by
  refine h.keep (k.kept.block b h.lt hbc hbs) fun i hi => k.kept.block i (h.row_ge i hi).2.1 (fun e => hrc (by rw [hi, e])) (fun e => ?_)
  rcases hrs with hrs | hrs
  · rw [hrs] at hi; cases hi
  · exact hrs (by rw [hi, e])

/-- What one append to the writer's slice comes to. -/
theorem wr_put {w w0 w1 : World} {base b g cap : Nat} {v : Value} {bs new : List UInt8} {n : Nat}
    (hb : w.heap[b]? = some (.cells #[v] 115 (0, 0))) (hown : w.ownsRow base 5 1 v bs.length (bs.map B8))
    (h0 : Step b w v.ownBlock w0 v.ownBlock) (hb0 : w0.heap[b]? = some (.cells #[v] 115 (0, 0)))
    (hown1 : w1.ownsRow base 5 1 (.slice (some ⟨g, 0, none⟩) n cap) n (bs.map B8 ++ new.map B8)) (hn : n = bs.length + new.length)
    (hgrow : w0.grownBy w1 v.ownBlock) (hat : v.ownBlock = some g ∨ g = w0.heap.size) :
    WrAt (w1.setCell ⟨b, 0, none⟩ (.slice (some ⟨g, 0, none⟩) n cap)) base b (some g) (bs ++ new) ∧
    Step b w v.ownBlock (w1.setCell ⟨b, 0, none⟩ (.slice (some ⟨g, 0, none⟩) n cap)) (some g) := by
  have hw : WrAt w base b v.ownBlock bs := ⟨v, hb, hown, rfl⟩
  have hlt := hw.lt
  have hs0 := h0.kept.size
  have hbr : some b ≠ v.ownBlock := fun e => (hw.row_ge b e.symm).2.2 rfl
  have hb1 : w1.heap[b]? = some (.cells #[v] 115 (0, 0)) := (hgrow.block b (by omega) hbr).trans hb0
  have hgb : g ≠ b := by
    rcases hat with e | e
    · exact (hw.row_ge g e).2.2
    · omega
  subst hn
  refine ⟨⟨_, one_setCell hb1, ?_, rfl⟩, ?_⟩
  · rw [List.length_append, List.map_append]
    exact ownsRow_setCell_other hown1 (by simp [Value.ownBlock, hgb]) _
  · refine h0.trans ⟨⟨hgrow.os, hgrow.tape, hgrow.output, by simpa [World.setCell] using hgrow.size, fun k hk hkb hkr => ?_⟩, ?_⟩
    · rw [Below.heap_setCell _ _ _ _ (by simpa using hkb)]
      exact hgrow.block k hk hkr
    · rcases hat with e | e
      · exact .inl e.symm
      · exact .inr ⟨g, rfl, by omega⟩

end Go.Proofs.YtjfanbemihheiaaGreatDoor.Pk

/-
  Package pack's writer: 'putNum' puts a number's bytes behind those that were put.
-/
namespace Go.Proofs.YtjfanbemihheiaaGreatDoor.Pk
open Go.RowKit
set_option linter.unusedVariables false

theorem info8 : (Tryz.prog.info? 5).map (fun i => (i.zero, i.size, i.bytes)) = some (some (.int .u8 0), 1, 1) := by kernel_rfl

theorem or128 (n : Nat) : bits .or .u8 ((n : Int) % 256) 128 = (((UInt8.ofNat (n % 128 + 128)).toNat : Nat) : Int) := by
  rw [u8_toNat_ofNat (by omega), show (n : Int) % 256 = ((n % 256 : Nat) : Int) by omega]
  have := u8_or_nat (n % 256) 128 (by omega) (by omega)
  rw [show (((128 : Nat) : Int)) = 128 from rfl] at this
  rw [this]
  congr 1
  have h2 : n % 128 < 2 ^ 7 := by omega
  have h5 : 128 + n % 128 = 128 ||| n % 128 := Nat.two_pow_add_eq_or_of_lt h2 1
  have h3 : n % 256 / 128 = 0 ∨ n % 256 / 128 = 1 := by omega
  rcases h3 with h3 | h3
  · have h4 : n % 256 = n % 128 := by omega
    rw [h4, Nat.or_comm]
    omega
  · have h6 : n % 256 = 128 ||| n % 128 := by omega
    rw [h6, Nat.or_assoc, Nat.or_comm (n % 128), ← Nat.or_assoc, show 128 ||| 128 = 128 from rfl, ← h5]
    omega
theorem low8 {n : Nat} (h : n < 128) : (n : Int) = (((UInt8.ofNat n).toNat : Nat) : Int) := by
  rw [u8_toNat_ofNat (by omega)]

set_option maxRecDepth 100000 in
set_option maxHeartbeats 1000000 in
theorem putNum_any (base b n : Nat) (r : Option Nat) (bs : List UInt8) (w : World) (hw : WrAt w base b r bs) (hn : n < 18446744073709551616) (hsz : bs.length + (enc n).length ≤ 140737488355328) (hbase : base ≤ w.heap.size) :
    Calls Tryz.prog 63 #[.pointer (some ⟨b, 0, none⟩), .int .u64 n] w fun e w' => e = .returned (.tuple #[]) ∧ ∃ r', WrAt w' base b r' (bs ++ enc n) ∧ Step b w r w' r' := by
  obtain ⟨i0, hi, hz0, hz1, hz2⟩ := info_parts info8
  go_enter Tryz.func63, Tryz.ntmps63
  go_wp2
  go_loopw [1] (fun nv wr => ∃ (m f : Nat) (bs1 : List UInt8) (r1 : Option Nat), nv = .int .u64 m ∧ m < 18446744073709551616 ∧ Hid (m < 128 ^ (f + 1)) ∧ Hid (bs1 ++ encF f m = bs ++ enc n) ∧ Hid (WrAt wr base b r1 bs1) ∧ Hid (Step b w r wr r1)) (fun nv _ => (intOf nv).toNat)
  case atStart => exact ⟨n, 9, bs, r, rfl, hn, by show n < 128 ^ 10; omega, rfl, hw, Step.refl _ _ _⟩
  case round =>
    obtain ⟨m, f, bs1, r1, rfl, hm, HF, HE, HW, HS⟩ := hrel
    have hl1 : bs1.length + 1 ≤ bs.length + (enc n).length := by
      have h1 := congrArg List.length HE.out
      have h2 := (encF_len f m).1
      simp at h1; omega
    obtain ⟨v, hb, hown, hr⟩ := HW.out
    have hbr : some b ≠ v.ownBlock := fun e => (HW.out.row_ge b (by rw [← hr, ← e])).2.2 rfl
    have hlt : b < wr.heap.size := HW.out.lt
    have hsw := HS.out.kept.size
    have hc := cell_of_one hb
    have hfz := free_of_one hb
    by_cases hge : 128 ≤ m
    · obtain ⟨f, rfl⟩ : ∃ f', f = f' + 1 := by
        cases f with
        | zero => have := HF.out; simp at this; omega
        | succ f => exact ⟨f, rfl⟩
      obtain ⟨c, HC⟩ : ∃ c, Hid (c = UInt8.ofNat (m % 128 + 128)) := ⟨_, rfl⟩
      have HF1 : Hid (m / 128 < 128 ^ (f + 1)) := by have := HF.out; rw [Nat.pow_succ] at this; show m / 128 < 128 ^ (f + 1); omega
      have HE1 : Hid ((bs1 ++ [c]) ++ encF f (m / 128) = bs ++ enc n) := by
        show (bs1 ++ [c]) ++ encF f (m / 128) = bs ++ enc n
        rw [← HE.out, encF_big _ _ hge, HC.out]; simp
      have hor : bits .or .u8 ((m : Int) % 256) 128 = (c.toNat : Int) := by rw [HC.out]; exact or128 m
      go_wp2_with (at_builtin; refine wpList_append_lies _ rfl _ _ 65 rfl base 5 i0 (.int .u8 0) 1 1 Tryz.underlying65 hi hz0 hz1 hz2 rfl (by decide) v bs1.length (bs1.map B8) rfl (hown.alloc _) ⟨wr.heap.size, 0, none⟩ 1 1 [B8 c] rfl rfl ?c1 ?c2 (by decide) ?c3 ?c4 ?c5 (wr.heap.size + 1) (by simp) ?_)
      case c1 => exact World.news_of_block (heap_alloc_new wr _)
      case c2 => intro u hu; simp at hu; subst hu; rfl
      case c3 => unfold maxLen; omega
      case c4 => omega
      case c5 => simp; omega
      intro g cap w1 hown1 hgrow hat hgl
      have R := wr_put (new := [c]) hb hown (Step.alloc b _ wr _) ((Below.heap_alloc _ _ _ hlt).trans hb) hown1 rfl (by rw [hr]; exact hgrow) (by rw [hr]; simpa using hat)
      have hb1 : w1.heap[b]? = some (.cells #[v] 115 (0, 0)) := (hgrow.block b (by simp; omega) (by rw [← hr]; exact hbr)).trans ((Below.heap_alloc _ _ _ hlt).trans hb)
      have hc1 := cell_of_one hb1
      have hf1 := free_of_one hb1
      rw [hr] at R
      have HR : Hid _ := R
      clear R hown1 hgrow hat hgl hb1 hown hb hc hfz hor
      go_wp2
      go_roundw
      case rel => exact ⟨m / 128, f, bs1 ++ [c], some g, by go_num, by omega, HF1, HE1, HR.out.1, HS.out.trans HR.out.2⟩
      case measure => simp [intOf]; omega
    · obtain ⟨c, HC⟩ : ∃ c, Hid (c = UInt8.ofNat m) := ⟨_, rfl⟩
      have hlow : (m : Int) = (c.toNat : Int) := by rw [HC.out]; exact low8 (by omega)
      have HE1 : Hid (bs1 ++ [c] = bs ++ enc n) := by
        show bs1 ++ [c] = bs ++ enc n
        rw [← HE.out, encF_small _ _ (by omega), HC.out]
      have hm' : m = c.toNat := by omega
      subst hm'
      clear hlow HC
      go_wp2_with (at_builtin; refine wpList_append_lies _ rfl _ _ 65 rfl base 5 i0 (.int .u8 0) 1 1 Tryz.underlying65 hi hz0 hz1 hz2 rfl (by decide) v bs1.length (bs1.map B8) rfl (hown.alloc _) ⟨wr.heap.size, 0, none⟩ 1 1 [B8 c] rfl rfl ?d1 ?d2 (by decide) ?d3 ?d4 ?d5 (wr.heap.size + 1) (by simp) ?_)
      case d1 => exact World.news_of_block (heap_alloc_new wr _)
      case d2 => intro u hu; simp at hu; subst hu; rfl
      case d3 => unfold maxLen; omega
      case d4 => omega
      case d5 => simp; omega
      intro g cap w1 hown1 hgrow hat hgl
      have R := wr_put (new := [c]) hb hown (Step.alloc b _ wr _) ((Below.heap_alloc _ _ _ hlt).trans hb) hown1 rfl (by rw [hr]; exact hgrow) (by rw [hr]; simpa using hat)
      have hb1 : w1.heap[b]? = some (.cells #[v] 115 (0, 0)) := (hgrow.block b (by simp; omega) (by rw [← hr]; exact hbr)).trans ((Below.heap_alloc _ _ _ hlt).trans hb)
      have hc1 := cell_of_one hb1
      have hf1 := free_of_one hb1
      rw [hr] at R
      have HR : Hid _ := R
      clear R hown1 hgrow hat hgl hb1 hown hb hc hfz
      go_wp2
      go_end0
      exact ⟨rfl, some g, by rw [← HE1.out]; exact HR.out.1, HS.out.trans HR.out.2⟩

end Go.Proofs.YtjfanbemihheiaaGreatDoor.Pk

/-
  Package pack's writer: what New, Num, Int, Text, Bytes and Len do, for every list.
-/
namespace Go.Proofs.YtjfanbemihheiaaGreatDoor.Pk
open Go.RowKit
set_option linter.unusedVariables false

theorem new_any (w : World) (base : Nat) (hb : base ≤ w.heap.size) :
    Calls Tryz.prog 29 #[] w fun e w' => e = .returned (.pointer (some ⟨w.heap.size, 0, none⟩)) ∧ w' = w.alloc (.cells #[.slice none 0 0] 115) := by
  go_enter Tryz.func29, Tryz.ntmps29
  go_wp2
  go_ret
  exact ⟨rfl, rfl⟩
theorem new_wr (w : World) (base : Nat) : WrAt (w.alloc (.cells #[.slice none 0 0] 115)) base w.heap.size none [] :=
  ⟨.slice none 0 0, heap_alloc_new w _, World.ownsRow_nil _ _ _ _, rfl⟩

theorem not_neg {n : Int} (h1 : -9223372036854775808 ≤ n) (h2 : n < 0) : bits .xor .i64 (-1) n = -1 - n := by
  show IntKind.i64.wrap ((BitVec.ofInt 64 (-1) ^^^ BitVec.ofInt 64 n).toNat : Int) = _
  have h3 : BitVec.ofInt 64 (-1) = BitVec.allOnes 64 := by decide
  rw [h3, BitVec.allOnes_xor, BitVec.toNat_not, BitVec.toNat_ofInt]
  simp [IntKind.wrap, IntKind.bits, IntKind.signed]
  omega
theorem ret_int {k : IntKind} {a b : Int} (h : a = b) : Ending.returned (.int k a) = .returned (.int k b) := by rw [h]
theorem fold_neg {n x : Int} (h : n < 0) (hx : x = -1 - n) (h1 : x ≤ 9223372036854775807) : IntKind.u64.wrap (IntKind.u64.wrap (2 * IntKind.u64.wrap x) + 1) = (fold n : Int) := by
  rw [IntWalk.u64_in x ⟨by omega, by omega⟩, IntWalk.u64_in (2 * x) ⟨by omega, by omega⟩, IntWalk.u64_in _ ⟨by omega, by omega⟩]
  unfold fold; rw [if_pos h]; omega
theorem fold_pos {n : Int} (h : 0 ≤ n) : 2 * n = (fold n : Int) := by
  unfold fold; rw [if_neg (by omega)]; omega
theorem fold_any (n : Int) (w : World) (h1 : -9223372036854775808 ≤ n) (h2 : n ≤ 9223372036854775807) :
    Calls Tryz.prog 64 #[.int .i64 n] w fun e w' => e = .returned (.int .u64 (fold n)) ∧ w' = w := by
  by_cases h : n < 0
  · obtain ⟨x, HX⟩ : ∃ x, Hid (x = -1 - n) := ⟨_, rfl⟩
    have HN : Hid (n < 0) := h
    have hx0 : 0 ≤ x := by have := HX.out; omega
    have hx1 : x ≤ 9223372036854775807 := by have := HX.out; omega
    have hnot : bits .xor .i64 (-1) n = x := by rw [HX.out]; exact not_neg h1 h
    go_enter Tryz.func64, Tryz.ntmps64
    go_wp2
    go_ret
    exact ⟨ret_int (fold_neg HN.out HX.out hx1), rfl⟩
  · go_enter Tryz.func64, Tryz.ntmps64
    go_wp2
    go_ret
    exact ⟨ret_int (fold_pos (by omega)), rfl⟩

theorem getD_lt {α : Type} (l : List α) (k : Nat) (d : α) (h : k < l.length) : l.getD k d = l[k] := by simp [h]
theorem flat_len {α : Type} (f : α → List UInt8) (c : Nat) (hf : ∀ x, (f x).length ≤ c) (l : List α) : (l.flatMap f).length ≤ c * l.length := by
  induction l with
  | nil => simp
  | cons x l ih => have := hf x; simp only [List.flatMap_cons, List.length_append, List.length_cons, Nat.mul_add]; omega
theorem nums_len (l : List Nat) : (nums l).length ≤ 10 * l.length := flat_len _ 10 (fun x => (enc_len x).2) l
theorem ints_len (l : List Int) : (ints l).length ≤ 10 * l.length := flat_len _ 10 (fun x => (enc_len _).2) l
theorem nums_snoc (xs : List Nat) (k : Nat) (h : k < xs.length) : nums (xs.take (k + 1)) = nums (xs.take k) ++ enc (xs.getD k 0) := by
  rw [List.take_succ_eq_append_getElem h, getD_lt _ _ _ h]; simp only [nums, List.flatMap_append, List.flatMap_cons, List.flatMap_nil, List.append_nil]
theorem ints_snoc (xs : List Int) (k : Nat) (h : k < xs.length) : ints (xs.take (k + 1)) = ints (xs.take k) ++ enc (fold (xs.getD k 0)) := by
  rw [List.take_succ_eq_append_getElem h, getD_lt _ _ _ h]; simp only [ints, List.flatMap_append, List.flatMap_cons, List.flatMap_nil, List.append_nil]
theorem texts_snoc (xs : List ByteArray) (k : Nat) (h : k < xs.length) : texts ((xs.take (k + 1)).map fun s => s.data.toList) = texts ((xs.take k).map fun s => s.data.toList) ++ text (xs.getD k ByteArray.empty).data.toList := by
  rw [List.take_succ_eq_append_getElem h, getD_lt _ _ _ h]; simp only [texts, List.map_append, List.map_cons, List.map_nil, List.flatMap_append, List.flatMap_cons, List.flatMap_nil, List.append_nil]

set_option maxHeartbeats 1000000 in
theorem wNum_any (base b g off cap : Nat) (r : Option Nat) (bs : List UInt8) (xs : List Nat) (w : World) (hw : WrAt w base b r bs) (hx : ∀ x ∈ xs, x < 18446744073709551616)
    (hcells : ∀ j, j < xs.length → w.cell? ⟨g, off + j, none⟩ = some (.int .u64 (xs.getD j 0))) (hg : g ≠ b) (hgr : some g ≠ r) (hgl : g < w.heap.size)
    (hsz : bs.length + 10 * xs.length ≤ 140737488355328) (hbase : base ≤ w.heap.size) :
    Calls Tryz.prog 30 #[.pointer (some ⟨b, 0, none⟩), .slice (some ⟨g, off, none⟩) xs.length cap] w fun e w' => e = .returned (.tuple #[]) ∧ ∃ r', WrAt w' base b r' (bs ++ nums xs) ∧ Step b w r w' r' := by
  go_enter Tryz.func30, Tryz.ntmps30
  go_wp2
  go_loopw [8] (fun i wr => ∃ (k : Nat) (r1 : Option Nat), k ≤ xs.length ∧ i = .int .i64 k ∧ Hid (WrAt wr base b r1 (bs ++ nums (xs.take k))) ∧ Hid (Step b w r wr r1)) (fun i _ => xs.length - (intOf i).toNat)
  case atStart => exact ⟨0, r, by omega, rfl, by simpa [nums, Hid] using hw, Step.refl _ _ _⟩
  case round =>
    obtain ⟨k, r1, hk, rfl, HW, HS⟩ := hrel
    by_cases hlt : k < xs.length
    · have hc1 : wr.cell? ⟨g, off + k, none⟩ = some (.int .u64 (xs.getD k 0)) := (World.cell?_of_block (HS.out.kept.block g hgl hg hgr)).trans (hcells k hlt)
      have hx1 : xs.getD k 0 < 18446744073709551616 := by rw [getD_lt _ _ _ hlt]; exact hx _ (List.getElem_mem hlt)
      have HN : Hid (nums (xs.take (k + 1)) = nums (xs.take k) ++ enc (xs.getD k 0)) := nums_snoc xs k hlt
      have hlen : (nums (xs.take k)).length ≤ 10 * k := by have := nums_len (xs.take k); simp at this; omega
      have hsw := HS.out.kept.size
      generalize xs.getD k 0 = x at *
      clear hcells
      go_wp2_with (go_at_call 63; refine (putNum_any base b x r1 (bs ++ nums (xs.take k)) _ HW.out hx1 (by have := enc_len x; simp; omega) (by omega)).mono ?_; rintro e w' ⟨rfl, hq⟩)
      obtain ⟨r2, hw2, hs2⟩ := hq
      go_roundw
      case rel => exact ⟨k + 1, r2, by omega, by go_num, by show WrAt _ _ _ _ _; rw [HN.out, ← List.append_assoc]; exact hw2, HS.out.trans hs2⟩
      case measure => simp [intOf]; omega
    · have hk' : k = xs.length := by omega
      subst hk'
      go_wp2
      go_end0
      exact ⟨rfl, r1, by have := HW.out; rwa [List.take_length] at this, HS.out⟩

set_option maxHeartbeats 1000000 in
theorem wInt_any (base b g off cap : Nat) (r : Option Nat) (bs : List UInt8) (xs : List Int) (w : World) (hw : WrAt w base b r bs) (hx : ∀ x ∈ xs, -9223372036854775808 ≤ x ∧ x ≤ 9223372036854775807)
    (hcells : ∀ j, j < xs.length → w.cell? ⟨g, off + j, none⟩ = some (.int .i64 (xs.getD j 0))) (hg : g ≠ b) (hgr : some g ≠ r) (hgl : g < w.heap.size)
    (hsz : bs.length + 10 * xs.length ≤ 140737488355328) (hbase : base ≤ w.heap.size) :
    Calls Tryz.prog 31 #[.pointer (some ⟨b, 0, none⟩), .slice (some ⟨g, off, none⟩) xs.length cap] w fun e w' => e = .returned (.tuple #[]) ∧ ∃ r', WrAt w' base b r' (bs ++ ints xs) ∧ Step b w r w' r' := by
  go_enter Tryz.func31, Tryz.ntmps31
  go_wp2
  go_loopw [8] (fun i wr => ∃ (k : Nat) (r1 : Option Nat), k ≤ xs.length ∧ i = .int .i64 k ∧ Hid (WrAt wr base b r1 (bs ++ ints (xs.take k))) ∧ Hid (Step b w r wr r1)) (fun i _ => xs.length - (intOf i).toNat)
  case atStart => exact ⟨0, r, by omega, rfl, by simpa [ints, Hid] using hw, Step.refl _ _ _⟩
  case round =>
    obtain ⟨k, r1, hk, rfl, HW, HS⟩ := hrel
    by_cases hlt : k < xs.length
    · have hc1 : wr.cell? ⟨g, off + k, none⟩ = some (.int .i64 (xs.getD k 0)) := (World.cell?_of_block (HS.out.kept.block g hgl hg hgr)).trans (hcells k hlt)
      have hx1 : -9223372036854775808 ≤ xs.getD k 0 ∧ xs.getD k 0 ≤ 9223372036854775807 := by rw [getD_lt _ _ _ hlt]; exact hx _ (List.getElem_mem hlt)
      have HN : Hid (ints (xs.take (k + 1)) = ints (xs.take k) ++ enc (fold (xs.getD k 0))) := ints_snoc xs k hlt
      have hlen : (ints (xs.take k)).length ≤ 10 * k := by have := ints_len (xs.take k); simp at this; omega
      have hsw := HS.out.kept.size
      generalize xs.getD k 0 = x at *
      clear hcells
      have hx2 := fold_lt hx1.1 hx1.2
      go_wp2_with (first | (go_at_call 64; refine (fold_any x _ hx1.1 hx1.2).mono ?_; rintro e w' ⟨rfl, rfl⟩) | (go_at_call 63; refine (putNum_any base b (fold x) r1 (bs ++ ints (xs.take k)) _ HW.out hx2 (by have := enc_len (fold x); simp; omega) (by omega)).mono ?_; rintro e w' ⟨rfl, hq⟩))
      obtain ⟨r2, hw2, hs2⟩ := hq
      go_roundw
      case rel => exact ⟨k + 1, r2, by omega, by go_num, by show WrAt _ _ _ _ _; rw [HN.out, ← List.append_assoc]; exact hw2, HS.out.trans hs2⟩
      case measure => simp [intOf]; omega
    · have hk' : k = xs.length := by omega
      subst hk'
      go_wp2
      go_end0
      exact ⟨rfl, r1, by have := HW.out; rwa [List.take_length] at this, HS.out⟩

/-! ### A string's bytes behind an owned row: where the new slice lies -/
theorem run_append_str_at {P : Program} (w : World) (base : Nat) (t u ty e : TypeId) (i : TypeInfo) (ht : P.underlying t = some (.slice e)) (hu : P.underlying u = some .string) (hi : P.info? e = some i) (hz : i.zero = some (.int .u8 0))
    (hsize : i.size = 1) (hby : i.bytes = 1) (v : Value) (n : Nat) (xs : List Value) (hown : w.ownsRow base e 1 v n xs) (s : ByteArray)
    (h63 : n + s.size ≤ maxLen) (hbytes : n + s.size ≤ 140737488355328) (hbase : base ≤ w.heap.size) :
    ∃ v' w', (Builtin.append_ #[t, u] ty #[v, .string s]).run P w = .ok v' w' ∧ w'.ownsRow base e 1 v' (n + s.size) (xs ++ Lib.strCells s) ∧ w.grownBy w' v.ownBlock ∧
      (v'.ownBlock = v.ownBlock ∨ v'.ownBlock = some w.heap.size) := by
  obtain ⟨v', w', hr, h2, h3, h4⟩ := Lib.run_append_own_string (P := P) w base t u ty e i ht hu hi hz hsize hby v n xs hown s h63 hbytes hbase
  refine ⟨v', w', hr, h2, h3, ?_⟩
  unfold maxLen at h63
  rcases hown.2 with ⟨rfl, rfl⟩ | ⟨g, cap, cur, rfl, hbg, hg, hnc, hcm, hcs, htake⟩
  · by_cases hm : s.size = 0
    · rw [h4.2 ⟨rfl, hm⟩]; exact .inl rfl
    · have hq := run_append_nil_string (P := P) w t u ty e i (.int .u8 0) ht hu hi hz s (by omega) (by omega) (by rw [hby]; omega)
      rw [hr] at hq
      injection hq with hq _
      rw [hq]; exact .inr rfl
  · by_cases hroom : n + s.size ≤ cap
    · have hcs' : cur.size = cap := by simpa using hcs
      have hq := Lib.run_append_room_string (P := P) w t u ty e i ht hu hi hsize g n cap cur hg s hroom (by omega)
      rw [hr] at hq
      injection hq with hq _
      rw [hq]; exact .inl rfl
    · have hxl : xs.length = n := by simpa using hown.1
      have hq := Lib.run_append_grow_string (P := P) w t u ty e i (.int .u8 0) ht hu hi hz ⟨g, 0, none⟩ n cap xs (by rw [hsize]; simpa using hxl) (hown.cells (g := g) rfl) s (by omega) (by omega) (by rw [hby]; exact growslice_fits (by omega) (by omega))
      rw [hr] at hq
      injection hq with hq _
      rw [hq]; exact .inr rfl

theorem wpList_append_str_at {P : Program} (w : World) {ops : Array Oper} {rest : List Oper} {o : Oper} {a : Act} {Q : Exit → Act → World → Prop} (hgd : o.guard = none) (sl x : Operand) (t u : TypeId)
    (ho : o.op = .call { callee := .builtin .append, args := #[sl, x], argTypes := #[t, u] })
    (base : Nat) (e : TypeId) (i : TypeInfo) (ht : P.underlying t = some (.slice e)) (hu : P.underlying u = some .string) (hi : P.info? e = some i) (hz : i.zero = some (.int .u8 0))
    (hsize : i.size = 1) (hby : i.bytes = 1) (v : Value) (n : Nat) (xs : List Value) (hs : a.eval sl = v) (hown : w.ownsRow base e 1 v n xs) (s : ByteArray) (hx : a.eval x = .string s)
    (h63 : n + s.size ≤ maxLen) (hbytes : n + s.size ≤ 140737488355328) (hbase : base ≤ w.heap.size)
    (h : ∀ v' w', w'.ownsRow base e 1 v' (n + s.size) (xs ++ Lib.strCells s) → w.grownBy w' v.ownBlock → (v'.ownBlock = v.ownBlock ∨ v'.ownBlock = some w.heap.size) → wpList P ops Q rest (a.put o.dst v') w') : wpList P ops Q (o :: rest) a w := by
  refine wpList_plain hgd fun K hK => ?_
  obtain ⟨v', w', hr, h2, h3, h4⟩ := run_append_str_at (P := P) w base t u o.type e i ht hu hi hz hsize hby v n xs hown s h63 hbytes hbase
  unfold Oper.wp execOp
  simp only [ho, resolve, invoke, builtin, Sem.run_bind, Sem.run_pure, Result.andThen_ok, List.map_toArray, List.map_cons, List.map_nil, hs, hx, hr]
  exact hK _ _ (h v' w' h2 h3 h4)

/-- What the append of a text to the writer's slice comes to. -/
theorem wr_put_text {w w1 : World} {base b : Nat} {v v' : Value} {bs : List UInt8} {s : ByteArray}
    (hb : w.heap[b]? = some (.cells #[v] 115 (0, 0))) (hown : w.ownsRow base 5 1 v bs.length (bs.map B8))
    (hown1 : w1.ownsRow base 5 1 v' (bs.length + s.size) (bs.map B8 ++ Lib.strCells s))
    (hgrow : w.grownBy w1 v.ownBlock) (hat : v'.ownBlock = v.ownBlock ∨ v'.ownBlock = some w.heap.size) :
    WrAt (w1.setCell ⟨b, 0, none⟩ v') base b v'.ownBlock (bs ++ s.data.toList) ∧ Step b w v.ownBlock (w1.setCell ⟨b, 0, none⟩ v') v'.ownBlock := by
  have hw : WrAt w base b v.ownBlock bs := ⟨v, hb, hown, rfl⟩
  have hlt := hw.lt
  have hbr : some b ≠ v.ownBlock := fun e => (hw.row_ge b e.symm).2.2 rfl
  have hb1 : w1.heap[b]? = some (.cells #[v] 115 (0, 0)) := (hgrow.block b (by omega) hbr).trans hb
  have hgb : v'.ownBlock ≠ some b := by
    rcases hat with e | e
    · rw [e]; exact fun h => hbr h.symm
    · rw [e]; intro h; simp at h; omega
  refine ⟨⟨_, one_setCell hb1, ?_, rfl⟩, ⟨⟨hgrow.os, hgrow.tape, hgrow.output, by simpa [World.setCell] using hgrow.size, fun k hk hkb hkr => ?_⟩, ?_⟩⟩
  · rw [List.length_append, List.map_append, Array.length_toList]
    exact ownsRow_setCell_other hown1 hgb _
  · rw [Below.heap_setCell _ _ _ _ (by simpa using hkb)]
    exact hgrow.block k hk hkr
  · rcases hat with e | e
    · exact .inl e
    · exact .inr ⟨w.heap.size, e, Nat.le_refl _⟩


end Go.Proofs.YtjfanbemihheiaaGreatDoor.Pk

/-
  Package pack's inner functions 'spare', 'above' and 'number': what they answer, for every text.
-/
namespace Go.Proofs.YtjfanbemihheiaaGreatDoor.Pk
open Go.RowKit
set_option linter.unusedVariables false

theorem ret_bool {a b : Bool} (h : a = b) : Ending.returned (.bool a) = .returned (.bool b) := by rw [h]

theorem spare_any (i : Nat) (c : UInt8) (w : World) (hi : i < 10) :
    Calls Tryz.prog 133 #[.int .i64 i, .int .u8 c.toNat] w fun e w' => e = .returned (.bool (decide (0 < i ∧ c.toNat = 0))) ∧ w' = w := by
  go_enter Tryz.func133, Tryz.ntmps133
  go_wp2
  · have h : 0 < i := by assumption
    go_ret
    exact ⟨ret_bool (by rw [Bool.eq_iff_iff]; simp [h]), rfl⟩
  · have h : ¬ 0 < i := by assumption
    go_ret
    exact ⟨ret_bool (by simp [h]), rfl⟩
theorem above_any (i : Nat) (c : UInt8) (w : World) (hi : i < 10) :
    Calls Tryz.prog 134 #[.int .i64 i, .int .u8 c.toNat] w fun e w' => e = .returned (.bool (decide (i = 9 ∧ 1 < c.toNat))) ∧ w' = w := by
  by_cases h : i = 9
  · subst h
    go_enter Tryz.func134, Tryz.ntmps134
    go_wp2
    go_ret
    exact ⟨ret_bool (by rw [Bool.eq_iff_iff]; simp; omega), rfl⟩
  · have h9 : ((i : Int) == 9) = false := by rw [beq_eq_false_iff_ne]; omega
    go_enter Tryz.func134, Tryz.ntmps134
    go_wp2
    go_ret
    exact ⟨ret_bool (by simp [h]), rfl⟩

theorem mask127 (c : UInt8) : bits .andNot .u8 (c.toNat : Int) 128 = ((c.toNat % 128 : Nat) : Int) := by
  have := u8_andNot_nat c.toNat 128 (u8_lt _) (by omega)
  rw [show (((128 : Nat) : Int)) = 128 from rfl] at this
  rw [this]
  congr 1
  exact Nat.and_two_pow_sub_one_eq_mod _ 7
theorem pow7 (k : Nat) : 2 ^ (7 * k) = 128 ^ k := by rw [Nat.pow_mul]
theorem shl7 {c k : Nat} (hc : c < 256) (hk : k < 10) (h9 : k = 9 → c % 128 ≤ 1) : IntKind.u64.wrap ((c : Int) % 128 * 2 ^ (7 * k)) = ((128 ^ k * (c % 128) : Nat) : Int) := by
  have e : ((c : Int) % 128 * 2 ^ (7 * k)) = ((128 ^ k * (c % 128) : Nat) : Int) := by
    rw [← pow7]; push_cast; rw [Int.mul_comm]
  rw [e]
  refine IntWalk.u64_in _ ⟨by omega, ?_⟩
  have h2 : 128 ^ k * (c % 128) ≤ 18446744073709551615 := by
    by_cases h : k = 9
    · subst h
      have := h9 rfl
      omega
    · have h3 : (128 : Nat) ^ k ≤ 128 ^ 8 := Nat.pow_le_pow_right (by omega) (by omega)
      have h4 : 128 ^ k * (c % 128) ≤ 128 ^ 8 * 127 := Nat.mul_le_mul h3 (by omega)
      omega
  omega
theorem or_sum {m k c : Nat} (hm : m < 128 ^ k) (hb : 128 ^ k * (c % 128) < 18446744073709551616) (hk : k < 10) : bits .or .u64 (m : Int) ((128 ^ k * (c % 128) : Nat) : Int) = ((m + 128 ^ k * (c % 128) : Nat) : Int) := by
  have h3 : (128 : Nat) ^ k ≤ 128 ^ 9 := Nat.pow_le_pow_right (by omega) (by omega)
  rw [u64_or_nat _ _ (by omega) hb]
  congr 1
  rw [← pow7] at hm ⊢
  rw [Nat.or_comm, ← Nat.two_pow_add_eq_or_of_lt hm, Nat.add_comm]

theorem take_snoc (s : ByteArray) (k : Nat) (h : k < s.size) : s.data.toList.take (k + 1) = s.data.toList.take k ++ [s[k]] := by
  rw [List.take_succ_eq_append_getElem (by simpa using h)]; rfl
theorem take_len (s : ByteArray) (k : Nat) (h : k ≤ s.size) : (s.data.toList.take k).length = k := by
  rw [List.length_take, Array.length_toList]; exact Nat.min_eq_left h
theorem split_at (s : ByteArray) (k : Nat) (h : k < s.size) : s.data.toList = s.data.toList.take k ++ s[k] :: s.data.toList.drop (k + 1) := by
  have h' : k < s.data.toList.length := by simpa using h
  conv => lhs; rw [← List.take_append_drop k s.data.toList]
  rw [List.drop_eq_getElem_cons h']; rfl
/-- What the number comes to where byte k is the last. -/
theorem num_last (s : ByteArray) (k : Nat) (h : k < s.size) (hk : k < 10) (hp : ∀ x ∈ s.data.toList.take k, 128 ≤ x.toNat) (hc : s[k].toNat < 128) :
    num s.data.toList = if (0 < k ∧ s[k].toNat = 0) ∨ (k = 9 ∧ 1 < s[k].toNat) then (0, 0) else (val (s.data.toList.take k) + 128 ^ k * s[k].toNat, k + 1) := by
  have hl := take_len s k (by omega)
  have := dnum_last (s.data.toList.take k) s[k] (s.data.toList.drop (k + 1)) (by omega) hp hc
  rw [← split_at s k h, hl] at this
  rw [num, this]
  split <;> rfl
theorem num_no_last (s : ByteArray) (k : Nat) (h : k = s.size ∨ k = 10) (hp : ∀ x ∈ s.data.toList.take k, 128 ≤ x.toNat) : num s.data.toList = (0, 0) := by
  rw [num, dnum_no_last]; rfl
  rcases h with h | h
  · subst h
    rw [List.take_of_length_le (by simp)] at hp
    exact fun x hx => hp x (List.mem_of_mem_take hx)
  · subst h; exact hp

theorem ret_two {a b : Int} {p : Nat × Nat} (h : a = p.1) (h' : b = p.2) : Ending.returned (.tuple #[.int .u64 a, .int .i64 b]) = .returned (.tuple #[.int .u64 p.1, .int .i64 p.2]) := by rw [h, h']
theorem or_shl {m c k : Nat} (hm : m < 128 ^ k) (hc : c < 256) (hk : k < 10) (h9 : k = 9 → c % 128 ≤ 1) :
    bits .or .u64 (m : Int) (IntKind.u64.wrap ((c : Int) % 128 * 2 ^ (7 * k))) = ((m + 128 ^ k * (c % 128) : Nat) : Int) := by
  rw [shl7 hc hk h9]
  refine or_sum hm ?_ hk
  by_cases h : k = 9
  · subst h
    have := h9 rfl
    omega
  · have h3 : (128 : Nat) ^ k ≤ 128 ^ 8 := Nat.pow_le_pow_right (by omega) (by omega)
    have h4 : 128 ^ k * (c % 128) ≤ 128 ^ 8 * 127 := Nat.mul_le_mul h3 (by omega)
    omega

set_option maxRecDepth 100000 in
set_option maxHeartbeats 1000000 in
theorem number_any (s : ByteArray) (w : World) (hs : s.size ≤ maxLen) :
    Calls Tryz.prog 119 #[.string s] w fun e w' => e = .returned (.tuple #[.int .u64 (num s.data.toList).1, .int .i64 (num s.data.toList).2]) ∧ w' = w := by
  rcases (show s.size ≤ 10 ∨ 10 < s.size by omega) with h10 | h10
  all_goals
    go_enter Tryz.func119, Tryz.ntmps119
    go_wp2
    go_loop [4, 10] (fun n i => ∃ (k : Nat) (m : Int), k ≤ 10 ∧ k ≤ s.size ∧ i = .int .i64 k ∧ n = .int .u64 m ∧ Hid (k < 10 → m = ((val (s.data.toList.take k) : Nat) : Int)) ∧ Hid (∀ x ∈ s.data.toList.take k, 128 ≤ x.toNat)) (fun _ i => 10 - (intOf i).toNat)
    case atStart => exact ⟨0, 0, by omega, by omega, rfl, rfl, fun _ => rfl, fun x hx => by simp at hx⟩
    case round =>
      obtain ⟨k, m, hk, hk2, rfl, rfl, HM, HP⟩ := hrel
      by_cases hlt : k < s.size ∧ k < 10
      · obtain ⟨hlt, hk10⟩ := hlt
        have hmask : bits .andNot .u8 (s[k].toNat : Int) 128 = ((s[k].toNat % 128 : Nat) : Int) := mask127 _
        have hv : val (s.data.toList.take k) < 128 ^ k := by have := val_lt (s.data.toList.take k); rwa [take_len s k (by omega)] at this
        have hcl := u8_lt s[k]
        have hm := HM.out hk10
        subst hm
        clear HM
        by_cases hc : s[k].toNat < 128
        · have HL : Hid (num s.data.toList = if (0 < k ∧ s[k].toNat = 0) ∨ (k = 9 ∧ 1 < s[k].toNat) then (0, 0) else (val (s.data.toList.take k) + 128 ^ k * s[k].toNat, k + 1)) := num_last s k hlt hk10 HP.out hc
          generalize val (s.data.toList.take k) = m at *
          by_cases hq : (0 < k ∧ s[k].toNat = 0) ∨ (k = 9 ∧ 1 < s[k].toNat)
          · have HV : Hid (num s.data.toList = (0, 0)) := by have := HL.out; rwa [if_pos hq] at this
            go_wp2_with (first | (go_at_call 133; refine (spare_any _ _ _ ?_).mono ?_; (· omega); rintro e w' ⟨rfl, rfl⟩) | (go_at_call 134; refine (above_any _ _ _ ?_).mono ?_; (· omega); rintro e w' ⟨rfl, rfl⟩))
            all_goals first
              | (exfalso; go_light; simp_all; done)
              | (go_ret2; exact ⟨ret_two (by rw [HV.out]; rfl) (by rw [HV.out]; rfl), rfl⟩)
          · have HV : Hid (num s.data.toList = (m + 128 ^ k * s[k].toNat, k + 1)) := by have := HL.out; rwa [if_neg hq] at this
            have HO : Hid (bits .or .u64 (m : Int) (IntKind.u64.wrap ((s[k].toNat : Int) % 128 * 2 ^ (7 * k))) = ((m + 128 ^ k * (s[k].toNat % 128) : Nat) : Int)) := or_shl hv hcl hk10 (by omega)
            have hmod : s[k].toNat % 128 = s[k].toNat := by omega
            have HM : Hid (s[k].toNat % 128 = s[k].toNat) := hmod
            clear hmod HL
            go_wp2_with (first | (go_at_call 133; refine (spare_any _ _ _ ?_).mono ?_; (· omega); rintro e w' ⟨rfl, rfl⟩) | (go_at_call 134; refine (above_any _ _ _ ?_).mono ?_; (· omega); rintro e w' ⟨rfl, rfl⟩))
            all_goals first
              | (exfalso; go_light; simp_all; done)
              | (go_ret2; exact ⟨ret_two (by rw [HV.out, HO.out, HM.out]) (by rw [HV.out]; simp), rfl⟩)
        · have HS : Hid (∀ x ∈ s.data.toList.take (k + 1), 128 ≤ x.toNat) := by
            show ∀ x ∈ s.data.toList.take (k + 1), 128 ≤ x.toNat
            rw [take_snoc s k hlt]
            intro x hx
            rcases List.mem_append.1 hx with hx | hx
            · exact HP.out x hx
            · simp at hx; subst hx; omega
          have HO : Hid (k + 1 < 10 → bits .or .u64 ((val (s.data.toList.take k) : Nat) : Int) (IntKind.u64.wrap ((s[k].toNat : Int) % 128 * 2 ^ (7 * k))) = ((val (s.data.toList.take (k + 1)) : Nat) : Int)) := by
            intro h
            rw [or_shl hv hcl hk10 (by omega), take_snoc s k hlt, val_snoc, take_len s k (by omega)]
          go_wp2
          go_round
          case rel => exact ⟨k + 1, _, by omega, by omega, by go_num, rfl, HO, HS⟩
          case measure => simp [intOf]; omega
      · have HV : Hid (num s.data.toList = (0, 0)) := num_no_last s k (by omega) HP.out
        go_wp2
        go_ret2
        exact ⟨ret_two (by rw [HV.out]; rfl) (by rw [HV.out]; rfl), rfl⟩

end Go.Proofs.YtjfanbemihheiaaGreatDoor.Pk

/-
  Package pack: what Bytes, Len, Nums, Ints and Texts answer, and a reader's Read, Left, Done, Num and Int.
-/
namespace Go.Proofs.YtjfanbemihheiaaGreatDoor.Pk
open Go.RowKit
set_option linter.unusedVariables false

/-- What an owned row of bytes reads as, as a string. -/
theorem own_string {w : World} {base : Nat} {v : Value} {bs : List UInt8} (h : w.ownsRow base 5 1 v bs.length (bs.map B8)) :
    (convert 65 9 v).run Tryz.prog w = .ok (.string ⟨bs.toArray⟩) w := by
  rcases h.2 with ⟨rfl, hn⟩ | ⟨g, cap, cur, rfl, _, hg, _, _, _, htake⟩
  · have : bs = [] := List.eq_nil_of_length_eq_zero hn
    subst this
    rw [run_convert_bytes_string w 65 9 5 none 0 0 Tryz.underlying65 Tryz.underlying5 Tryz.underlying9]
    simp [Conv.bytesToString]
    rfl
  · refine run_convert_bytes_back w 65 9 5 ⟨g, 0, none⟩ cap bs Tryz.underlying65 Tryz.underlying5 Tryz.underlying9 fun j hj => ?_
    have := h.cells (g := g) rfl j (B8 bs[j]) (by simp [hj])
    exact this

theorem own_len {w : World} {base : Nat} {v : Value} {bs : List UInt8} (h : w.ownsRow base 5 1 v bs.length (bs.map B8)) :
    ∃ ao cap, v = .slice ao bs.length cap := by
  rcases h.2 with ⟨rfl, hn⟩ | ⟨g, cap, cur, rfl, _⟩
  · exact ⟨none, 0, by rw [hn]⟩
  · exact ⟨_, cap, rfl⟩

theorem wBytes_any (base b : Nat) (r : Option Nat) (bs : List UInt8) (w : World) (hw : WrAt w base b r bs) :
    Calls Tryz.prog 32 #[.pointer (some ⟨b, 0, none⟩)] w fun e w' => e = .returned (.string ⟨bs.toArray⟩) ∧ w' = w := by
  obtain ⟨v, hb, hown, _⟩ := hw
  have hc := cell_of_one hb
  have hs := own_string hown
  go_enter Tryz.func32, Tryz.ntmps32
  go_wp2
  go_ret
  exact ⟨rfl, rfl⟩

/-! ### Readers -/
/-- Block b is a reader that has the bytes s left. -/
def RdAt (w : World) (b : Nat) (s : ByteArray) : Prop := w.heap[b]? = some (.cells #[.string s] 122 (0, 0))

theorem read_any (s : ByteArray) (w : World) :
    Calls Tryz.prog 39 #[.string s] w fun e w' => e = .returned (.pointer (some ⟨w.heap.size, 0, none⟩)) ∧ w' = w.alloc (.cells #[.string s] 122) := by
  go_enter Tryz.func39, Tryz.ntmps39
  go_wp2
  go_ret
  exact ⟨rfl, rfl⟩
theorem read_at (w : World) (s : ByteArray) : RdAt (w.alloc (.cells #[.string s] 122)) w.heap.size s := heap_alloc_new w _

theorem empty_iff (s : ByteArray) : s.toList.isEmpty = decide (s.size = 0) := by
  rw [Lib.toList_data, Lib.size_eq]
  cases s.data.toList <;> simp
theorem done_any (b : Nat) (s : ByteArray) (w : World) (hr : RdAt w b s) :
    Calls Tryz.prog 43 #[.pointer (some ⟨b, 0, none⟩)] w fun e w' => e = .returned (.bool (decide (s.size = 0))) ∧ w' = w := by
  have hc := cell_of_one hr
  go_enter Tryz.func43, Tryz.ntmps43
  go_wp2
  go_ret
  exact ⟨ret_bool (empty_iff s), rfl⟩

theorem rNum_none (b : Nat) (s : ByteArray) (w : World) (hr : RdAt w b s) (hs : s.size ≤ maxLen) (hd : dnum s.data.toList = none) :
    Calls Tryz.prog 91 #[.pointer (some ⟨b, 0, none⟩)] w fun e w' => e = .returned (.tuple #[.int .u64 0, .int .i64 1]) ∧ w' = w := by
  have hc := cell_of_one hr
  have HN : Hid (num s.data.toList = (0, 0)) := num_none hd
  go_enter Tryz.func91, Tryz.ntmps91
  go_wp2_with fail
  refine (number_any s _ hs).mono ?_
  rintro e w' ⟨rfl, rfl⟩
  rw [HN.out]
  go_wp2
  go_ret2
  exact ⟨rfl, rfl⟩
theorem rNum_some (b : Nat) (s : ByteArray) (w : World) (hr : RdAt w b s) (hs : s.size ≤ maxLen) (n k : Nat) (hd : dnum s.data.toList = some (n, k)) :
    Calls Tryz.prog 91 #[.pointer (some ⟨b, 0, none⟩)] w fun e w' => e = .returned (.tuple #[.int .u64 n, .int .i64 0]) ∧ w' = w.setCell ⟨b, 0, none⟩ (.string (s.extract k s.size)) := by
  have hc := cell_of_one hr
  have hf := free_of_one hr
  have HN : Hid (num s.data.toList = (n, k)) := num_some hd
  have hp := dnum_some hd
  have hl := enc_len n
  have hk1 : 1 ≤ k := by omega
  have hk2 : k ≤ s.size := by have := hp.2.2.2; simpa using this
  clear hp hl hd
  go_enter Tryz.func91, Tryz.ntmps91
  go_wp2_with fail
  refine (number_any s _ hs).mono ?_
  rintro e w' ⟨rfl, rfl⟩
  rw [HN.out]
  go_wp2
  go_ret2
  exact ⟨rfl, rfl⟩

theorem unfold_odd {n : Nat} (h : n % 2 = 1) (hn : n < 18446744073709551616) : bits .xor .i64 (-1) ((n : Int) / 2) = unfold n := by
  rw [show (n : Int) / 2 = ((n / 2 : Nat) : Int) by omega, i64_not _ (by omega)]
  unfold unfold; rw [if_pos h]; omega
theorem unfold_any (n : Nat) (w : World) (hn : n < 18446744073709551616) :
    Calls Tryz.prog 92 #[.int .u64 n] w fun e w' => e = .returned (.int .i64 (unfold n)) ∧ w' = w := by
  by_cases h : n % 2 = 1
  · have hb : ((n : Int) % 2 == 1) = true := by rw [beq_iff_eq]; omega
    have HO := unfold_odd h hn
    have HO : Hid _ := HO
    clear h
    go_enter Tryz.func92, Tryz.ntmps92
    go_wp2
    go_ret
    exact ⟨rfl, rfl⟩
  · have hb : ((n : Int) % 2 == 1) = false := by rw [beq_eq_false_iff_ne]; omega
    have HO : Hid ((n : Int) / 2 = unfold n) := by show _ = _; unfold unfold; rw [if_neg h]; omega
    clear h
    go_enter Tryz.func92, Tryz.ntmps92
    go_wp2
    go_ret
    exact ⟨ret_int HO.out, rfl⟩

theorem rInt_none (b : Nat) (s : ByteArray) (w : World) (hr : RdAt w b s) (hs : s.size ≤ maxLen) (hd : dnum s.data.toList = none) :
    Calls Tryz.prog 69 #[.pointer (some ⟨b, 0, none⟩)] w fun e w' => e = .returned (.tuple #[.int .i64 0, .int .i64 1]) ∧ w' = w := by
  go_enter Tryz.func69, Tryz.ntmps69
  go_wp2_with (go_at_call 91; refine (rNum_none b s _ hr hs hd).mono ?_; rintro e w' ⟨rfl, rfl⟩)
  go_ret2
  exact ⟨rfl, rfl⟩
theorem rInt_some (b : Nat) (s : ByteArray) (w : World) (hr : RdAt w b s) (hs : s.size ≤ maxLen) (n k : Nat) (hd : dnum s.data.toList = some (n, k)) :
    Calls Tryz.prog 69 #[.pointer (some ⟨b, 0, none⟩)] w fun e w' => e = .returned (.tuple #[.int .i64 (unfold n), .int .i64 0]) ∧ w' = w.setCell ⟨b, 0, none⟩ (.string (s.extract k s.size)) := by
  have hn := (dnum_some hd).1
  go_enter Tryz.func69, Tryz.ntmps69
  go_wp2_with (first | (go_at_call 91; refine (rNum_some b s _ hr hs n k hd).mono ?_; rintro e w' ⟨rfl, rfl⟩) | (go_at_call 92; refine (unfold_any n _ hn).mono ?_; rintro e w' ⟨rfl, rfl⟩))
  go_ret2
  exact ⟨rfl, rfl⟩

/-! ### The three that make a text of a list -/
end Go.Proofs.YtjfanbemihheiaaGreatDoor.Pk

/-
  Package pack's reader, as the statements use it: what it takes from bytes that begin with a number's, a whole number's or a text's, and that it stays where they don't.
-/
namespace Go.Proofs.YtjfanbemihheiaaGreatDoor.Pk
open Go.RowKit
set_option linter.unusedVariables false

theorem RdAt.lt {w : World} {b : Nat} {s : ByteArray} (h : RdAt w b s) : b < w.heap.size := lt_of_block h
theorem RdAt.alloc {w : World} {b : Nat} {s : ByteArray} (h : RdAt w b s) (o : Obj) : RdAt (w.alloc o) b s := (Below.heap_alloc _ _ _ h.lt).trans h
theorem RdAt.below {w w' : World} {b : Nat} {s : ByteArray} (h : RdAt w b s) {B : Nat} (hb : Below B w w') (hB : b < B) : RdAt w' b s := (hb.block b hB).trans h
theorem WrAt.alloc {w : World} {base b : Nat} {r : Option Nat} {bs : List UInt8} (h : WrAt w base b r bs) (o : Obj) : WrAt (w.alloc o) base b r bs :=
  h.keep (Below.heap_alloc _ _ _ h.lt) fun k hk => Below.heap_alloc _ _ _ (h.row_ge k hk).2.1

theorem step_set {w w1 : World} {b : Nat} (h : Below w.heap.size w w1) (v : Value) : Step b w none (w1.setCell ⟨b, 0, none⟩ v) none :=
  ⟨⟨h.os, h.tape, h.output, by simpa [World.setCell] using h.size, fun k hk hkb _ => by rw [Below.heap_setCell _ _ _ _ (by simpa using hkb)]; exact h.block k hk⟩, .inl rfl⟩

theorem rest_of {s : ByteArray} {p r : List UInt8} (h : s.data.toList = p ++ r) : (s.extract p.length s.size).data.toList = r := by
  rw [Lib.extract_data, Lib.size_eq, h, List.drop_left, List.take_of_length_le]
  simp
theorem mid_of {s : ByteArray} {p q r : List UInt8} (h : s.data.toList = p ++ (q ++ r)) : s.extract p.length (p.length + q.length) = ⟨q.toArray⟩ := by
  rw [Lib.extract_eq, h, List.drop_left, Nat.add_sub_cancel_left, List.take_left]
theorem rest2_of {s : ByteArray} {p q r : List UInt8} (h : s.data.toList = p ++ (q ++ r)) : (s.extract (p.length + q.length) s.size).data.toList = r := by
  rw [← List.length_append]
  exact rest_of (by rw [h, List.append_assoc])

theorem rNum_read (b n : Nat) (rest : List UInt8) (s : ByteArray) (w : World) (hr : RdAt w b s) (hs : s.size ≤ maxLen) (hn : n < 18446744073709551616) (hl : s.data.toList = enc n ++ rest) :
    Calls Tryz.prog 91 #[.pointer (some ⟨b, 0, none⟩)] w fun e w' => e = .returned (.tuple #[.int .u64 n, .int .i64 0]) ∧ ∃ s', RdAt w' b s' ∧ s'.data.toList = rest ∧ Step b w none w' none := by
  refine (rNum_some b s w hr hs n (enc n).length (by rw [hl]; exact dnum_enc n rest hn)).mono ?_
  rintro e w' ⟨rfl, rfl⟩
  exact ⟨rfl, _, one_setCell hr, rest_of hl, step_set (Below.refl _ _) _⟩
theorem rInt_read (b u : Nat) (rest : List UInt8) (s : ByteArray) (w : World) (hr : RdAt w b s) (hs : s.size ≤ maxLen) (hn : u < 18446744073709551616) (hl : s.data.toList = enc u ++ rest) :
    Calls Tryz.prog 69 #[.pointer (some ⟨b, 0, none⟩)] w fun e w' => e = .returned (.tuple #[.int .i64 (unfold u), .int .i64 0]) ∧ ∃ s', RdAt w' b s' ∧ s'.data.toList = rest ∧ Step b w none w' none := by
  refine (rInt_some b s w hr hs u (enc u).length (by rw [hl]; exact dnum_enc u rest hn)).mono ?_
  rintro e w' ⟨rfl, rfl⟩
  exact ⟨rfl, _, one_setCell hr, rest_of hl, step_set (Below.refl _ _) _⟩
theorem dtext_text (t rest : List UInt8) (h : t.length < 18446744073709551616) : dtext (text t ++ rest) = some ((enc t.length).length, t.length) := by
  unfold dtext text
  rw [List.append_assoc, dnum_enc _ _ h]
  simp only
  rw [if_pos (by simp)]

end Go.Proofs.YtjfanbemihheiaaGreatDoor.Pk
