/-
  The texts PackMath, PackHeap, CmHeap, CmRows, MemMath, BlockMath, EnHeap.
-/
import Derived.KernelRfl
import Derived.Test.YtedjohkdfchocaaGreatProg
import Derived.WalkKit
import Derived.Deep.AppendLies
import Derived.Deep.AppendSrc
import Derived.Lib.AppendStr
import Derived.Maps.AppendAt
import Derived.Laws.AppendOwnNone
import Derived.Laws.BitsAllLaws
import Derived.Deep.Light
import Derived.BigQuiet
import Derived.Lib.SmallJoins
import Derived.Deep.RegionHeld3
import Derived.Deep.RegionWith

/-
  The bytes of numbers, whole numbers and texts (layer 1), as plain functions on lists: they come back, and no other bytes are read.
-/
namespace Go.Proofs.YtedjohkdfchocaaGreat.Pk

/-- A number's bytes, with so many bytes more at the most. -/
def encF : Nat → Nat → List UInt8
  | 0, n => [UInt8.ofNat n]
  | f + 1, n => if n < 128 then [UInt8.ofNat n] else UInt8.ofNat (n % 128 + 128) :: encF f (n / 128)
def enc (n : Nat) : List UInt8 := encF 9 n

/-- The number at a list's beginning, and how many bytes it has. -/
def numF : Nat → List UInt8 → Option (Nat × Nat)
  | 0, _ => none
  | _ + 1, [] => none
  | f + 1, c :: r =>
    if c.toNat < 128 then (if f = 0 ∧ 1 < c.toNat then none else some (c.toNat, 1))
    else match numF f r with
      | none => none
      | some (n, k) => if n = 0 then none else some (c.toNat - 128 + 128 * n, k + 1)
def dnum (l : List UInt8) : Option (Nat × Nat) := numF 10 l
def num (l : List UInt8) : Nat × Nat := (dnum l).getD (0, 0)

theorem u8_toNat_ofNat {n : Nat} (h : n < 256) : (UInt8.ofNat n).toNat = n := by simp; omega
theorem u8_ext {a b : UInt8} (h : a.toNat = b.toNat) : a = b := UInt8.toNat_inj.1 h
theorem u8_lt (a : UInt8) : a.toNat < 256 := a.toNat_lt

theorem encF_small (f n : Nat) (h : n < 128) : encF f n = [UInt8.ofNat n] := by cases f <;> simp [encF, h]
theorem encF_big (f n : Nat) (h : 128 ≤ n) : encF (f + 1) n = UInt8.ofNat (n % 128 + 128) :: encF f (n / 128) := by simp [encF]; omega
theorem encF_ne (f n : Nat) : encF f n ≠ [] := by
  cases f with
  | zero => simp [encF]
  | succ f => simp only [encF]; split <;> simp
theorem encF_len (f n : Nat) : 1 ≤ (encF f n).length ∧ (encF f n).length ≤ f + 1 := by
  induction f generalizing n with
  | zero => simp [encF]
  | succ f ih => simp only [encF]; split <;> simp; have := ih (n / 128); omega
theorem enc_len (n : Nat) : 1 ≤ (enc n).length ∧ (enc n).length ≤ 10 := encF_len 9 n
theorem enc_ne (n : Nat) : enc n ≠ [] := encF_ne 9 n

/-- So great a number may have so many bytes: f + 1 bytes, the last one below 128 (or below 2 where there are ten). -/
def fits : Nat → Nat → Prop
  | 0, n => n < 2
  | f + 1, n => n < 128 ∨ fits f (n / 128)

theorem fits_of {n : Nat} (h : n < 18446744073709551616) : fits 9 n := by
  simp only [fits]; omega

theorem fits_lt {n : Nat} (h : fits 9 n) : n < 18446744073709551616 := by
  simp only [fits] at h; omega

theorem numF_encF (f n : Nat) (r : List UInt8) (h : fits f n) : numF (f + 1) (encF f n ++ r) = some (n, (encF f n).length) := by
  induction f generalizing n with
  | zero =>
    simp only [fits] at h
    simp only [encF, List.cons_append, List.nil_append, numF, u8_toNat_ofNat (show n < 256 by omega), List.length_singleton]
    rw [if_pos (by omega), if_neg (by omega)]
  | succ f ih =>
    by_cases hn : n < 128
    · rw [encF_small _ _ hn]
      simp only [List.cons_append, List.nil_append, numF, u8_toNat_ofNat (show n < 256 by omega), List.length_singleton]
      rw [if_pos hn, if_neg (by omega)]
    · have h' : fits f (n / 128) := by simp only [fits] at h; rcases h with h | h; omega; exact h
      rw [encF_big _ _ (by omega), List.cons_append, numF, u8_toNat_ofNat (show n % 128 + 128 < 256 by omega), if_neg (by omega), ih _ h']
      simp only [List.length_cons]
      rw [if_neg (by omega)]
      congr 2
      omega

theorem dnum_enc (n : Nat) (r : List UInt8) (h : n < 18446744073709551616) : dnum (enc n ++ r) = some (n, (enc n).length) := numF_encF 9 n r (fits_of h)

theorem numF_some {f : Nat} {l : List UInt8} {n k : Nat} (h : numF (f + 1) l = some (n, k)) : fits f n ∧ k = (encF f n).length ∧ l = encF f n ++ l.drop k ∧ k ≤ l.length := by
  induction f generalizing l n k with
  | zero =>
    cases l with
    | nil => simp [numF] at h
    | cons c r =>
      simp only [numF] at h
      split at h
      · split at h
        · cases h
        · rename_i h1 h2
          simp only [true_and] at h2
          simp only [Option.some.injEq, Prod.mk.injEq] at h
          obtain ⟨rfl, rfl⟩ := h
          have hc : UInt8.ofNat c.toNat = c := u8_ext (u8_toNat_ofNat (by omega))
          exact ⟨by simp only [fits]; omega, by simp [encF], by simp [encF], by simp⟩
      · simp at h
  | succ f ih =>
    cases l with
    | nil => simp [numF] at h
    | cons c r =>
      rw [numF] at h
      split at h
      · rename_i h1
        simp only [Nat.add_one_ne_zero, false_and, if_false, Option.some.injEq, Prod.mk.injEq] at h
        obtain ⟨rfl, rfl⟩ := h
        have hc : UInt8.ofNat c.toNat = c := u8_ext (u8_toNat_ofNat (by omega))
        exact ⟨by simp only [fits]; omega, by simp [encF_small _ _ h1], by simp [encF_small _ _ h1], by simp⟩
      · rename_i h1
        cases hq : numF (f + 1) r with
        | none => rw [hq] at h; cases h
        | some p =>
          obtain ⟨n', k'⟩ := p
          rw [hq] at h
          simp only at h
          split at h
          · cases h
          · rename_i h2
            simp only [Option.some.injEq, Prod.mk.injEq] at h
            obtain ⟨rfl, rfl⟩ := h
            obtain ⟨g1, g2, g3, g4⟩ := ih hq
            have hc := u8_lt c
            have hbig : 128 ≤ c.toNat - 128 + 128 * n' := by omega
            have hd : (c.toNat - 128 + 128 * n') / 128 = n' := by omega
            have hm : (c.toNat - 128 + 128 * n') % 128 + 128 = c.toNat := by omega
            have he : encF (f + 1) (c.toNat - 128 + 128 * n') = c :: encF f n' := by
              rw [encF_big _ _ hbig, hd, hm]
              congr 1
              exact u8_ext (u8_toNat_ofNat (by omega))
            refine ⟨by simp only [fits]; right; rw [hd]; exact g1, by rw [he]; simp [g2], ?_, by simp; omega⟩
            rw [he, List.cons_append, List.drop_succ_cons, ← g3]

theorem dnum_some {l : List UInt8} {n k : Nat} (h : dnum l = some (n, k)) : n < 18446744073709551616 ∧ k = (enc n).length ∧ l = enc n ++ l.drop k ∧ k ≤ l.length := by
  obtain ⟨a, b, c, d⟩ := numF_some h
  exact ⟨fits_lt a, b, c, d⟩

/-- Bytes that all say that another one follows are no number's. -/
theorem numF_follow (f : Nat) (l : List UInt8) (h : ∀ c ∈ l, 128 ≤ c.toNat) : numF f l = none := by
  induction l generalizing f with
  | nil => cases f <;> rfl
  | cons c r ih =>
    cases f with
    | zero => rfl
    | succ f =>
      have := h c (by simp)
      rw [numF, if_neg (by omega), ih f (fun x hx => h x (by simp [hx]))]

theorem encF_begin (f n k : Nat) (hn : n < 128 ^ (f + 1)) (hk : k < (encF f n).length) : ∀ c ∈ (encF f n).take k, 128 ≤ c.toNat := by
  induction f generalizing n k with
  | zero => simp [encF] at hk; subst hk; simp
  | succ f ih =>
    by_cases h : n < 128
    · rw [encF_small _ _ h] at hk ⊢; simp at hk; subst hk; simp
    · rw [encF_big _ _ (by omega)] at hk ⊢
      cases k with
      | zero => simp
      | succ k =>
        intro c hc
        simp only [List.take_succ_cons, List.mem_cons] at hc
        rcases hc with rfl | hc
        · rw [u8_toNat_ofNat (by omega)]; omega
        · exact ih (n / 128) k (by rw [Nat.pow_succ] at hn; omega) (by simpa using hk) c hc

theorem dnum_begin (n k : Nat) (hn : n < 18446744073709551616) (hk : k < (enc n).length) : dnum ((enc n).take k) = none :=
  numF_follow _ _ (encF_begin 9 n k (by omega) hk)

theorem enc_inj {a b : Nat} (ha : a < 18446744073709551616) (hb : b < 18446744073709551616) (h : enc a = enc b) : a = b := by
  have h1 := dnum_enc a [] ha
  rw [h, dnum_enc b [] hb] at h1
  simp at h1
  exact h1.symm

theorem num_none {l : List UInt8} (h : dnum l = none) : num l = (0, 0) := by simp [num, h]
theorem num_some {l : List UInt8} {p : Nat × Nat} (h : dnum l = some p) : num l = p := by simp [num, h]
theorem num_two {l : List UInt8} (h : (num l).2 = 0) : dnum l = none := by
  cases hd : dnum l with
  | none => rfl
  | some p =>
    obtain ⟨n, k⟩ := p
    have := dnum_some hd
    have := enc_len n
    rw [num_some hd] at h
    simp at h; omega
theorem num_lt (l : List UInt8) : (num l).1 < 18446744073709551616 ∧ (num l).2 ≤ 10 ∧ (num l).2 ≤ l.length := by
  cases hd : dnum l with
  | none => rw [num_none hd]; simp
  | some p =>
    obtain ⟨n, k⟩ := p
    have h := dnum_some hd
    have := enc_len n
    rw [num_some hd]
    exact ⟨h.1, by simp; omega, h.2.2.2⟩

/-! ### As the loop goes over the bytes -/
/-- The number that bytes with the mark 'another one follows' stand for, so far. -/
def val : List UInt8 → Nat
  | [] => 0
  | c :: r => c.toNat % 128 + 128 * val r

theorem val_snoc (l : List UInt8) (c : UInt8) : val (l ++ [c]) = val l + 128 ^ l.length * (c.toNat % 128) := by
  induction l with
  | nil => simp [val]
  | cons x l ih =>
    simp only [List.cons_append, val, ih, List.length_cons, Nat.pow_succ, Nat.mul_add]
    rw [Nat.mul_comm (128 ^ l.length) 128, Nat.mul_assoc]
    omega
theorem val_lt (l : List UInt8) : val l < 128 ^ l.length := by
  induction l with
  | nil => simp [val]
  | cons x l ih => simp only [val, List.length_cons, Nat.pow_succ]; omega

/-- Behind bytes that all say that another one follows. -/
theorem numF_behind (p t : List UInt8) (f : Nat) (h : ∀ c ∈ p, 128 ≤ c.toNat) :
    numF (p.length + f) (p ++ t) = match numF f t with
      | none => none
      | some (n, k) => if p ≠ [] ∧ n = 0 then none else some (val p + 128 ^ p.length * n, p.length + k) := by
  induction p with
  | nil =>
    simp only [List.length_nil, Nat.zero_add, List.nil_append, val, Nat.pow_zero, Nat.one_mul]
    cases numF f t with
    | none => rfl
    | some q => simp
  | cons c p ih =>
    have hc := h c (by simp)
    have hlt := u8_lt c
    have ih' := ih (fun x hx => h x (by simp [hx]))
    rw [List.length_cons, show p.length + 1 + f = (p.length + f) + 1 by omega, List.cons_append, numF, if_neg (by omega), ih']
    cases numF f t with
    | none => rfl
    | some q =>
      obtain ⟨n, k⟩ := q
      simp only
      by_cases hn : n = 0
      · subst hn
        by_cases hp : p = []
        · subst hp; simp [val]
        · simp [hp]
      · have hv : val p + 128 ^ p.length * n ≠ 0 := by
          have : 0 < 128 ^ p.length * n := Nat.mul_pos (Nat.pow_pos (by omega)) (by omega)
          omega
        simp only [hn, and_false, if_false, hv, ne_eq, reduceCtorEq, not_false_eq_true, val, Nat.pow_succ, Nat.mul_add]
        refine congrArg some (Prod.ext ?_ ?_) <;> dsimp only
        · rw [show c.toNat % 128 = c.toNat - 128 by omega, Nat.mul_comm (128 ^ p.length) 128, Nat.mul_assoc]; omega
        · omega

/-- The last byte's ways. -/
theorem dnum_last (p : List UInt8) (c : UInt8) (t : List UInt8) (hp : p.length < 10) (h : ∀ x ∈ p, 128 ≤ x.toNat) (hc : c.toNat < 128) :
    dnum (p ++ c :: t) = if (0 < p.length ∧ c.toNat = 0) ∨ (p.length = 9 ∧ 1 < c.toNat) then none else some (val p + 128 ^ p.length * c.toNat, p.length + 1) := by
  have e : (10 : Nat) = p.length + ((9 - p.length) + 1) := by omega
  unfold dnum
  rw [e, numF_behind p (c :: t) _ h, numF, if_pos hc]
  have hpl : p ≠ [] ↔ 0 < p.length := by cases p <;> simp
  by_cases h9 : p.length = 9 ∧ 1 < c.toNat
  · rw [if_pos (show 9 - p.length = 0 ∧ 1 < c.toNat by omega), if_pos (.inr h9)]
  · rw [if_neg (show ¬ (9 - p.length = 0 ∧ 1 < c.toNat) by omega)]
    simp only [hpl]
    by_cases h0 : 0 < p.length ∧ c.toNat = 0
    · rw [if_pos h0, if_pos (.inl h0)]
    · rw [if_neg h0, if_neg (by omega)]

/-- There is no last byte among the first ten. -/
theorem dnum_no_last (l : List UInt8) (h : ∀ x ∈ l.take 10, 128 ≤ x.toNat) : dnum l = none := by
  by_cases h10 : l.length ≤ 10
  · rw [List.take_of_length_le h10] at h
    exact numF_follow _ _ h
  · have hl : (l.take 10).length = 10 := by simp; omega
    have := numF_behind (l.take 10) (l.drop 10) 0 h
    rw [List.take_append_drop, hl] at this
    exact this

/-! ### Whole numbers -/
def fold (n : Int) : Nat := if n < 0 then (2 * (-n - 1) + 1).toNat else (2 * n).toNat
def unfold (u : Nat) : Int := if u % 2 = 1 then -((u / 2 : Nat) : Int) - 1 else ((u / 2 : Nat) : Int)
theorem unfold_fold (n : Int) : unfold (fold n) = n := by
  unfold unfold fold
  split <;> split <;> omega
theorem fold_unfold (u : Nat) : fold (unfold u) = u := by
  unfold unfold fold
  split <;> split <;> omega
theorem fold_lt {n : Int} (h1 : -9223372036854775808 ≤ n) (h2 : n ≤ 9223372036854775807) : fold n < 18446744073709551616 := by
  unfold fold; split <;> omega
theorem unfold_bd {u : Nat} (h : u < 18446744073709551616) : -9223372036854775808 ≤ unfold u ∧ unfold u ≤ 9223372036854775807 := by
  unfold unfold; split <;> omega

/-! ### Lists of them -/
def nums (l : List Nat) : List UInt8 := l.flatMap enc
def ints (l : List Int) : List UInt8 := l.flatMap fun n => enc (fold n)
def text (s : List UInt8) : List UInt8 := enc s.length ++ s
def texts (l : List (List UInt8)) : List UInt8 := l.flatMap text

/-- The text at a list's beginning: how many bytes stand ahead of it, and how many it has. -/
def dtext (l : List UInt8) : Option (Nat × Nat) := match dnum l with
  | none => none
  | some (n, k) => if n ≤ l.length - k then some (k, n) else none

end Go.Proofs.YtedjohkdfchocaaGreat.Pk

/-
  A writer in memory (layer 1): the block that holds its slice, the row that the slice owns, and what stays as it was when something is put.
-/
namespace Go.Proofs.YtedjohkdfchocaaGreat.Pk
open Go.RowKit

/-- Everything that was there but block b and row r is as it was. -/
structure Kept (b : Nat) (r : Option Nat) (w w' : World) : Prop where
  os : w'.os = w.os
  tape : w'.tape = w.tape
  output : w'.output = w.output
  size : w.heap.size ≤ w'.heap.size
  block : ∀ k, k < w.heap.size → k ≠ b → some k ≠ r → w'.heap[k]? = w.heap[k]?

theorem Kept.refl (b : Nat) (r : Option Nat) (w : World) : Kept b r w w := ⟨rfl, rfl, rfl, Nat.le_refl _, fun _ _ _ _ => rfl⟩

/-- From row r to row r': the same, or one that is made on the way. -/
structure Step (b : Nat) (w : World) (r : Option Nat) (w' : World) (r' : Option Nat) : Prop where
  kept : Kept b r w w'
  row : r' = r ∨ ∃ g, r' = some g ∧ w.heap.size ≤ g

theorem Step.refl (b : Nat) (r : Option Nat) (w : World) : Step b w r w r := ⟨Kept.refl b r w, .inl rfl⟩
theorem Step.trans {b : Nat} {w w1 w2 : World} {r r1 r2 : Option Nat} (h : Step b w r w1 r1) (k : Step b w1 r1 w2 r2) : Step b w r w2 r2 := by
  have hs := h.kept.size
  refine ⟨⟨k.kept.os.trans h.kept.os, k.kept.tape.trans h.kept.tape, k.kept.output.trans h.kept.output, Nat.le_trans hs k.kept.size, fun i hi hb hr => ?_⟩, ?_⟩
  · refine (k.kept.block i (by omega) hb ?_).trans (h.kept.block i hi hb hr)
    rcases h.row with e | ⟨g, e, hg⟩
    · rw [e]; exact hr
    · rw [e]; intro he; simp at he; omega
  · rcases k.row with e | ⟨g, e, hg⟩
    · rw [e]; exact h.row
    · exact .inr ⟨g, e, by omega⟩
theorem Step.alloc (b : Nat) (r : Option Nat) (w : World) (o : Obj) : Step b w r (w.alloc o) r :=
  ⟨⟨rfl, rfl, rfl, by simp, fun k hk _ _ => Below.heap_alloc _ _ _ hk⟩, .inl rfl⟩
theorem Step.below {b B : Nat} {w w' : World} {r r' : Option Nat} (h : Step b w r w' r') (hB : B ≤ w.heap.size) (hb : B ≤ b) (hr : ∀ k, r = some k → B ≤ k) : Below B w w' :=
  ⟨h.kept.os, h.kept.tape, h.kept.output, h.kept.size, fun k hk => h.kept.block k (by omega) (by omega) (fun e => by have := hr k e.symm; omega)⟩

def B8 (c : UInt8) : Value := .int .u8 c.toNat

/-- Block b is a writer that has put the bytes bs; its slice's row is r. -/
def WrAt (w : World) (base b : Nat) (r : Option Nat) (bs : List UInt8) : Prop :=
  ∃ v, w.heap[b]? = some (.cells #[v] 125 (0, 0)) ∧ w.ownsRow base 5 1 v bs.length (bs.map B8) ∧ v.ownBlock = r

theorem WrAt.row_ge {w : World} {base b : Nat} {r : Option Nat} {bs : List UInt8} (h : WrAt w base b r bs) : ∀ k, r = some k → base ≤ k ∧ k < w.heap.size ∧ k ≠ b := by
  obtain ⟨v, hb, hown, rfl⟩ := h
  intro k hk
  have := hown.lt k hk
  refine ⟨this.1, this.2, ?_⟩
  rintro rfl
  rcases hown.2 with ⟨rfl, _⟩ | ⟨g, cap, cur, rfl, _, hg, _⟩
  · simp [Value.ownBlock] at hk
  · simp [Value.ownBlock] at hk
    subst hk
    rw [hb] at hg
    simp at hg
theorem WrAt.lt {w : World} {base b : Nat} {r : Option Nat} {bs : List UInt8} (h : WrAt w base b r bs) : b < w.heap.size := by
  obtain ⟨v, hb, _⟩ := h
  exact lt_of_block hb

/-- Another writer, or whatever changes other blocks alone, leaves it. -/
theorem WrAt.keep {w w' : World} {base b : Nat} {r : Option Nat} {bs : List UInt8} (h : WrAt w base b r bs) (hb : w'.heap[b]? = w.heap[b]?) (hr : ∀ k, r = some k → w'.heap[k]? = w.heap[k]?) : WrAt w' base b r bs := by
  obtain ⟨v, hv, hown, rfl⟩ := h
  refine ⟨v, hb.trans hv, ⟨hown.1, ?_⟩, rfl⟩
  rcases hown.2 with h | ⟨g, cap, cur, rfl, h1, hg, h2⟩
  · exact .inl h
  · exact .inr ⟨g, cap, cur, rfl, h1, (hr g rfl).trans hg, h2⟩
theorem WrAt.step {w w' : World} {base b c : Nat} {r s s' : Option Nat} {bs : List UInt8} (h : WrAt w base b r bs) (k : Step c w s w' s') (hbc : b ≠ c) (hbs : some b ≠ s) (hrc : r ≠ some c) (hrs : r = none ∨ r ≠ s) : WrAt w' base b r bs := by
  refine h.keep (k.kept.block b h.lt hbc hbs) fun i hi => k.kept.block i (h.row_ge i hi).2.1 (fun e => hrc (by rw [hi, e])) (fun e => ?_)
  rcases hrs with hrs | hrs
  · rw [hrs] at hi; cases hi
  · exact hrs (by rw [hi, e])

/-- What one append to the writer's slice comes to. -/
theorem wr_put {w w0 w1 : World} {base b g cap : Nat} {v : Value} {bs new : List UInt8} {n : Nat}
    (hb : w.heap[b]? = some (.cells #[v] 125 (0, 0))) (hown : w.ownsRow base 5 1 v bs.length (bs.map B8))
    (h0 : Step b w v.ownBlock w0 v.ownBlock) (hb0 : w0.heap[b]? = some (.cells #[v] 125 (0, 0)))
    (hown1 : w1.ownsRow base 5 1 (.slice (some ⟨g, 0, none⟩) n cap) n (bs.map B8 ++ new.map B8)) (hn : n = bs.length + new.length)
    (hgrow : w0.grownBy w1 v.ownBlock) (hat : v.ownBlock = some g ∨ g = w0.heap.size) :
    WrAt (w1.setCell ⟨b, 0, none⟩ (.slice (some ⟨g, 0, none⟩) n cap)) base b (some g) (bs ++ new) ∧
    Step b w v.ownBlock (w1.setCell ⟨b, 0, none⟩ (.slice (some ⟨g, 0, none⟩) n cap)) (some g) := by
  have hw : WrAt w base b v.ownBlock bs := ⟨v, hb, hown, rfl⟩
  have hlt := hw.lt
  have hs0 := h0.kept.size
  have hbr : some b ≠ v.ownBlock := fun e => (hw.row_ge b e.symm).2.2 rfl
  have hb1 : w1.heap[b]? = some (.cells #[v] 125 (0, 0)) := (hgrow.block b (by omega) hbr).trans hb0
  have hgb : g ≠ b := by
    rcases hat with e | e
    · exact (hw.row_ge g e).2.2
    · omega
  subst hn
  refine ⟨⟨_, one_setCell hb1, ?_, rfl⟩, ?_⟩
  · rw [List.length_append, List.map_append]
    exact ownsRow_setCell_other hown1 (by simp [Value.ownBlock, hgb]) _
  · refine h0.trans ⟨⟨hgrow.os, hgrow.tape, hgrow.output, by simpa [World.setCell] using hgrow.size, fun k hk hkb hkr => ?_⟩, ?_⟩
    · rw [Below.heap_setCell _ _ _ _ (by simpa using hkb)]
      exact hgrow.block k hk hkr
    · rcases hat with e | e
      · exact .inl e.symm
      · exact .inr ⟨g, rfl, by omega⟩

end Go.Proofs.YtedjohkdfchocaaGreat.Pk

/-
  For all layers: rows of bytes and of texts in memory, what append comes to, slices that came in as plain lists.
-/
namespace Go.Proofs.YtedjohkdfchocaaGreat.Cm
open Go.RowKit
set_option linter.unusedVariables false

theorem info8 : (Tryz.prog.info? 5).map (fun i => (i.zero, i.size, i.bytes)) = some (some (.int .u8 0), 1, 1) := by kernel_rfl
theorem infoStr : (Tryz.prog.info? 9).map (fun i => (i.zero, i.size, i.bytes)) = some (some (.string ⟨#[]⟩), 1, 16) := by kernel_rfl
def B8 (c : UInt8) : Value := .int .u8 c.toNat
theorem hid_rfl {α : Type} {a : α} : Hid (a = a) := rfl
theorem getD_lt {α : Type} (l : List α) (k : Nat) (d : α) (h : k < l.length) : l.getD k d = l[k] := by simp [h]
theorem str_back (s : ByteArray) : (⟨s.data.toList.toArray⟩ : ByteArray) = s := by cases s; simp
theorem own_keep {w w' : World} {B : Nat} {e : TypeId} {n : Nat} {v : Value} {xs : List Value} (h : w.ownsRow B e 1 v n xs) (hk : ∀ k, v.ownBlock = some k → w'.heap[k]? = w.heap[k]?) : w'.ownsRow B e 1 v n xs := by
  refine ⟨h.1, ?_⟩
  rcases h.2 with h | ⟨g, cap, cur, rfl, h1, hg, h2⟩
  · exact .inl h
  · exact .inr ⟨g, cap, cur, rfl, h1, (hk g rfl).trans hg, h2⟩
theorem run_append_str_at {P : Program} (w : World) (base : Nat) (t u ty e : TypeId) (i : TypeInfo) (ht : P.underlying t = some (.slice e)) (hu : P.underlying u = some .string) (hi : P.info? e = some i) (hz : i.zero = some (.int .u8 0))
    (hsize : i.size = 1) (hby : i.bytes = 1) (v : Value) (n : Nat) (xs : List Value) (hown : w.ownsRow base e 1 v n xs) (s : ByteArray)
    (h63 : n + s.size ≤ maxLen) (hbytes : n + s.size ≤ 140737488355328) (hbase : base ≤ w.heap.size) :
    ∃ v' w', (Builtin.append_ #[t, u] ty #[v, .string s]).run P w = .ok v' w' ∧ w'.ownsRow base e 1 v' (n + s.size) (xs ++ Lib.strCells s) ∧ w.grownBy w' v.ownBlock ∧
      (v'.ownBlock = v.ownBlock ∨ v'.ownBlock = some w.heap.size) := by
  obtain ⟨v', w', hr, h2, h3, h4⟩ := Lib.run_append_own_string (P := P) w base t u ty e i ht hu hi hz hsize hby v n xs hown s h63 hbytes hbase
  refine ⟨v', w', hr, h2, h3, ?_⟩
  unfold maxLen at h63
  rcases hown.2 with ⟨rfl, rfl⟩ | ⟨g, cap, cur, rfl, hbg, hg, hnc, hcm, hcs, htake⟩
  · by_cases hm : s.size = 0
    · rw [h4.2 ⟨rfl, hm⟩]; exact .inl rfl
    · have hq := run_append_nil_string (P := P) w t u ty e i (.int .u8 0) ht hu hi hz s (by omega) (by omega) (by rw [hby]; omega)
      rw [hr] at hq
      injection hq with hq _
      rw [hq]; exact .inr rfl
  · by_cases hroom : n + s.size ≤ cap
    · have hcs' : cur.size = cap := by simpa using hcs
      have hq := Lib.run_append_room_string (P := P) w t u ty e i ht hu hi hsize g n cap cur hg s hroom (by omega)
      rw [hr] at hq
      injection hq with hq _
      rw [hq]; exact .inl rfl
    · have hxl : xs.length = n := by simpa using hown.1
      have hq := Lib.run_append_grow_string (P := P) w t u ty e i (.int .u8 0) ht hu hi hz ⟨g, 0, none⟩ n cap xs (by rw [hsize]; simpa using hxl) (hown.cells (g := g) rfl) s (by omega) (by omega) (by rw [hby]; exact growslice_fits (by omega) (by omega))
      rw [hr] at hq
      injection hq with hq _
      rw [hq]; exact .inr rfl
theorem wpList_append_str_at {P : Program} (w : World) {ops : Array Oper} {rest : List Oper} {o : Oper} {a : Act} {Q : Exit → Act → World → Prop} (hgd : o.guard = none) (sl x : Operand) (t u : TypeId)
    (ho : o.op = .call { callee := .builtin .append, args := #[sl, x], argTypes := #[t, u] })
    (base : Nat) (e : TypeId) (i : TypeInfo) (ht : P.underlying t = some (.slice e)) (hu : P.underlying u = some .string) (hi : P.info? e = some i) (hz : i.zero = some (.int .u8 0))
    (hsize : i.size = 1) (hby : i.bytes = 1) (v : Value) (n : Nat) (xs : List Value) (hs : a.eval sl = v) (hown : w.ownsRow base e 1 v n xs) (s : ByteArray) (hx : a.eval x = .string s)
    (h63 : n + s.size ≤ maxLen) (hbytes : n + s.size ≤ 140737488355328) (hbase : base ≤ w.heap.size)
    (h : ∀ v' w', w'.ownsRow base e 1 v' (n + s.size) (xs ++ Lib.strCells s) → w.grownBy w' v.ownBlock → (v'.ownBlock = v.ownBlock ∨ v'.ownBlock = some w.heap.size) → wpList P ops Q rest (a.put o.dst v') w') : wpList P ops Q (o :: rest) a w := by
  refine wpList_plain hgd fun K hK => ?_
  obtain ⟨v', w', hr, h2, h3, h4⟩ := run_append_str_at (P := P) w base t u o.type e i ht hu hi hz hsize hby v n xs hown s h63 hbytes hbase
  unfold Oper.wp execOp
  simp only [ho, resolve, invoke, builtin, Sem.run_bind, Sem.run_pure, Result.andThen_ok, List.map_toArray, List.map_cons, List.map_nil, hs, hx, hr]
  exact hK _ _ (h v' w' h2 h3 h4)
/-- The values lie in memory from that address on. -/
def CellsAt (w : World) (ao : Option Addr) (vs : List Value) : Prop :=
  vs = [] ∨ ∃ b off, ao = some ⟨b, off, none⟩ ∧ b < w.heap.size ∧ ∀ j, j < vs.length → w.cell? ⟨b, off + j, none⟩ = vs[j]?
theorem CellsAt.keep {w w' : World} {ao : Option Addr} {vs : List Value} (h : CellsAt w ao vs) (hb : ∀ b, b < w.heap.size → w'.heap[b]? = w.heap[b]?) (hs : w.heap.size ≤ w'.heap.size) : CellsAt w' ao vs := by
  rcases h with h | ⟨b, off, rfl, hlt, hc⟩
  · exact .inl h
  · refine .inr ⟨b, off, rfl, by omega, fun j hj => ?_⟩
    rw [World.cell?_of_block (hb b hlt)]
    exact hc j hj
theorem CellsAt.below {w w' : World} {ao : Option Addr} {vs : List Value} (h : CellsAt w ao vs) (hb : Below w.heap.size w w') : CellsAt w' ao vs := h.keep hb.block hb.size
theorem CellsAt.alloc {w : World} {ao : Option Addr} {vs : List Value} (h : CellsAt w ao vs) (o : Obj) : CellsAt (w.alloc o) ao vs := h.keep (fun b hb => Below.heap_alloc _ _ _ hb) (by simp)
theorem CellsAt.drew {w : World} {ao : Option Addr} {vs : List Value} {n : Nat} (h : CellsAt w ao vs) : CellsAt (w.drewN n) ao vs := h
def total (xs : List ByteArray) : Nat := (xs.map ByteArray.size).sum
def strVals (l : List ByteArray) : List Value := l.map Value.string
section
variable {P : Program} (w : World)
/-- append of a slice that came in (nil or not) to an owned row. -/
theorem wpList_append_any {ops : Array Oper} {rest : List Oper} {o : Oper} {a : Act} {Q : Exit → Act → World → Prop} (hgd : o.guard = none) (s x : Operand) (t : TypeId)
    (ho : o.op = .call { callee := .builtin .append, args := #[s, x], argTypes := #[t, t] })
    (base : Nat) (e : TypeId) (i : TypeInfo) (z : Value) (bytes : Nat) (ht : P.underlying t = some (.slice e)) (hi : P.info? e = some i) (hz : i.zero = some z)
    (hsize : i.size = 1) (hby : i.bytes = bytes) (hzs : z.cells.size = 1)
    (v : Value) (n : Nat) (xs : List Value) (hs : a.eval s = v) (hown : w.ownsRow base e 1 v n xs)
    (ao : Option Addr) (m c : Nat) (news : List Value) (hx : a.eval x = .slice ao m c) (hnil : ao = none → c = 0) (hl : news.length = m) (hnews : CellsAt w ao news) (h1 : ∀ u ∈ news, u.oneCell' = true)
    (h63 : n + m ≤ maxLen) (hbytes : (n + m) * bytes ≤ 140737488355328) (hbase : base ≤ w.heap.size)
    (h : ∀ v' w', w'.ownsRow base e 1 v' (n + m) (xs ++ news) → w.grownBy w' v.ownBlock → (v'.ownBlock = v.ownBlock ∨ v'.ownBlock = some w.heap.size) → wpList P ops Q rest (a.put o.dst v') w') :
    wpList P ops Q (o :: rest) a w := by
  cases ao with
  | none =>
    have hn : news = [] := by
      rcases hnews with h | ⟨b, off, h, _⟩
      · exact h
      · cases h
    subst hn
    have hm : m = 0 := by simpa using hl.symm
    have hc := hnil rfl
    subst hm hc
    exact wpList_append_own_none hgd s x t ho base e i 1 ht hi v n xs hs hown hx (h v w (by simpa using hown) ⟨rfl, rfl, rfl, Nat.le_refl _, fun _ _ _ => rfl⟩ (.inl rfl))
  | some ad =>
    refine wpList_append_own_at w hgd s x t ho base e i z 1 bytes ht hi hz hsize hby hzs (by decide) v n xs hs hown ad m c news hx (by omega) (fun j u hu => ?_) h1 h63 hbytes hbase (fun v' w' a1 a2 _ a4 => h v' w' a1 a2 a4)
    rcases hnews with hn | ⟨b, off, he, _, hcell⟩
    · rw [hn] at hu; simp at hu
    · simp only [Option.some.injEq] at he
      subst he
      have hj : j < news.length := (List.getElem?_eq_some_iff.1 hu).1
      rw [Go.WideShapes.add_plain, hcell j hj, hu]
end
theorem own_string {w : World} {base : Nat} {v : Value} {bs : List UInt8} (h : w.ownsRow base 5 1 v bs.length (bs.map B8)) :
    (convert 76 9 v).run Tryz.prog w = .ok (.string ⟨bs.toArray⟩) w := by
  rcases h.2 with ⟨rfl, hn⟩ | ⟨g, cap, cur, rfl, _, hg, _, _, _, htake⟩
  · have : bs = [] := List.eq_nil_of_length_eq_zero hn
    subst this
    rw [run_convert_bytes_string w 76 9 5 none 0 0 Tryz.underlying76 Tryz.underlying5 Tryz.underlying9]
    simp [Conv.bytesToString]
    rfl
  · refine run_convert_bytes_back w 76 9 5 ⟨g, 0, none⟩ cap bs Tryz.underlying76 Tryz.underlying5 Tryz.underlying9 fun j hj => ?_
    have := h.cells (g := g) rfl j (B8 bs[j]) (by simp [hj])
    exact this
/-- A string's bytes behind an owned row, in a loop: what it comes to. -/
theorem own_text_below {w wr w5 w6 : World} {B : Nat} {v : Value} {n : Nat} {xs : List Value} (hB : Below B w wr) (hBs : B ≤ w.heap.size) (hb : Below wr.heap.size wr w5) (hown : wr.ownsRow B 5 1 v n xs) (hg : w5.grownBy w6 v.ownBlock) : Below B w w6 := by
  have h1 := hB.size
  have h2 := hb.size
  exact (hB.trans (hb.mono (by omega))).grown hg (by omega) (fun k hk => (hown.lt k hk).1)
theorem own_keep_below {wr w5 : World} {B : Nat} {v : Value} {n : Nat} {xs : List Value} (hown : wr.ownsRow B 5 1 v n xs) (hb : Below wr.heap.size wr w5) : w5.ownsRow B 5 1 v n xs :=
  own_keep hown fun k hk => hb.block k (hown.lt k hk).2
theorem own_bytes {w : World} {B : Nat} {v : Value} {bs x : List UInt8} {X : ByteArray} (hX : X.data.toList = x) (h : w.ownsRow B 5 1 v (bs.length + X.size) (bs.map B8 ++ Lib.strCells X)) : w.ownsRow B 5 1 v (bs ++ x).length ((bs ++ x).map B8) := by
  rw [List.length_append, List.map_append, ← hX, ← Lib.size_eq]; exact h

end Go.Proofs.YtedjohkdfchocaaGreat.Cm

/-
  For all layers: rows of structs of some cells each: a plain list, its cells, append, an owned row as a slice.
-/
namespace Go.Proofs.YtedjohkdfchocaaGreat.Cm
open Go.RowKit
set_option linter.unusedVariables false

/-- How an element lies in memory: sz cells. -/
structure Shape (α : Type) where
  sz : Nat
  enc : α → List Value
  pos : 0 < sz
  len : ∀ a, (enc a).length = sz
  one : ∀ a, ∀ u ∈ enc a, u.oneCell' = true
section
variable {α : Type} (F : Shape α)
def Shape.vals (xs : List α) : List Value := xs.flatMap F.enc
theorem Shape.vals_nil : F.vals [] = [] := rfl
theorem Shape.vals_cons (x : α) (xs : List α) : F.vals (x :: xs) = F.enc x ++ F.vals xs := rfl
theorem Shape.vals_append (a b : List α) : F.vals (a ++ b) = F.vals a ++ F.vals b := by simp [Shape.vals]
theorem Shape.vals_length (xs : List α) : (F.vals xs).length = xs.length * F.sz := by
  induction xs with
  | nil => simp [Shape.vals]
  | cons x xs ih => rw [Shape.vals_cons, List.length_append, ih, F.len, List.length_cons, Nat.add_mul]; omega
theorem Shape.vals_one (xs : List α) : ∀ u ∈ F.vals xs, u.oneCell' = true := by
  intro u hu
  obtain ⟨p, _, hp⟩ := List.mem_flatMap.1 hu
  exact F.one p u hp
theorem Shape.vals_get (xs : List α) (i : Nat) (h : i < xs.length) (j : Nat) (hj : j < F.sz) : (F.vals xs)[i * F.sz + j]? = (F.enc xs[i])[j]? := by
  induction xs generalizing i with
  | nil => simp at h
  | cons x xs ih =>
    rw [Shape.vals_cons]
    cases i with
    | zero => rw [List.getElem?_append_left (by rw [F.len]; omega)]; simp
    | succ i =>
      have h' : i < xs.length := by simpa using h
      have e : (i + 1) * F.sz + j = F.sz + (i * F.sz + j) := by rw [Nat.add_mul]; omega
      rw [e, List.getElem?_append_right (by rw [F.len]; omega), F.len, Nat.add_sub_cancel_left, ih i h']
      rfl
/-- A slice whose elements are xs. -/
def ElemsAt (w : World) (ao : Option Addr) (xs : List α) : Prop :=
  xs = [] ∨ ∃ b off, ao = some ⟨b, off, none⟩ ∧ b < w.heap.size ∧ ∀ i (h : i < xs.length) j u, (F.enc xs[i])[j]? = some u → w.cell? ⟨b, off + i * F.sz + j, none⟩ = some u
variable {F} {w w' : World} {ao : Option Addr} {xs : List α}
theorem ElemsAt.keep (h : ElemsAt F w ao xs) (hk : ∀ a, ao = some a → a.block < w.heap.size → w'.heap[a.block]? = w.heap[a.block]?) (hs : w.heap.size ≤ w'.heap.size) : ElemsAt F w' ao xs := by
  rcases h with h | ⟨b, off, rfl, hlt, hc⟩
  · exact .inl h
  · exact .inr ⟨b, off, rfl, by omega, fun i hi j u hu => by
      have hq : ∀ o, w'.cell? ⟨b, o, none⟩ = w.cell? ⟨b, o, none⟩ := fun o => World.cell?_of_block (show w'.heap[b]? = w.heap[b]? from hk ⟨b, off, none⟩ rfl hlt)
      rw [hq]; exact hc i hi j u hu⟩
theorem ElemsAt.below (h : ElemsAt F w ao xs) {B : Nat} (hb : Below B w w') (hB : ∀ a, ao = some a → a.block < B) : ElemsAt F w' ao xs :=
  h.keep (fun a e _ => hb.block _ (hB a e)) hb.size
theorem ElemsAt.later (h : ElemsAt F w ao xs) (hb : Below w.heap.size w w') : ElemsAt F w' ao xs := h.keep (fun a e hl => hb.block _ hl) hb.size
theorem ElemsAt.vals (h : ElemsAt F w ao xs) {ad : Addr} (e : ao = some ad) : ∀ j u, (F.vals xs)[j]? = some u → w.cell? (ad.add j) = some u := by
  intro j u hu
  rcases h with rfl | ⟨b, off, he, hlt, hc⟩
  · simp [Shape.vals] at hu
  · rw [e] at he
    cases he
    have hj : j < (F.vals xs).length := (List.getElem?_eq_some_iff.1 hu).1
    rw [Shape.vals_length] at hj
    have hp := F.pos
    have hi : j / F.sz < xs.length := Nat.div_lt_of_lt_mul (by rw [Nat.mul_comm]; exact hj)
    have hm : j % F.sz < F.sz := Nat.mod_lt _ hp
    have ej : j / F.sz * F.sz + j % F.sz = j := Nat.div_add_mod' j F.sz
    have := F.vals_get xs (j / F.sz) hi (j % F.sz) hm
    rw [ej, hu] at this
    have hcc := hc (j / F.sz) hi (j % F.sz) u this.symm
    rw [Go.WideShapes.add_plain]
    rw [Nat.add_assoc, ej] at hcc
    exact hcc
/-- An owned row as a slice. -/
theorem own_rows {B : Nat} {t : TypeId} {v : Value} (h : w.ownsRow B t F.sz v xs.length (F.vals xs)) :
    ∃ ao cap, v = .slice ao xs.length cap ∧ (ao = none → cap = 0) ∧ (∀ a, ao = some a → v.ownBlock = some a.block ∧ B ≤ a.block ∧ a.block < w.heap.size) ∧ xs.length ≤ cap ∧ ElemsAt F w ao xs := by
  rcases h.2 with ⟨rfl, hn⟩ | ⟨g, cap, cur, rfl, hB, hg, hle, _⟩
  · have : xs = [] := List.eq_nil_of_length_eq_zero hn
    subst this
    exact ⟨none, 0, rfl, fun _ => rfl, fun a h => (by cases h), Nat.le_refl _, .inl rfl⟩
  · refine ⟨some ⟨g, 0, none⟩, cap, rfl, fun h => (by cases h), fun a ha => (by cases ha; exact ⟨rfl, hB, lt_of_block hg⟩), hle, ?_⟩
    refine .inr ⟨g, 0, rfl, lt_of_block hg, fun i hi j u hu => ?_⟩
    have hj : j < F.sz := by rw [← F.len xs[i]]; exact (List.getElem?_eq_some_iff.1 hu).1
    have := h.cells (g := g) rfl (i * F.sz + j) u (by rw [F.vals_get xs i hi j hj]; exact hu)
    rw [Go.WideShapes.add_plain, ← Nat.add_assoc] at this
    exact this
theorem rows_keep {B n : Nat} {t : TypeId} {v : Value} {k : Nat} {vs : List Value} (h : w.ownsRow B t k v n vs) (hk : ∀ j, v.ownBlock = some j → w'.heap[j]? = w.heap[j]?) : w'.ownsRow B t k v n vs := by
  refine ⟨h.1, ?_⟩
  rcases h.2 with h | ⟨g, cap, cur, rfl, h1, hg, h2⟩
  · exact .inl h
  · exact .inr ⟨g, cap, cur, rfl, h1, (hk g rfl).trans hg, h2⟩
/-- A row and a block of another kind are two. -/
theorem rows_far {B n g k : Nat} {t : TypeId} {v : Value} {vs : List Value} {o : Obj} (h : w.ownsRow B t k v n vs) (hg : w.heap[g]? = some o) (ho : ∀ cs, o ≠ .cells cs t (0, 0)) : v.ownBlock ≠ some g := by
  intro e1
  rcases h.2 with ⟨rfl, _⟩ | ⟨j, cap, cur, rfl, _, hk, _⟩
  · simp [Value.ownBlock] at e1
  · simp [Value.ownBlock] at e1
    subst e1
    rw [hg] at hk
    exact ho _ (by simpa using hk)
/-- append of a slice (nil or not) to an owned row of such elements. -/
theorem wpList_append_rows {P : Program} (w : World) {ops : Array Oper} {rest : List Oper} {o : Oper} {a : Act} {Q : Exit → Act → World → Prop} (hgd : o.guard = none) (s x : Operand) (t : TypeId)
    (ho : o.op = .call { callee := .builtin .append, args := #[s, x], argTypes := #[t, t] })
    (base : Nat) (e : TypeId) (i : TypeInfo) (z : Value) (bytes : Nat) (ht : P.underlying t = some (.slice e)) (hi : P.info? e = some i) (hz : i.zero = some z)
    (hsize : i.size = F.sz) (hby : i.bytes = bytes) (hzs : z.cells.size = F.sz)
    (v : Value) (n : Nat) (ps : List α) (hs : a.eval s = v) (hown : w.ownsRow base e F.sz v n (F.vals ps))
    (ao : Option Addr) (m c : Nat) (qs : List α) (hx : a.eval x = .slice ao m c) (hnil : ao = none → c = 0) (hl : qs.length = m) (hnews : ElemsAt F w ao qs)
    (h63 : n + m ≤ maxLen) (hbytes : (n + m) * bytes ≤ 140737488355328) (hbase : base ≤ w.heap.size)
    (h : ∀ v' w', w'.ownsRow base e F.sz v' (n + m) (F.vals (ps ++ qs)) → w.grownBy w' v.ownBlock → (v'.ownBlock = v.ownBlock ∨ v'.ownBlock = some w.heap.size) → wpList P ops Q rest (a.put o.dst v') w') :
    wpList P ops Q (o :: rest) a w := by
  cases ao with
  | none =>
    have hn : qs = [] := by
      rcases hnews with h | ⟨b, off, h, _⟩
      · exact h
      · cases h
    subst hn
    have hm : m = 0 := by simpa using hl.symm
    have hc := hnil rfl
    subst hm hc
    exact wpList_append_own_none hgd s x t ho base e i F.sz ht hi v n _ hs hown hx (h v w (by simpa using hown) ⟨rfl, rfl, rfl, Nat.le_refl _, fun _ _ _ => rfl⟩ (.inl rfl))
  | some ad =>
    exact wpList_append_own_at w hgd s x t ho base e i z F.sz bytes ht hi hz hsize hby hzs F.pos v n (F.vals ps) hs hown ad m c (F.vals qs) hx (by rw [F.vals_length, hl]) (hnews.vals rfl) (F.vals_one qs) h63 hbytes hbase (fun v' w' a1 a2 _ a4 => h v' w' (by rw [F.vals_append]; exact a1) a2 a4)
end
end Go.Proofs.YtedjohkdfchocaaGreat.Cm

/-
  Layer 6, plainly: versions, their order, a sorted list of them; what is added, found, taken from a key on.
-/
namespace Go.Proofs.YtedjohkdfchocaaGreat.Mm
open Cm
set_option linter.unusedVariables false

/-- A version. -/
structure En where
  key : ByteArray
  seq : Int
  dead : Bool
  val : ByteArray
def En.zero : En := ⟨⟨#[]⟩, 0, false, ⟨#[]⟩⟩
def En.ok (e : En) : Prop := -9223372036854775808 ≤ e.seq ∧ e.seq ≤ 9223372036854775807
/-- Does text a stand ahead of text b? -/
def lt (a b : ByteArray) : Bool := Op.bytesLess a.toList b.toList
theorem toList_inj {a b : ByteArray} (h : a.toList = b.toList) : a = b := by
  have h1 : a.data.toList = b.data.toList := by rw [← ByteArray.toList_eq, ← ByteArray.toList_eq]; exact h
  cases a; cases b; simp_all
theorem beq_toList (a b : ByteArray) : (a.toList == b.toList) = decide (a = b) := by
  by_cases h : a = b
  · subst h; simp
  · rw [decide_eq_false h]
    simp only [beq_eq_false_iff_ne, ne_eq]
    exact fun e => h (toList_inj e)
theorem bytesLess_eq : ∀ (x y : List UInt8), Op.bytesLess x y = decide (x < y)
  | [], [] => by simp [Op.bytesLess]
  | _ :: _, [] => by simp [Op.bytesLess]
  | [], _ :: _ => by simp [Op.bytesLess]
  | a :: x, b :: y => by
    rw [Op.bytesLess, bytesLess_eq x y]
    simp only [List.cons_lt_cons_iff]
    by_cases h1 : a < b <;> by_cases h2 : a = b <;> by_cases h3 : x < y <;> simp [h1, h2, h3]
theorem lt_iff (a b : ByteArray) : lt a b = true ↔ a.toList < b.toList := by unfold lt; rw [bytesLess_eq]; simp
theorem lt_irrefl (a : ByteArray) : lt a a = false := by
  cases h : lt a a
  · rfl
  · exact absurd ((lt_iff a a).1 h) (List.lt_irrefl _)
theorem lt_trans {a b c : ByteArray} (h1 : lt a b = true) (h2 : lt b c = true) : lt a c = true :=
  (lt_iff a c).2 (List.lt_trans ((lt_iff a b).1 h1) ((lt_iff b c).1 h2))
theorem lt_tri {a b : ByteArray} (h1 : lt a b = false) (h2 : lt b a = false) : a = b := by
  apply toList_inj
  have e1 : ¬ a.toList < b.toList := fun h => by rw [(lt_iff a b).2 h] at h1; cases h1
  have e2 : ¬ b.toList < a.toList := fun h => by rw [(lt_iff b a).2 h] at h2; cases h2
  exact List.le_antisymm (List.not_lt.1 e2) (List.not_lt.1 e1)
theorem lt_asymm {a b : ByteArray} (h : lt a b = true) : lt b a = false := by
  cases h2 : lt b a
  · rfl
  · have := lt_trans h h2
    rw [lt_irrefl] at this; cases this

/-- Does the version stand ahead of where one of this key and number would? -/
def En.ahead (e : En) (k : ByteArray) (s : Int) : Bool := if e.key = k then decide (s < e.seq) else lt e.key k
def less (a b : En) : Bool := a.ahead b.key b.seq
theorem ahead_le {e f : En} {k : ByteArray} {s : Int} (h1 : less e f = true) (h2 : f.ahead k s = true) : e.ahead k s = true := by
  unfold less En.ahead at *
  by_cases a1 : e.key = f.key
  · rw [if_pos a1] at h1
    by_cases a2 : f.key = k
    · rw [if_pos a2] at h2
      rw [if_pos (a1.trans a2)]
      simp at h1 h2 ⊢; omega
    · rw [if_neg a2] at h2
      rw [if_neg (by rw [a1]; exact a2), a1]; exact h2
  · rw [if_neg a1] at h1
    by_cases a2 : f.key = k
    · rw [if_neg (by rw [← a2]; exact a1), ← a2]; exact h1
    · rw [if_neg a2] at h2
      have h3 := lt_trans h1 h2
      rw [if_neg (by rintro e1; rw [e1, lt_irrefl] at h3; cases h3)]
      exact h3
theorem less_trans {a b c : En} (h1 : less a b = true) (h2 : less b c = true) : less a c = true := ahead_le h1 h2
theorem less_irrefl (a : En) : less a a = false := by unfold less En.ahead; simp
/-- Neither ahead of the other: one key, one number. -/
theorem ahead_tri {e : En} {k : ByteArray} {s : Int} {f : En} (hk : f.key = k) (hs : f.seq = s) (h1 : e.ahead k s = false) (h2 : less f e = false) : e.key = k ∧ e.seq = s := by
  subst hk hs
  unfold less En.ahead at *
  by_cases a1 : e.key = f.key
  · rw [if_pos a1] at h1
    rw [if_pos a1.symm] at h2
    simp at h1 h2
    exact ⟨a1, by omega⟩
  · rw [if_neg a1] at h1
    rw [if_neg (fun h => a1 h.symm)] at h2
    exact absurd (lt_tri h1 h2) a1
theorem less_of_not {e x : En} (h1 : e.ahead x.key x.seq = false) (h2 : ¬ (e.key = x.key ∧ e.seq = x.seq)) : less x e = true := by
  cases h : less x e
  · exact absurd (ahead_tri rfl rfl h1 h) h2
  · rfl

def Sorted (vs : List En) : Prop := vs.Pairwise fun a b => less a b = true
def pre (vs : List En) (k : ByteArray) (s : Int) : List En := vs.takeWhile (·.ahead k s)
def post (vs : List En) (k : ByteArray) (s : Int) : List En := vs.dropWhile (·.ahead k s)
theorem pre_post (vs : List En) (k : ByteArray) (s : Int) : pre vs k s ++ post vs k s = vs := List.takeWhile_append_dropWhile
theorem pre_ahead {vs : List En} {k : ByteArray} {s : Int} : ∀ e ∈ pre vs k s, e.ahead k s = true := by
  induction vs with
  | nil => intro e he; simp [pre] at he
  | cons v vs ih =>
    intro e he
    unfold pre at he
    rw [List.takeWhile_cons] at he
    split at he
    · rcases List.mem_cons.1 he with rfl | he
      · assumption
      · exact ih e he
    · simp at he
theorem post_not {vs : List En} {k : ByteArray} {s : Int} (h : Sorted vs) : ∀ e ∈ post vs k s, e.ahead k s = false := by
  induction vs with
  | nil => intro e he; simp [post] at he
  | cons v vs ih =>
    intro e he
    unfold post at he
    rw [List.dropWhile_cons] at he
    unfold Sorted at h
    rw [List.pairwise_cons] at h
    split at he
    · exact ih h.2 e he
    · rename_i hv
      rcases List.mem_cons.1 he with rfl | he
      · simpa using hv
      · cases h3 : e.ahead k s
        · rfl
        · exact absurd (ahead_le (h.1 e he) h3) hv
theorem Sorted.append {a b : List En} (h : Sorted (a ++ b)) : Sorted a ∧ Sorted b ∧ ∀ x ∈ a, ∀ y ∈ b, less x y = true := List.pairwise_append.1 h

def clean (x : En) : En := if x.dead then { x with val := ⟨#[]⟩ } else x
theorem clean_key (x : En) : (clean x).key = x.key := by unfold clean; split <;> rfl
theorem clean_seq (x : En) : (clean x).seq = x.seq := by unfold clean; split <;> rfl
/-- A list but for its first, if that one has this key and number. -/
def without (k : ByteArray) (s : Int) : List En → List En
  | [] => []
  | p :: r => if p.key = k ∧ p.seq = s then r else p :: r
theorem without_cons (k : ByteArray) (s : Int) (p : En) (r : List En) : without k s (p :: r) = if p.key = k ∧ p.seq = s then r else p :: r := rfl
def addOne (vs : List En) (x : En) : List En := pre vs x.key x.seq ++ clean x :: without x.key x.seq (post vs x.key x.seq)
theorem without_sub {k : ByteArray} {s : Int} {l : List En} : (without k s l).Sublist l := by
  cases l with
  | nil => exact List.Sublist.refl _
  | cons p r =>
    rw [without_cons]
    split
    · exact List.sublist_cons_self _ _
    · exact List.Sublist.refl _
theorem without_less {x : En} {l : List En} (hs : Sorted l) (h : ∀ e ∈ l, e.ahead x.key x.seq = false) : ∀ e ∈ without x.key x.seq l, less x e = true := by
  cases l with
  | nil => intro e he; simp [without] at he
  | cons p r =>
    unfold Sorted at hs
    rw [List.pairwise_cons] at hs
    intro e he
    rw [without_cons] at he
    split at he
    · rename_i hp
      have := hs.1 e he
      unfold less at this ⊢
      unfold En.ahead at this ⊢
      rw [hp.1, hp.2] at this
      exact this
    · rename_i hp
      have hxp : less x p = true := less_of_not (h p List.mem_cons_self) hp
      rcases List.mem_cons.1 he with rfl | he
      · exact hxp
      · exact less_trans hxp (hs.1 e he)
theorem less_clean_l (x e : En) : less (clean x) e = less x e := by unfold less En.ahead; rw [clean_key, clean_seq]
theorem less_clean_r (x e : En) : less e (clean x) = less e x := by unfold less; rw [clean_key, clean_seq]
theorem Sorted.add {vs : List En} (h : Sorted vs) (x : En) : Sorted (addOne vs x) := by
  have h0 := h
  rw [← pre_post vs x.key x.seq] at h
  obtain ⟨h1, h2, h3⟩ := h.append
  have hn := post_not (k := x.key) (s := x.seq) h0
  unfold addOne Sorted
  rw [List.pairwise_append, List.pairwise_cons]
  refine ⟨h1, ⟨fun e he => by rw [less_clean_l]; exact without_less h2 hn e he, List.Pairwise.sublist without_sub h2⟩, fun a ha b hb => ?_⟩
  rcases List.mem_cons.1 hb with rfl | hb
  · rw [less_clean_r]; exact pre_ahead a ha
  · exact h3 a ha b (without_sub.subset hb)
def addAll (vs : List En) (xs : List En) : List En := xs.foldl addOne vs
theorem addAll_snoc (vs xs : List En) (x : En) : addAll vs (xs ++ [x]) = addOne (addAll vs xs) x := by unfold addAll; rw [List.foldl_append]; rfl
theorem Sorted.addAll {vs : List En} (h : Sorted vs) (xs : List En) : Sorted (addAll vs xs) := by
  induction xs generalizing vs with
  | nil => exact h
  | cons x xs ih => exact ih (h.add x)
theorem sorted_nil : Sorted [] := List.Pairwise.nil

def sizeE (e : En) : Nat := e.key.size + e.val.size
def bytesE (vs : List En) : Nat := (vs.map sizeE).sum
theorem bytesE_append (a b : List En) : bytesE (a ++ b) = bytesE a + bytesE b := by unfold bytesE; rw [List.map_append, List.sum_append]
theorem bytesE_cons (a : En) (b : List En) : bytesE (a :: b) = sizeE a + bytesE b := rfl
theorem sizeE_clean (x : En) : sizeE (clean x) ≤ sizeE x := by
  unfold clean sizeE
  split
  · show x.key.size + 0 ≤ _; omega
  · exact Nat.le_refl _
theorem without_len {k : ByteArray} {s : Int} {l : List En} : (without k s l).length ≤ l.length ∧ bytesE (without k s l) ≤ bytesE l := by
  cases l with
  | nil => exact ⟨Nat.le_refl _, Nat.le_refl _⟩
  | cons p r =>
    rw [without_cons]
    split
    · rw [bytesE_cons]; exact ⟨by simp, by omega⟩
    · exact ⟨Nat.le_refl _, Nat.le_refl _⟩
theorem add_len (vs : List En) (x : En) : (addOne vs x).length ≤ vs.length + 1 ∧ bytesE (addOne vs x) ≤ bytesE vs + sizeE x := by
  have h := pre_post vs x.key x.seq
  have hw := without_len (k := x.key) (s := x.seq) (l := post vs x.key x.seq)
  have h1 : vs.length = (pre vs x.key x.seq).length + (post vs x.key x.seq).length := by rw [← List.length_append, h]
  have h2 : bytesE vs = bytesE (pre vs x.key x.seq) + bytesE (post vs x.key x.seq) := by rw [← bytesE_append, h]
  unfold addOne
  rw [bytesE_append, bytesE_cons, List.length_append, List.length_cons]
  have := sizeE_clean x
  omega
theorem addAll_len (vs xs : List En) : (addAll vs xs).length ≤ vs.length + xs.length ∧ bytesE (addAll vs xs) ≤ bytesE vs + bytesE xs := by
  induction xs generalizing vs with
  | nil => exact ⟨by simp [addAll], by simp [addAll, bytesE]⟩
  | cons x xs ih =>
    have h := ih (addOne vs x)
    have h2 := add_len vs x
    rw [bytesE_cons, List.length_cons]
    show (addAll (addOne vs x) xs).length ≤ _ ∧ bytesE (addAll (addOne vs x) xs) ≤ _
    omega
def AllOk (vs : List En) : Prop := ∀ e ∈ vs, e.ok
theorem clean_ok {x : En} (h : x.ok) : (clean x).ok := by unfold En.ok; rw [clean_seq]; exact h
theorem AllOk.add {vs : List En} (h : AllOk vs) {x : En} (hx : x.ok) : AllOk (addOne vs x) := by
  intro e he
  unfold addOne at he
  rcases List.mem_append.1 he with he | he
  · exact h e ((List.takeWhile_sublist _).subset he)
  · rcases List.mem_cons.1 he with rfl | he
    · exact clean_ok hx
    · exact h e ((List.dropWhile_sublist _).subset (without_sub.subset he))
theorem AllOk.addAll {vs : List En} (h : AllOk vs) {xs : List En} (hx : AllOk xs) : AllOk (addAll vs xs) := by
  induction xs generalizing vs with
  | nil => exact h
  | cons x xs ih => exact ih (h.add (hx x List.mem_cons_self)) fun e he => hx e (List.mem_cons_of_mem _ he)

/-- The first of that key that isn't too new. -/
def getE (vs : List En) (k : ByteArray) (s : Int) : Option En := vs.find? fun e => decide (e.key = k) && decide (e.seq ≤ s)
def getP (vs : List En) (k : ByteArray) (s : Int) : Option En :=
  match post vs k s with
  | [] => none
  | p :: _ => if p.key = k then some p else none
theorem ahead_no_get {e : En} {k : ByteArray} {s : Int} (h : e.ahead k s = true) : (decide (e.key = k) && decide (e.seq ≤ s)) = false := by
  unfold En.ahead at h
  split at h
  · rename_i hk
    simp at h
    simp [hk]; omega
  · rename_i hk
    simp [hk]
theorem getP_eq {vs : List En} (h : Sorted vs) (k : ByteArray) (s : Int) : getP vs k s = getE vs k s := by
  induction vs with
  | nil => rfl
  | cons v vs ih =>
    have h' := h
    unfold Sorted at h
    rw [List.pairwise_cons] at h
    unfold getE getP post
    rw [List.find?_cons, List.dropWhile_cons]
    cases hv : v.ahead k s
    · simp only [Bool.false_eq_true, if_false]
      by_cases hk : v.key = k
      · have : v.seq ≤ s := by unfold En.ahead at hv; rw [if_pos hk] at hv; simpa using hv
        simp [hk, this]
      · have hl : lt v.key k = false := by unfold En.ahead at hv; rw [if_neg hk] at hv; exact hv
        rw [if_neg hk]
        simp only [hk, decide_false, Bool.false_and]
        refine (List.find?_eq_none.2 fun e he => ?_).symm
        simp only [Bool.and_eq_true, decide_eq_true_eq, not_and]
        intro hek
        have := h.1 e he
        unfold less En.ahead at this
        rw [hek, if_neg hk, hl] at this
        cases this
    · rw [ahead_no_get hv]
      exact ih h.2
def fromE (vs : List En) (k : ByteArray) : List En := vs.dropWhile fun e => lt e.key k
theorem ahead_max {e : En} (h : e.ok) (k : ByteArray) : e.ahead k 9223372036854775807 = lt e.key k := by
  unfold En.ahead
  split
  · rename_i hk
    rw [hk, lt_irrefl]
    have := h.2
    simp; omega
  · rfl
theorem post_max {vs : List En} (h : AllOk vs) (k : ByteArray) : post vs k 9223372036854775807 = fromE vs k := by
  induction vs with
  | nil => rfl
  | cons v vs ih =>
    unfold post fromE
    rw [List.dropWhile_cons, List.dropWhile_cons, ahead_max (h v List.mem_cons_self)]
    split
    · exact ih fun e he => h e (List.mem_cons_of_mem _ he)
    · rfl

/-! ### Sorted lists with the same members -/
theorem sorted_ext {a b : List En} (ha : Sorted a) (hb : Sorted b) (h : ∀ e, e ∈ a ↔ e ∈ b) : a = b := by
  induction a generalizing b with
  | nil =>
    cases b with
    | nil => rfl
    | cons y b => exact absurd ((h y).2 List.mem_cons_self) (by simp)
  | cons x a ih =>
    cases b with
    | nil => exact absurd ((h x).1 List.mem_cons_self) (by simp)
    | cons y b =>
      unfold Sorted at ha hb
      rw [List.pairwise_cons] at ha hb
      have hxy : x = y := by
        rcases List.mem_cons.1 ((h x).1 List.mem_cons_self) with e | e
        · exact e
        · rcases List.mem_cons.1 ((h y).2 List.mem_cons_self) with e2 | e2
          · exact e2.symm
          · have h1 := less_trans (hb.1 x e) (ha.1 y e2)
            rw [less_irrefl] at h1; cases h1
      subst hxy
      rw [ih ha.2 hb.2 fun e => ?_]
      constructor
      · intro he
        rcases List.mem_cons.1 ((h e).1 (List.mem_cons_of_mem _ he)) with rfl | e2
        · have := ha.1 e he; rw [less_irrefl] at this; cases this
        · exact e2
      · intro he
        rcases List.mem_cons.1 ((h e).2 (List.mem_cons_of_mem _ he)) with rfl | e2
        · have := hb.1 e he; rw [less_irrefl] at this; cases this
        · exact e2

/-! ### In memory -/
def enShape : Shape En := ⟨4, fun e => [.string e.key, .int .i64 e.seq, .bool e.dead, .string e.val], by decide, fun _ => rfl, fun a u hu => by simp at hu; rcases hu with rfl | rfl | rfl | rfl <;> rfl⟩
def env (e : En) : Value := .agg #[.string e.key, .int .i64 e.seq, .bool e.dead, .string e.val]
end Go.Proofs.YtedjohkdfchocaaGreat.Mm

/-
  Layer 8, plainly: a block's bytes as a function of its versions; what reads a piece of it; no block is a beginning of another.
-/
namespace Go.Proofs.YtedjohkdfchocaaGreat.Bk
open Mm
open Pk (enc enc_len dnum dnum_enc dnum_some fold unfold unfold_fold fold_unfold fold_lt text dtext)
set_option linter.unusedVariables false

def bs (b : ByteArray) : List UInt8 := b.data.toList
theorem bs_inj {a b : ByteArray} (h : bs a = bs b) : a = b := by
  unfold bs at h; cases a; cases b; simp_all
theorem bs_len (b : ByteArray) : (bs b).length = b.size := by unfold bs; rw [Lib.size_eq]
theorem bs_mk (l : List UInt8) : bs ⟨l.toArray⟩ = l := by simp [bs]
theorem bs_toList (b : ByteArray) : b.toList = bs b := by unfold bs; rw [ByteArray.toList_eq]

/-! ### What two texts share -/
def share : List UInt8 → List UInt8 → Nat
  | a :: x, b :: y => if a = b then share x y + 1 else 0
  | _, _ => 0
theorem share_le : ∀ (x y : List UInt8), share x y ≤ x.length ∧ share x y ≤ y.length
  | [], y => by simp [share]
  | a :: x, [] => by simp [share]
  | a :: x, b :: y => by
    have := share_le x y
    simp only [share]
    split <;> simp <;> omega
theorem share_take : ∀ (x y : List UInt8), x.take (share x y) = y.take (share x y)
  | [], y => by simp [share]
  | a :: x, [] => by simp [share]
  | a :: x, b :: y => by
    simp only [share]
    split
    · rename_i h; subst h; simp [share_take x y]
    · simp
theorem share_is : ∀ {x y : List UInt8} {k : Nat}, k ≤ x.length → k ≤ y.length → (∀ j, j < k → x[j]? = y[j]?) → (k = x.length ∨ k = y.length ∨ x[k]? ≠ y[k]?) → share x y = k
  | [], y, k, h1, _, _, _ => by simp at h1; subst h1; simp [share]
  | a :: x, [], k, _, h2, _, _ => by simp at h2; subst h2; simp [share]
  | a :: x, b :: y, 0, _, _, _, hs => by
    simp at hs
    simp [share, hs]
  | a :: x, b :: y, k + 1, h1, h2, h, hs => by
    have h0 := h 0 (by omega)
    simp at h0
    have := share_is (x := x) (y := y) (k := k) (by simpa using h1) (by simpa using h2) (fun j hj => by simpa using h (j + 1) (by omega)) (by simpa using hs)
    simp [share, h0, this]
theorem share_nil (y : List UInt8) : share [] y = 0 := rfl

/-! ### A block -/
def mark (d : Bool) (v : List UInt8) : List UInt8 := if d then [1] else 0 :: text v
/-- A version as it stands in a block: how much of the key before it shares, the rest of its key. -/
structure Pc where
  share : Nat
  rest : ByteArray
  seq : Int
  dead : Bool
  val : ByteArray
def Pc.zero : Pc := ⟨0, ⟨#[]⟩, 0, false, ⟨#[]⟩⟩
def Pc.bytes (p : Pc) : List UInt8 := enc p.share ++ (text (bs p.rest) ++ (enc (fold p.seq) ++ mark p.dead (bs p.val)))
structure Pc.Ok (p : Pc) : Prop where
  lo : -9223372036854775808 ≤ p.seq
  hi : p.seq ≤ 9223372036854775807
  share : p.share < 9223372036854775808
  rest : p.rest.size < 9223372036854775808
  val : p.val.size < 9223372036854775808
  dead : p.dead = true → p.val = ⟨#[]⟩
def pc (last : List UInt8) (e : En) : Pc := ⟨share last (bs e.key), ⟨((bs e.key).drop (share last (bs e.key))).toArray⟩, e.seq, e.dead, e.val⟩
/-- The version that a piece stands for. -/
def glue (last : List UInt8) (p : Pc) : En := ⟨⟨(last.take p.share ++ bs p.rest).toArray⟩, p.seq, p.dead, p.val⟩
theorem glue_pc (last : List UInt8) (e : En) : glue last (pc last e) = e := by
  unfold glue pc
  simp only [bs_mk]
  have : last.take (share last (bs e.key)) ++ (bs e.key).drop (share last (bs e.key)) = bs e.key := by rw [share_take, List.take_append_drop]
  rw [this]
  cases e with
  | mk k s d v =>
    congr 1
def piece (last : List UInt8) (e : En) : List UInt8 := (pc last e).bytes
def body : List UInt8 → List En → List UInt8
  | _, [] => []
  | last, e :: r => piece last e ++ body (bs e.key) r
def lastKey : List UInt8 → List En → List UInt8
  | last, [] => last
  | _, e :: r => lastKey (bs e.key) r
def block (es : List En) : List UInt8 := enc es.length ++ body [] es
def pcs : List UInt8 → List En → List Pc
  | _, [] => []
  | last, e :: r => pc last e :: pcs (bs e.key) r
theorem pcs_len (last : List UInt8) (es : List En) : (pcs last es).length = es.length := by
  induction es generalizing last with
  | nil => rfl
  | cons e r ih => simp [pcs, ih]
theorem body_append (last : List UInt8) (a b : List En) : body last (a ++ b) = body last a ++ body (lastKey last a) b := by
  induction a generalizing last with
  | nil => rfl
  | cons e r ih => simp only [List.cons_append, body, lastKey, ih, List.append_assoc]
theorem body_snoc (last : List UInt8) (a : List En) (e : En) : body last (a ++ [e]) = body last a ++ piece (lastKey last a) e := by
  rw [body_append]; simp [body]
theorem lastKey_snoc (last : List UInt8) (a : List En) (e : En) : lastKey last (a ++ [e]) = bs e.key := by
  induction a generalizing last with
  | nil => rfl
  | cons x r ih => simp only [List.cons_append, lastKey, ih]
theorem pcs_snoc (last : List UInt8) (a : List En) (e : En) : pcs last (a ++ [e]) = pcs last a ++ [pc (lastKey last a) e] := by
  induction a generalizing last with
  | nil => rfl
  | cons x r ih => simp only [List.cons_append, pcs, lastKey, ih]
theorem lastKey_last {es : List En} (h : 0 < es.length) (last : List UInt8) : lastKey last es = bs (es.getD (es.length - 1) En.zero).key := by
  induction es generalizing last with
  | nil => simp at h
  | cons e r ih =>
    cases r with
    | nil => simp [lastKey]
    | cons x r =>
      have := ih (by simp) (bs e.key)
      simp only [lastKey, List.length_cons] at this ⊢
      rw [this]
      simp

/-! ### The order -/
theorem getD_front {a b : List En} {i : Nat} (h : i < a.length) : (a ++ b).getD i En.zero = a.getD i En.zero := by simp [List.getElem?_append_left h]
def sound (e : En) : Bool := !e.dead || decide (e.val.size = 0)
theorem sound_iff (e : En) : sound e = true ↔ (e.dead = true → e.val = ⟨#[]⟩) := by
  unfold sound
  have hv : e.val.size = 0 ↔ e.val = ⟨#[]⟩ := by
    constructor
    · intro h
      apply bs_inj
      have := bs_len e.val
      rw [h] at this
      rw [List.eq_nil_of_length_eq_zero this]; rfl
    · intro h; rw [h]; rfl
  cases e.dead <;> simp [hv]
def rises : List En → Bool
  | a :: b :: r => less a b && rises (b :: r)
  | _ => true
theorem rises_iff : ∀ (es : List En), rises es = true ↔ ∀ k, k + 1 < es.length → less (es.getD k En.zero) (es.getD (k + 1) En.zero) = true
  | [] => by simp [rises]
  | [a] => by simp [rises]
  | a :: b :: r => by
    simp only [rises, Bool.and_eq_true, rises_iff (b :: r)]
    constructor
    · rintro ⟨h1, h2⟩ k hk
      cases k with
      | zero => simpa using h1
      | succ k => simpa using h2 k (by simpa using hk)
    · intro h
      exact ⟨by simpa using h 0 (by simp), fun k hk => by simpa using h (k + 1) (by simpa using hk)⟩
def right (es : List En) : Bool := es.all sound && rises es
theorem all_iff (es : List En) : es.all sound = true ↔ ∀ k, k < es.length → sound (es.getD k En.zero) = true := by
  rw [List.all_eq_true]
  constructor
  · intro h k hk
    rw [Cm.getD_lt _ _ _ hk]
    exact h _ (List.getElem_mem hk)
  · intro h e he
    obtain ⟨k, hk, rfl⟩ := List.mem_iff_getElem.1 he
    have := h k hk
    rwa [Cm.getD_lt _ _ _ hk] at this
/-- The versions up to the k-th are right. -/
def RightTo (es : List En) (k : Nat) : Prop := ∀ i, i < k → sound (es.getD i En.zero) = true ∧ (0 < i → less (es.getD (i - 1) En.zero) (es.getD i En.zero) = true)
theorem right_iff (es : List En) : right es = true ↔ RightTo es es.length := by
  unfold right RightTo
  rw [Bool.and_eq_true, all_iff, rises_iff]
  constructor
  · rintro ⟨h1, h2⟩ i hi
    refine ⟨h1 i hi, fun h0 => ?_⟩
    have := h2 (i - 1) (by omega)
    rwa [show i - 1 + 1 = i by omega] at this
  · intro h
    exact ⟨fun k hk => (h k hk).1, fun k hk => by simpa using (h (k + 1) hk).2 (by omega)⟩
theorem RightTo.next {es : List En} {k : Nat} (h : RightTo es k) (h1 : sound (es.getD k En.zero) = true) (h2 : 0 < k → less (es.getD (k - 1) En.zero) (es.getD k En.zero) = true) : RightTo es (k + 1) := by
  intro i hi
  rcases Nat.lt_or_ge i k with h3 | h3
  · exact h i h3
  · obtain rfl : i = k := by omega
    exact ⟨h1, h2⟩
theorem not_right {es : List En} {k : Nat} (hk : k < es.length) (h : ¬ (sound (es.getD k En.zero) = true ∧ (0 < k → less (es.getD (k - 1) En.zero) (es.getD k En.zero) = true))) : right es = false := by
  cases hr : right es
  · rfl
  · exact absurd ((right_iff es).1 hr k hk) h
theorem right_append {a b : List En} (h : right (a ++ b) = true) : right a = true := by
  rw [right_iff] at h ⊢
  intro i hi
  have := h i (by simp; omega)
  rw [getD_front hi] at this
  refine ⟨this.1, fun h0 => ?_⟩
  have h2 := this.2 h0
  rwa [getD_front (by omega)] at h2
theorem right_snoc {a : List En} {e : En} (h : right a = true) (h1 : sound e = true) (h2 : 0 < a.length → less (a.getD (a.length - 1) En.zero) e = true) : right (a ++ [e]) = true := by
  rw [right_iff] at h ⊢
  intro i hi
  rw [List.length_append, List.length_singleton] at hi
  rcases Nat.lt_or_ge i a.length with h3 | h3
  · have := h i h3
    rw [getD_front h3]
    refine ⟨this.1, fun h0 => ?_⟩
    rw [getD_front (by omega)]
    exact this.2 h0
  · obtain rfl : i = a.length := by omega
    have e1 : (a ++ [e]).getD a.length En.zero = e := by simp
    rw [e1]
    refine ⟨h1, fun h0 => ?_⟩
    rw [getD_front (by omega)]
    exact h2 h0

/-! ### No bytes are those of two -/
theorem enc_free {a b : Nat} {t u : List UInt8} (ha : a < 18446744073709551616) (hb : b < 18446744073709551616) (h : enc a ++ t = enc b ++ u) : a = b ∧ t = u := by
  have h1 := dnum_enc a t ha
  rw [h, dnum_enc b u hb] at h1
  simp at h1
  obtain ⟨rfl, _⟩ := h1
  exact ⟨rfl, List.append_cancel_left h⟩
theorem text_free {x y t u : List UInt8} (hx : x.length < 18446744073709551616) (hy : y.length < 18446744073709551616) (h : text x ++ t = text y ++ u) : x = y ∧ t = u := by
  unfold text at h
  rw [List.append_assoc, List.append_assoc] at h
  obtain ⟨h1, h2⟩ := enc_free hx hy h
  exact List.append_inj h2 h1
theorem mark_free {d d' : Bool} {v v' t u : List UInt8} (hv : v.length < 18446744073709551616) (hv' : v'.length < 18446744073709551616) (hd : d = true → v = []) (hd' : d' = true → v' = []) (h : mark d v ++ t = mark d' v' ++ u) : d = d' ∧ v = v' ∧ t = u := by
  unfold mark at h
  cases d <;> cases d' <;> simp at h
  · obtain ⟨h1, h2⟩ := text_free hv hv' h
    exact ⟨rfl, h1, h2⟩
  · exact ⟨rfl, by rw [hd rfl, hd' rfl], h⟩
theorem Pc.free {p q : Pc} {t u : List UInt8} (hp : p.Ok) (hq : q.Ok) (h : p.bytes ++ t = q.bytes ++ u) : p = q ∧ t = u := by
  unfold Pc.bytes at h
  simp only [List.append_assoc] at h
  have hp3 := hp.share
  have hp4 := hp.rest
  have hp5 := hp.val
  have hq3 := hq.share
  have hq4 := hq.rest
  have hq5 := hq.val
  obtain ⟨h1, h⟩ := enc_free (by omega) (by omega) h
  obtain ⟨h2, h⟩ := text_free (by rw [bs_len]; omega) (by rw [bs_len]; omega) h
  obtain ⟨h3, h⟩ := enc_free (fold_lt hp.lo hp.hi) (fold_lt hq.lo hq.hi) h
  obtain ⟨h4, h5, h⟩ := mark_free (by rw [bs_len]; omega) (by rw [bs_len]; omega) (fun e => by rw [hp.dead e]; rfl) (fun e => by rw [hq.dead e]; rfl) h
  have h3' : p.seq = q.seq := by rw [← unfold_fold p.seq, h3, unfold_fold]
  refine ⟨?_, h⟩
  cases p; cases q
  simp only at h1 h2 h3' h4 h5
  simp only [Pc.mk.injEq]
  exact ⟨h1, bs_inj h2, h3', h4, bs_inj h5⟩

/-- A version of a right list, of a size that memory holds. -/
structure Fit (e : En) : Prop where
  ok : e.ok
  key : e.key.size < 9223372036854775808
  val : e.val.size < 9223372036854775808
  sound : sound e = true
theorem pc_ok {last : List UInt8} {e : En} (h : Fit e) : (pc last e).Ok := by
  have h1 := share_le last (bs e.key)
  rw [bs_len] at h1
  have h2 := h.key
  refine ⟨h.ok.1, h.ok.2, ?_, ?_, h.val, (sound_iff e).1 h.sound⟩
  · show share last (bs e.key) < _; omega
  · rw [← bs_len]
    show (bs ⟨((bs e.key).drop (share last (bs e.key))).toArray⟩).length < _
    rw [bs_mk, List.length_drop, bs_len]; omega
theorem piece_free {last : List UInt8} {e e' : En} {t u : List UInt8} (h : Fit e) (h' : Fit e') (he : piece last e ++ t = piece last e' ++ u) : e = e' ∧ t = u := by
  obtain ⟨h1, h2⟩ := Pc.free (pc_ok h) (pc_ok h') he
  exact ⟨by rw [← glue_pc last e, h1, glue_pc], h2⟩
theorem body_free {last : List UInt8} {a b : List En} {t u : List UInt8} (ha : ∀ e ∈ a, Fit e) (hb : ∀ e ∈ b, Fit e) (hl : a.length = b.length) (h : body last a ++ t = body last b ++ u) : a = b ∧ t = u := by
  induction a generalizing b last with
  | nil =>
    cases b with
    | nil => exact ⟨rfl, by simpa [body] using h⟩
    | cons x b => simp at hl
  | cons e a ih =>
    cases b with
    | nil => simp at hl
    | cons x b =>
      simp only [body, List.append_assoc] at h
      obtain ⟨rfl, h2⟩ := piece_free (ha e (by simp)) (hb x (by simp)) h
      obtain ⟨rfl, h3⟩ := ih (fun y hy => ha y (by simp [hy])) (fun y hy => hb y (by simp [hy])) (by simpa using hl) h2
      exact ⟨rfl, h3⟩

/-- The text is the versions' block. -/
structure IsBlock (l : List UInt8) (es : List En) : Prop where
  right : right es = true
  fit : ∀ e ∈ es, Fit e
  few : es.length < 9223372036854775808
  eq : l = block es
theorem block_free {l m : List UInt8} {a b : List En} {t u : List UInt8} (ha : IsBlock l a) (hb : IsBlock m b) (h : l ++ t = m ++ u) : a = b ∧ t = u := by
  have h1 := ha.few
  have h2 := hb.few
  rw [ha.eq, hb.eq] at h
  unfold block at h
  rw [List.append_assoc, List.append_assoc] at h
  obtain ⟨h3, h4⟩ := enc_free (by omega) (by omega) h
  exact body_free ha.fit hb.fit h3 h4
theorem IsBlock.unique {l : List UInt8} {a b : List En} (ha : IsBlock l a) (hb : IsBlock l b) : a = b := (block_free (t := []) (u := []) ha hb rfl).1
theorem IsBlock.number {l : List UInt8} {es : List En} (h : IsBlock l es) : dnum l = some (es.length, (enc es.length).length) := by
  have := h.few
  rw [h.eq]; exact dnum_enc _ _ (by omega)

/-- Whatever versions have this block begin with these, and what is left is the rest of them. -/
def Led (l : List UInt8) (n : Nat) (out : List En) (rest : List UInt8) : Prop :=
  ∀ es, IsBlock l es → es.length = n ∧ ∃ more, es = out ++ more ∧ rest = body (lastKey [] out) more
theorem Led.start {l : List UInt8} {n k : Nat} (h : dnum l = some (n, k)) : Led l n [] (l.drop k) := by
  intro es hes
  have := hes.number
  rw [h] at this
  simp at this
  obtain ⟨rfl, rfl⟩ := this
  refine ⟨rfl, es, rfl, ?_⟩
  rw [hes.eq]
  unfold block
  rw [List.drop_left]; rfl
theorem Led.none {l : List UInt8} (h : dnum l = none) (es : List En) : ¬ IsBlock l es := fun hes => by
  rw [hes.number] at h; cases h
/-- There is one more, if there are versions at all. -/
theorem Led.more {l : List UInt8} {n : Nat} {out : List En} {rest : List UInt8} (h : Led l n out rest) (hn : out.length < n) {es : List En} (hes : IsBlock l es) :
    ∃ e more, es = out ++ e :: more ∧ rest = (pc (lastKey [] out) e).bytes ++ body (bs e.key) more ∧ Fit e ∧ (0 < out.length → less (out.getD (out.length - 1) En.zero) e = true) := by
  obtain ⟨h1, more, rfl, h3⟩ := h es hes
  cases more with
  | nil => simp at h1; omega
  | cons e more =>
    refine ⟨e, more, rfl, h3, hes.fit e (by simp), fun h0 => ?_⟩
    have := ((right_iff _).1 hes.right out.length (by simp)).2 h0
    rw [getD_front (by omega)] at this
    have e1 : (out ++ e :: more).getD out.length En.zero = e := by simp
    rwa [e1] at this
theorem Led.next {l : List UInt8} {n : Nat} {out : List En} {t : List UInt8} {p : Pc} (h : Led l n out (p.bytes ++ t)) (hn : out.length < n) (hp : p.Ok) : Led l n (out ++ [glue (lastKey [] out) p]) t := by
  intro es hes
  obtain ⟨e, more, rfl, h3, h4, _⟩ := h.more hn hes
  obtain ⟨rfl, rfl⟩ := Pc.free hp (pc_ok h4) h3
  refine ⟨(h _ hes).1, more, ?_, ?_⟩
  · rw [glue_pc]; simp
  · rw [lastKey_snoc, glue_pc]
theorem Led.stop {l : List UInt8} {n : Nat} {out : List En} {rest : List UInt8} (h : Led l n out rest) (hn : out.length = n) {es : List En} (hes : IsBlock l es) : es = out ∧ rest = [] := by
  obtain ⟨h1, more, rfl, h3⟩ := h es hes
  have : more = [] := by
    rw [List.length_append] at h1
    exact List.eq_nil_of_length_eq_zero (by omega)
  subst this
  exact ⟨by simp, h3⟩

/-! ### A piece that fits behind the key before -/
/-- As the program asks it: of the key before and the piece. -/
def fitsB (key : List UInt8) (seq : Int) (p : Pc) : Bool :=
  match bs p.rest, key.drop p.share with
  | [], [] => decide (p.seq < seq)
  | [], _ :: _ => false
  | _ :: _, [] => true
  | c :: _, d :: _ => decide (d < c)
theorem lt_bs (a b : ByteArray) : lt a b = true ↔ bs a < bs b := by rw [lt_iff, bs_toList, bs_toList]
theorem share_pre (x y z : List UInt8) : share (x ++ y) (x ++ z) = x.length + share y z := by
  induction x with
  | nil => simp
  | cons c x ih => simp [share, ih]; omega
theorem lt_pre (x y z : List UInt8) : x ++ y < x ++ z ↔ y < z := by
  induction x with
  | nil => simp
  | cons c x ih => simp [List.cons_append, ih]
theorem fits_iff {e : En} {p : Pc} (hs : p.share ≤ (bs e.key).length) :
    fitsB (bs e.key) e.seq p = true ↔ (pc (bs e.key) (glue (bs e.key) p) = p ∧ less e (glue (bs e.key) p) = true) := by
  obtain ⟨A, hA⟩ : ∃ A, A = (bs e.key).take p.share := ⟨_, rfl⟩
  obtain ⟨O, hO⟩ : ∃ O, O = (bs e.key).drop p.share := ⟨_, rfl⟩
  have hsplit : bs e.key = A ++ O := by rw [hA, hO, List.take_append_drop]
  have htl : A.length = p.share := by rw [hA]; simp; omega
  have hk : bs (glue (bs e.key) p).key = A ++ bs p.rest := by unfold glue; rw [bs_mk, hA]
  have hpc : pc (bs e.key) (glue (bs e.key) p) = p ↔ share O (bs p.rest) = 0 := by
    have hsh : share (bs e.key) (bs (glue (bs e.key) p).key) = p.share + share O (bs p.rest) := by rw [hk, hsplit, share_pre, htl]
    constructor
    · intro h
      have : share (bs e.key) (bs (glue (bs e.key) p).key) = p.share := congrArg Pc.share h
      omega
    · intro h
      rw [h, Nat.add_zero] at hsh
      have hd : (A ++ bs p.rest).drop p.share = bs p.rest := by rw [← htl, List.drop_left]
      unfold pc
      rw [hsh, hk, hd]
      cases p
      unfold glue
      simp only [Pc.mk.injEq, true_and, and_true]
      apply bs_inj; rw [bs_mk]
  have heq : e.key = (glue (bs e.key) p).key ↔ O = bs p.rest := by
    constructor
    · intro h
      have h2 := congrArg bs h
      rw [hk, hsplit] at h2
      exact List.append_cancel_left h2
    · intro h
      apply bs_inj
      rw [hk, hsplit, h]
  have hlt : lt e.key (glue (bs e.key) p).key = true ↔ O < bs p.rest := by rw [lt_bs, hk, hsplit, lt_pre]
  have hles : less e (glue (bs e.key) p) = true ↔ (O = bs p.rest ∧ p.seq < e.seq) ∨ (O ≠ bs p.rest ∧ O < bs p.rest) := by
    have : less e (glue (bs e.key) p) = if e.key = (glue (bs e.key) p).key then decide (p.seq < e.seq) else lt e.key (glue (bs e.key) p).key := rfl
    rw [this]
    by_cases h : e.key = (glue (bs e.key) p).key
    · rw [if_pos h]
      simp [heq.1 h]
    · rw [if_neg h, hlt]
      have h2 : ¬ O = bs p.rest := fun q => h (heq.2 q)
      simp [h2]
  rw [hpc, hles]
  unfold fitsB
  rw [← hO]
  cases hR : bs p.rest with
  | nil =>
    cases O with
    | nil => simp [share]
    | cons d O => simp
  | cons c R =>
    cases O with
    | nil => simp [share]
    | cons d O =>
      simp only [decide_eq_true_eq, share, List.cons_lt_cons_iff]
      constructor
      · intro h
        have hne : ¬ d = c := fun q => by subst q; exact absurd h (UInt8.lt_irrefl _)
        exact ⟨by rw [if_neg hne], .inr ⟨fun q => by simp at q; exact hne q.1, .inl h⟩⟩
      · rintro ⟨h1, h2⟩
        have hne : ¬ d = c := fun q => by rw [if_pos q] at h1; omega
        rcases h2 with ⟨h2, _⟩ | ⟨_, h2 | h2⟩
        · simp at h2; exact absurd h2.1 hne
        · exact h2
        · exact absurd h2.1 hne

/-! ### How many bytes -/
theorem text_len (v : List UInt8) : (text v).length ≤ v.length + 10 ∧ 1 ≤ (text v).length := by
  have := enc_len v.length
  unfold text
  rw [List.length_append]; omega
theorem mark_len (d : Bool) (v : List UInt8) : (mark d v).length ≤ v.length + 11 ∧ 1 ≤ (mark d v).length := by
  have := text_len v
  unfold mark
  split <;> simp; omega
theorem Pc.len (p : Pc) : p.bytes.length ≤ p.rest.size + p.val.size + 41 ∧ 4 + p.rest.size ≤ p.bytes.length + 1 ∧ 3 ≤ p.bytes.length := by
  have h1 := enc_len p.share
  have h2 := text_len (bs p.rest)
  have h3 := enc_len (fold p.seq)
  have h4 := mark_len p.dead (bs p.val)
  have h5 : (text (bs p.rest)).length = (enc (bs p.rest).length).length + (bs p.rest).length := by unfold text; rw [List.length_append]
  have h6 := enc_len (bs p.rest).length
  rw [bs_len] at h2 h4 h5 h6
  unfold Pc.bytes
  simp only [List.length_append]
  omega
theorem pc_len (last : List UInt8) (e : En) : (pc last e).rest.size ≤ e.key.size := by
  rw [← bs_len]
  show (bs ⟨((bs e.key).drop (share last (bs e.key))).toArray⟩).length ≤ _
  rw [bs_mk, List.length_drop, bs_len]; omega
theorem body_len (last : List UInt8) (es : List En) : (body last es).length ≤ bytesE es + 41 * es.length := by
  induction es generalizing last with
  | nil => simp [body]
  | cons e r ih =>
    have h1 := ih (bs e.key)
    have h2 := (Pc.len (pc last e)).1
    have h3 := pc_len last e
    have h4 : (pc last e).val = e.val := rfl
    rw [h4] at h2
    rw [bytesE_cons, List.length_cons]
    simp only [body, List.length_append]
    unfold sizeE piece
    omega
theorem block_len (es : List En) : (block es).length ≤ bytesE es + 41 * es.length + 10 := by
  have := body_len [] es
  have := enc_len es.length
  unfold block
  rw [List.length_append]; omega
end Go.Proofs.YtedjohkdfchocaaGreat.Bk

/-
  Versions in memory: a version's own block, a row of versions, its cells, its beginning, its rest; a version stored into a row.
-/
namespace Go.Proofs.YtedjohkdfchocaaGreat.Mm
open Go.RowKit Cm
set_option linter.unusedVariables false

def entObj (e : En) : Obj := .cells #[.string e.key, .int .i64 e.seq, .bool e.dead, .string e.val] 25 (0, 0)
theorem ent_cells {w : World} {c : Nat} {e : En} (h : w.heap[c]? = some (entObj e)) : w.cell? ⟨c, 0, none⟩ = some (.string e.key) ∧ w.cell? ⟨c, 1, none⟩ = some (.int .i64 e.seq) ∧ w.cell? ⟨c, 2, none⟩ = some (.bool e.dead) ∧ w.cell? ⟨c, 3, none⟩ = some (.string e.val) ∧ ∀ i, w.frozen? ⟨c, i, none⟩ = false := by
  refine ⟨?_, ?_, ?_, ?_, fun i => by simp [World.frozen?, h, entObj]⟩ <;> rw [Joins.cell_of_block h] <;> rfl
theorem wrap_nat {n : Nat} {i : Int} (h : i = n) (hn : n ≤ 9223372036854775807) : IntKind.i64.wrap i = (n : Int) := by
  subst h
  simp [IntKind.wrap, IntKind.bits, IntKind.signed]
  omega
/-- The k-th of a slice of versions. -/
theorem elem_cells {w : World} {ao : Option Addr} {xs : List En} (h : ElemsAt enShape w ao xs) {k : Nat} (hk : k < xs.length) : ∃ pb off, ao = some ⟨pb, off, none⟩ ∧ w.cell? ⟨pb, off + k * 4, none⟩ = some (.string (xs.getD k En.zero).key) ∧ w.cell? ⟨pb, off + k * 4 + 1, none⟩ = some (.int .i64 (xs.getD k En.zero).seq) ∧
    w.cell? ⟨pb, off + k * 4 + 2, none⟩ = some (.bool (xs.getD k En.zero).dead) ∧ w.cell? ⟨pb, off + k * 4 + 3, none⟩ = some (.string (xs.getD k En.zero).val) := by
  rw [getD_lt _ _ _ hk]
  rcases h with rfl | ⟨pb, off, rfl, _, hc⟩
  · simp at hk
  · exact ⟨pb, off, rfl, hc k hk 0 _ rfl, hc k hk 1 _ rfl, hc k hk 2 _ rfl, hc k hk 3 _ rfl⟩
theorem bytes_take (xs : List En) (k : Nat) : bytesE (xs.take k) ≤ bytesE xs := by
  conv => rhs; rw [← List.take_append_drop k xs]
  rw [bytesE_append]; omega
theorem take_at {xs : List En} {k : Nat} (h : k < xs.length) : xs.take (k + 1) = xs.take k ++ [xs.getD k En.zero] := by rw [getD_lt _ _ _ h]; exact List.take_succ_eq_append_getElem h
theorem bytes_at {xs : List En} {k : Nat} (h : k < xs.length) : bytesE (xs.take k) + sizeE (xs.getD k En.zero) ≤ bytesE xs := by
  have := bytes_take xs (k + 1)
  rw [take_at h, bytesE_append, bytesE_cons] at this
  have h2 : bytesE [] = 0 := rfl
  omega
def zeroObj : Obj := .cells #[.string ⟨#[]⟩, .int .i64 0, .bool false, .string ⟨#[]⟩] 25 (0, 0)
theorem ent_set {w : World} {c : Nat} {e : En} (h : w.heap[c]? = some (entObj e)) (k : ByteArray) (s : Int) (d : Bool) (v : ByteArray) :
    (w.setCell ⟨c, 0, none⟩ (.string k)).cell? ⟨c, 0, none⟩ = some (.string k) ∧ ((w.setCell ⟨c, 0, none⟩ (.string k)).setCell ⟨c, 1, none⟩ (.int .i64 s)).cell? ⟨c, 1, none⟩ = some (.int .i64 s) ∧ (((w.setCell ⟨c, 0, none⟩ (.string k)).setCell ⟨c, 1, none⟩ (.int .i64 s)).setCell ⟨c, 2, none⟩ (.bool d)).cell? ⟨c, 2, none⟩ = some (.bool d) ∧
    ((((w.setCell ⟨c, 0, none⟩ (.string k)).setCell ⟨c, 1, none⟩ (.int .i64 s)).setCell ⟨c, 2, none⟩ (.bool d)).setCell ⟨c, 3, none⟩ (.string v)).cell? ⟨c, 3, none⟩ = some (.string v) := by
  unfold entObj at h
  have h1 := Joins.block_setCell h (i := 0) (.string k)
  have h2 := Joins.block_setCell h1 (i := 1) (.int .i64 s)
  have h3 := Joins.block_setCell h2 (i := 2) (.bool d)
  have h4 := Joins.block_setCell h3 (i := 3) (.string v)
  rw [Joins.cell_of_block h1, Joins.cell_of_block h2, Joins.cell_of_block h3, Joins.cell_of_block h4]
  simp
theorem infoEn : (Tryz.prog.info? 25).map (fun i => (i.zero, i.size, i.bytes)) = some (some (.agg #[.string ⟨#[]⟩, .int .i64 0, .bool false, .string ⟨#[]⟩]), 4, 48) := by kernel_rfl
/-- One version in a slice of its own. -/
theorem elems1 {w : World} (e : En) : ElemsAt enShape (w.alloc (entObj e)) (some ⟨w.heap.size, 0, none⟩) [e] := by
  refine .inr ⟨w.heap.size, 0, rfl, by simp, fun i hi j u hu => ?_⟩
  obtain rfl : i = 0 := by simpa using hi
  rw [Joins.cell_of_block (show (w.alloc (entObj e)).heap[w.heap.size]? = some (.cells #[.string e.key, .int .i64 e.seq, .bool e.dead, .string e.val] 25 (0, 0)) from heap_alloc_new w _)]
  match j, hu with
  | 0, hu => exact hu
  | 1, hu => exact hu
  | 2, hu => exact hu
  | 3, hu => exact hu
  | (k + 4), hu => simp [enShape] at hu
theorem own_emptyT (w : World) (e : TypeId) (k base : Nat) (h : base ≤ w.heap.size) : (w.alloc (.cells #[] e)).ownsRow base e k (.slice (some ⟨w.heap.size, 0, none⟩) 0 0) 0 [] :=
  ⟨by simp, .inr ⟨w.heap.size, 0, #[], rfl, h, heap_alloc_new w _, by simp, by simp, by simp, by simp⟩⟩
theorem own_formK {w : World} {B n k : Nat} {e : TypeId} {v : Value} {vs : List Value} (h : w.ownsRow B e k v n vs) (hn : 0 < n) : ∃ g cap, v = .slice (some ⟨g, 0, none⟩) n cap ∧ B ≤ g ∧ g < w.heap.size ∧ n ≤ cap := by
  rcases h.2 with ⟨rfl, h0⟩ | ⟨g, cap, cur, rfl, hB, hg, hle, _⟩
  · omega
  · exact ⟨g, cap, rfl, hB, lt_of_block hg, hle⟩
theorem own_cells1 {w : World} {B n g cap : Nat} {e : TypeId} {vs : List Value} (h : w.ownsRow B e 1 (.slice (some ⟨g, 0, none⟩) n cap) n vs) (hlt : g < w.heap.size) : CellsAt w (some ⟨g, 0, none⟩) vs := by
  refine .inr ⟨g, 0, rfl, hlt, fun j hj => ?_⟩
  have := h.cells (g := g) rfl j vs[j] (by simp [hj])
  rw [Go.WideShapes.add_plain] at this
  rw [this]; simp [hj]
/-- A version stored into a row. -/
theorem stored4 {w : World} {B n g cap k : Nat} {e : TypeId} {ys : List Value} (h : w.ownsRow B e 4 (.slice (some ⟨g, 0, none⟩) n cap) n ys) (hk : k < n) (a b c d : Value) :
    (∃ ys', ((((w.setCell ⟨g, k * 4, none⟩ a).setCell ⟨g, k * 4 + 1, none⟩ b).setCell ⟨g, k * 4 + 2, none⟩ c).setCell ⟨g, k * 4 + 3, none⟩ d).ownsRow B e 4 (.slice (some ⟨g, 0, none⟩) n cap) n ys') ∧
    (∀ j, j < 4 → ∃ v, w.cell? ⟨g, k * 4 + j, none⟩ = some v) ∧ ∀ i, w.frozen? ⟨g, i, none⟩ = false := by
  rcases h.2 with ⟨e1, _⟩ | ⟨g', cap', cur, e1, hB, hg, hle, hcm, hcs, htk⟩
  · cases e1
  · cases e1
    refine ⟨⟨((((cur.setIfInBounds (k * 4) a).setIfInBounds (k * 4 + 1) b).setIfInBounds (k * 4 + 2) c).setIfInBounds (k * 4 + 3) d).toList.take (n * 4), ?_, .inr ⟨g, cap, _, rfl, hB, Joins.block_setCell (Joins.block_setCell (Joins.block_setCell (Joins.block_setCell hg a) b) c) d, hle, hcm, by simpa using hcs, rfl⟩⟩, fun j hj => ?_, fun i => by simp [World.frozen?, hg]⟩
    · have h4 : n * 4 ≤ cap * 4 := Nat.mul_le_mul_right _ hle
      rw [List.length_take, Array.length_toList]
      simp only [Array.size_setIfInBounds]
      omega
    · rw [Joins.cell_of_block hg]
      exact ⟨_, Array.getElem?_eq_getElem (by have h4 : n * 4 ≤ cap * 4 := Nat.mul_le_mul_right _ hle; omega)⟩
theorem set4_block {w : World} {g i1 i2 i3 i4 : Nat} {a b c d : Value} {j : Nat} (h : j ≠ g) : ((((w.setCell ⟨g, i1, none⟩ a).setCell ⟨g, i2, none⟩ b).setCell ⟨g, i3, none⟩ c).setCell ⟨g, i4, none⟩ d).heap[j]? = w.heap[j]? := by
  rw [Below.heap_setCell _ _ _ _ (by simpa using h), Below.heap_setCell _ _ _ _ (by simpa using h), Below.heap_setCell _ _ _ _ (by simpa using h), Below.heap_setCell _ _ _ _ (by simpa using h)]
theorem set4_grown {w : World} {g i1 i2 i3 i4 : Nat} {a b c d : Value} : w.grownBy ((((w.setCell ⟨g, i1, none⟩ a).setCell ⟨g, i2, none⟩ b).setCell ⟨g, i3, none⟩ c).setCell ⟨g, i4, none⟩ d) (some g) :=
  ⟨rfl, rfl, rfl, by simp [World.setCell], fun k hk hr => set4_block (by rintro rfl; exact hr rfl)⟩
theorem all_take {xs : List En} {p : En → Bool} {b : Bool} {k : Nat} (hk : k < xs.length) (h : ∀ e ∈ xs.take k, p e = b) (hy : p (xs.getD k En.zero) = b) : ∀ e ∈ xs.take (k + 1), p e = b := by
  intro e he
  rw [take_at hk] at he
  rcases List.mem_append.1 he with he | he
  · exact h e he
  · simp at he; subst he; exact hy
/-- Where a beginning of a list ends. -/
theorem while_stop {p : En → Bool} {xs : List En} {k : Nat} (hk : k ≤ xs.length) (h : ∀ e ∈ xs.take k, p e = true) (hs : k < xs.length → p (xs.getD k En.zero) = false) : xs.takeWhile p = xs.take k ∧ xs.dropWhile p = xs.drop k := by
  have e : xs = xs.take k ++ xs.drop k := (List.take_append_drop k xs).symm
  have h1 : (xs.take k ++ xs.drop k).takeWhile p = xs.take k ∧ (xs.take k ++ xs.drop k).dropWhile p = xs.drop k := by
    rw [List.takeWhile_append_of_pos h, List.dropWhile_append_of_pos h]
    by_cases hl : k < xs.length
    · have := hs hl
      rw [getD_lt _ _ _ hl] at this
      rw [List.drop_eq_getElem_cons hl, List.takeWhile_cons_of_neg (by rw [this]; simp), List.dropWhile_cons_of_neg (by rw [this]; simp)]
      simp
    · rw [List.drop_of_length_le (by omega)]
      simp
  rw [← e] at h1
  exact h1
theorem elems_take {w : World} {ao : Option Addr} {xs : List En} (h : ElemsAt enShape w ao xs) (k : Nat) : ElemsAt enShape w ao (xs.take k) := by
  rcases h with rfl | ⟨b, off, rfl, hlt, hc⟩
  · exact .inl (by simp)
  · refine .inr ⟨b, off, rfl, hlt, fun i hi j u hu => ?_⟩
    have hi' : i < xs.length := by simp at hi; omega
    rw [List.getElem_take] at hu
    exact hc i hi' j u hu
theorem elems_drop {w : World} {b off : Nat} {xs : List En} (h : ElemsAt enShape w (some ⟨b, off, none⟩) xs) (k : Nat) : ElemsAt enShape w (some ⟨b, off + k * 4, none⟩) (xs.drop k) := by
  rcases h with rfl | ⟨b', off', he, hlt, hc⟩
  · exact .inl (by simp)
  · cases he
    refine .inr ⟨b, off + k * 4, rfl, hlt, fun i hi j u hu => ?_⟩
    have hi' : k + i < xs.length := by simp at hi; omega
    rw [List.getElem_drop] at hu
    have := hc (k + i) hi' j u hu
    rw [show off + k * 4 + i * enShape.sz + j = off + (k + i) * enShape.sz + j by show off + k * 4 + i * 4 + j = off + (k + i) * 4 + j; omega]
    exact this
end Go.Proofs.YtedjohkdfchocaaGreat.Mm
