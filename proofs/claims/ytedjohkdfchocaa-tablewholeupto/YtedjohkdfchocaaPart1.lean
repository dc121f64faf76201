/-
  The texts PackMath, PackHeap, CmHeap, TableBuilder, TableRound, CmRows, joined.
-/
import Derived.KernelRfl
import Derived.Test.YtedjohkdfchocaaProg
import Derived.WalkKit
import Derived.Deep.AppendLies
import Derived.Deep.AppendSrc
import Derived.Lib.AppendStr
import Derived.Maps.AppendAt
import Derived.Laws.AppendOwnNone
import Derived.Laws.BitsAllLaws
import Derived.Deep.Light
import Derived.BigQuiet
import Derived.Lib.SmallJoins
import Derived.Lib.Builder
import Derived.Lib.UnsafeStr
import Derived.Laws.Externs
import Derived.RangeFuncNested
import Derived.RangeFuncBound
import Derived.RangeFuncCalls
import Derived.RangeFuncLeaves
import Derived.Shelf.Abstract
import Derived.Shelf.RegionOpen
import Derived.OwnWalkIn
import Derived.TacticsInMore
import Derived.LoopNIn
import Derived.LoopIn
import Derived.Deep.RegionHeld3

/-
  The bytes of numbers, whole numbers and texts (layer 1), as plain functions on lists: they come back, and no other bytes are read.
-/
namespace Go.Proofs.Ytedjohkdfchocaa.Pk

/-- A number's bytes, with so many bytes more at the most. -/
def encF : Nat → Nat → List UInt8
  | 0, n => [UInt8.ofNat n]
  | f + 1, n => if n < 128 then [UInt8.ofNat n] else UInt8.ofNat (n % 128 + 128) :: encF f (n / 128)
def enc (n : Nat) : List UInt8 := encF 9 n

/-- The number at a list's beginning, and how many bytes it has. -/
def numF : Nat → List UInt8 → Option (Nat × Nat)
  | 0, _ => none
  | _ + 1, [] => none
  | f + 1, c :: r =>
    if c.toNat < 128 then (if f = 0 ∧ 1 < c.toNat then none else some (c.toNat, 1))
    else match numF f r with
      | none => none
      | some (n, k) => if n = 0 then none else some (c.toNat - 128 + 128 * n, k + 1)
def dnum (l : List UInt8) : Option (Nat × Nat) := numF 10 l
def num (l : List UInt8) : Nat × Nat := (dnum l).getD (0, 0)

theorem u8_toNat_ofNat {n : Nat} (h : n < 256) : (UInt8.ofNat n).toNat = n := by simp; omega
theorem u8_ext {a b : UInt8} (h : a.toNat = b.toNat) : a = b := UInt8.toNat_inj.1 h
theorem u8_lt (a : UInt8) : a.toNat < 256 := a.toNat_lt

theorem encF_small (f n : Nat) (h : n < 128) : encF f n = [UInt8.ofNat n] := by cases f <;> simp [encF, h]
theorem encF_big (f n : Nat) (h : 128 ≤ n) : encF (f + 1) n = UInt8.ofNat (n % 128 + 128) :: encF f (n / 128) := by simp [encF]; omega
theorem encF_ne (f n : Nat) : encF f n ≠ [] := by
  cases f with
  | zero => simp [encF]
  | succ f => simp only [encF]; split <;> simp
theorem encF_len (f n : Nat) : 1 ≤ (encF f n).length ∧ (encF f n).length ≤ f + 1 := by
  induction f generalizing n with
  | zero => simp [encF]
  | succ f ih => simp only [encF]; split <;> simp; have := ih (n / 128); omega
theorem enc_len (n : Nat) : 1 ≤ (enc n).length ∧ (enc n).length ≤ 10 := encF_len 9 n
theorem enc_ne (n : Nat) : enc n ≠ [] := encF_ne 9 n

/-- So great a number may have so many bytes: f + 1 bytes, the last one below 128 (or below 2 where there are ten). -/
def fits : Nat → Nat → Prop
  | 0, n => n < 2
  | f + 1, n => n < 128 ∨ fits f (n / 128)

theorem fits_of {n : Nat} (h : n < 18446744073709551616) : fits 9 n := by
  simp only [fits]; omega

theorem fits_lt {n : Nat} (h : fits 9 n) : n < 18446744073709551616 := by
  simp only [fits] at h; omega

theorem numF_encF (f n : Nat) (r : List UInt8) (h : fits f n) : numF (f + 1) (encF f n ++ r) = some (n, (encF f n).length) := by
  induction f generalizing n with
  | zero =>
    simp only [fits] at h
    simp only [encF, List.cons_append, List.nil_append, numF, u8_toNat_ofNat (show n < 256 by omega), List.length_singleton]
    rw [if_pos (by omega), if_neg (by omega)]
  | succ f ih =>
    by_cases hn : n < 128
    · rw [encF_small _ _ hn]
      simp only [List.cons_append, List.nil_append, numF, u8_toNat_ofNat (show n < 256 by omega), List.length_singleton]
      rw [if_pos hn, if_neg (by omega)]
    · have h' : fits f (n / 128) := by simp only [fits] at h; rcases h with h | h; omega; exact h
      rw [encF_big _ _ (by omega), List.cons_append, numF, u8_toNat_ofNat (show n % 128 + 128 < 256 by omega), if_neg (by omega), ih _ h']
      simp only [List.length_cons]
      rw [if_neg (by omega)]
      congr 2
      omega

theorem dnum_enc (n : Nat) (r : List UInt8) (h : n < 18446744073709551616) : dnum (enc n ++ r) = some (n, (enc n).length) := numF_encF 9 n r (fits_of h)

theorem numF_some {f : Nat} {l : List UInt8} {n k : Nat} (h : numF (f + 1) l = some (n, k)) : fits f n ∧ k = (encF f n).length ∧ l = encF f n ++ l.drop k ∧ k ≤ l.length := by
  induction f generalizing l n k with
  | zero =>
    cases l with
    | nil => simp [numF] at h
    | cons c r =>
      simp only [numF] at h
      split at h
      · split at h
        · cases h
        · rename_i h1 h2
          simp only [true_and] at h2
          simp only [Option.some.injEq, Prod.mk.injEq] at h
          obtain ⟨rfl, rfl⟩ := h
          have hc : UInt8.ofNat c.toNat = c := u8_ext (u8_toNat_ofNat (by omega))
          exact ⟨by simp only [fits]; omega, by simp [encF], by simp [encF], by simp⟩
      · simp at h
  | succ f ih =>
    cases l with
    | nil => simp [numF] at h
    | cons c r =>
      rw [numF] at h
      split at h
      · rename_i h1
        simp only [Nat.add_one_ne_zero, false_and, if_false, Option.some.injEq, Prod.mk.injEq] at h
        obtain ⟨rfl, rfl⟩ := h
        have hc : UInt8.ofNat c.toNat = c := u8_ext (u8_toNat_ofNat (by omega))
        exact ⟨by simp only [fits]; omega, by simp [encF_small _ _ h1], by simp [encF_small _ _ h1], by simp⟩
      · rename_i h1
        cases hq : numF (f + 1) r with
        | none => rw [hq] at h; cases h
        | some p =>
          obtain ⟨n', k'⟩ := p
          rw [hq] at h
          simp only at h
          split at h
          · cases h
          · rename_i h2
            simp only [Option.some.injEq, Prod.mk.injEq] at h
            obtain ⟨rfl, rfl⟩ := h
            obtain ⟨g1, g2, g3, g4⟩ := ih hq
            have hc := u8_lt c
            have hbig : 128 ≤ c.toNat - 128 + 128 * n' := by omega
            have hd : (c.toNat - 128 + 128 * n') / 128 = n' := by omega
            have hm : (c.toNat - 128 + 128 * n') % 128 + 128 = c.toNat := by omega
            have he : encF (f + 1) (c.toNat - 128 + 128 * n') = c :: encF f n' := by
              rw [encF_big _ _ hbig, hd, hm]
              congr 1
              exact u8_ext (u8_toNat_ofNat (by omega))
            refine ⟨by simp only [fits]; right; rw [hd]; exact g1, by rw [he]; simp [g2], ?_, by simp; omega⟩
            rw [he, List.cons_append, List.drop_succ_cons, ← g3]

theorem dnum_some {l : List UInt8} {n k : Nat} (h : dnum l = some (n, k)) : n < 18446744073709551616 ∧ k = (enc n).length ∧ l = enc n ++ l.drop k ∧ k ≤ l.length := by
  obtain ⟨a, b, c, d⟩ := numF_some h
  exact ⟨fits_lt a, b, c, d⟩

/-- Bytes that all say that another one follows are no number's. -/
theorem numF_follow (f : Nat) (l : List UInt8) (h : ∀ c ∈ l, 128 ≤ c.toNat) : numF f l = none := by
  induction l generalizing f with
  | nil => cases f <;> rfl
  | cons c r ih =>
    cases f with
    | zero => rfl
    | succ f =>
      have := h c (by simp)
      rw [numF, if_neg (by omega), ih f (fun x hx => h x (by simp [hx]))]

theorem encF_begin (f n k : Nat) (hn : n < 128 ^ (f + 1)) (hk : k < (encF f n).length) : ∀ c ∈ (encF f n).take k, 128 ≤ c.toNat := by
  induction f generalizing n k with
  | zero => simp [encF] at hk; subst hk; simp
  | succ f ih =>
    by_cases h : n < 128
    · rw [encF_small _ _ h] at hk ⊢; simp at hk; subst hk; simp
    · rw [encF_big _ _ (by omega)] at hk ⊢
      cases k with
      | zero => simp
      | succ k =>
        intro c hc
        simp only [List.take_succ_cons, List.mem_cons] at hc
        rcases hc with rfl | hc
        · rw [u8_toNat_ofNat (by omega)]; omega
        · exact ih (n / 128) k (by rw [Nat.pow_succ] at hn; omega) (by simpa using hk) c hc

theorem dnum_begin (n k : Nat) (hn : n < 18446744073709551616) (hk : k < (enc n).length) : dnum ((enc n).take k) = none :=
  numF_follow _ _ (encF_begin 9 n k (by omega) hk)

theorem enc_inj {a b : Nat} (ha : a < 18446744073709551616) (hb : b < 18446744073709551616) (h : enc a = enc b) : a = b := by
  have h1 := dnum_enc a [] ha
  rw [h, dnum_enc b [] hb] at h1
  simp at h1
  exact h1.symm

theorem num_none {l : List UInt8} (h : dnum l = none) : num l = (0, 0) := by simp [num, h]
theorem num_some {l : List UInt8} {p : Nat × Nat} (h : dnum l = some p) : num l = p := by simp [num, h]
theorem num_two {l : List UInt8} (h : (num l).2 = 0) : dnum l = none := by
  cases hd : dnum l with
  | none => rfl
  | some p =>
    obtain ⟨n, k⟩ := p
    have := dnum_some hd
    have := enc_len n
    rw [num_some hd] at h
    simp at h; omega
theorem num_lt (l : List UInt8) : (num l).1 < 18446744073709551616 ∧ (num l).2 ≤ 10 ∧ (num l).2 ≤ l.length := by
  cases hd : dnum l with
  | none => rw [num_none hd]; simp
  | some p =>
    obtain ⟨n, k⟩ := p
    have h := dnum_some hd
    have := enc_len n
    rw [num_some hd]
    exact ⟨h.1, by simp; omega, h.2.2.2⟩

/-! ### As the loop goes over the bytes -/
/-- The number that bytes with the mark 'another one follows' stand for, so far. -/
def val : List UInt8 → Nat
  | [] => 0
  | c :: r => c.toNat % 128 + 128 * val r

theorem val_snoc (l : List UInt8) (c : UInt8) : val (l ++ [c]) = val l + 128 ^ l.length * (c.toNat % 128) := by
  induction l with
  | nil => simp [val]
  | cons x l ih =>
    simp only [List.cons_append, val, ih, List.length_cons, Nat.pow_succ, Nat.mul_add]
    rw [Nat.mul_comm (128 ^ l.length) 128, Nat.mul_assoc]
    omega
theorem val_lt (l : List UInt8) : val l < 128 ^ l.length := by
  induction l with
  | nil => simp [val]
  | cons x l ih => simp only [val, List.length_cons, Nat.pow_succ]; omega

/-- Behind bytes that all say that another one follows. -/
theorem numF_behind (p t : List UInt8) (f : Nat) (h : ∀ c ∈ p, 128 ≤ c.toNat) :
    numF (p.length + f) (p ++ t) = match numF f t with
      | none => none
      | some (n, k) => if p ≠ [] ∧ n = 0 then none else some (val p + 128 ^ p.length * n, p.length + k) := by
  induction p with
  | nil =>
    simp only [List.length_nil, Nat.zero_add, List.nil_append, val, Nat.pow_zero, Nat.one_mul]
    cases numF f t with
    | none => rfl
    | some q => simp
  | cons c p ih =>
    have hc := h c (by simp)
    have hlt := u8_lt c
    have ih' := ih (fun x hx => h x (by simp [hx]))
    rw [List.length_cons, show p.length + 1 + f = (p.length + f) + 1 by omega, List.cons_append, numF, if_neg (by omega), ih']
    cases numF f t with
    | none => rfl
    | some q =>
      obtain ⟨n, k⟩ := q
      simp only
      by_cases hn : n = 0
      · subst hn
        by_cases hp : p = []
        · subst hp; simp [val]
        · simp [hp]
      · have hv : val p + 128 ^ p.length * n ≠ 0 := by
          have : 0 < 128 ^ p.length * n := Nat.mul_pos (Nat.pow_pos (by omega)) (by omega)
          omega
        simp only [hn, and_false, if_false, hv, ne_eq, reduceCtorEq, not_false_eq_true, val, Nat.pow_succ, Nat.mul_add]
        refine congrArg some (Prod.ext ?_ ?_) <;> dsimp only
        · rw [show c.toNat % 128 = c.toNat - 128 by omega, Nat.mul_comm (128 ^ p.length) 128, Nat.mul_assoc]; omega
        · omega

/-- The last byte's ways. -/
theorem dnum_last (p : List UInt8) (c : UInt8) (t : List UInt8) (hp : p.length < 10) (h : ∀ x ∈ p, 128 ≤ x.toNat) (hc : c.toNat < 128) :
    dnum (p ++ c :: t) = if (0 < p.length ∧ c.toNat = 0) ∨ (p.length = 9 ∧ 1 < c.toNat) then none else some (val p + 128 ^ p.length * c.toNat, p.length + 1) := by
  have e : (10 : Nat) = p.length + ((9 - p.length) + 1) := by omega
  unfold dnum
  rw [e, numF_behind p (c :: t) _ h, numF, if_pos hc]
  have hpl : p ≠ [] ↔ 0 < p.length := by cases p <;> simp
  by_cases h9 : p.length = 9 ∧ 1 < c.toNat
  · rw [if_pos (show 9 - p.length = 0 ∧ 1 < c.toNat by omega), if_pos (.inr h9)]
  · rw [if_neg (show ¬ (9 - p.length = 0 ∧ 1 < c.toNat) by omega)]
    simp only [hpl]
    by_cases h0 : 0 < p.length ∧ c.toNat = 0
    · rw [if_pos h0, if_pos (.inl h0)]
    · rw [if_neg h0, if_neg (by omega)]

/-- There is no last byte among the first ten. -/
theorem dnum_no_last (l : List UInt8) (h : ∀ x ∈ l.take 10, 128 ≤ x.toNat) : dnum l = none := by
  by_cases h10 : l.length ≤ 10
  · rw [List.take_of_length_le h10] at h
    exact numF_follow _ _ h
  · have hl : (l.take 10).length = 10 := by simp; omega
    have := numF_behind (l.take 10) (l.drop 10) 0 h
    rw [List.take_append_drop, hl] at this
    exact this

/-! ### Whole numbers -/
def fold (n : Int) : Nat := if n < 0 then (2 * (-n - 1) + 1).toNat else (2 * n).toNat
def unfold (u : Nat) : Int := if u % 2 = 1 then -((u / 2 : Nat) : Int) - 1 else ((u / 2 : Nat) : Int)
theorem unfold_fold (n : Int) : unfold (fold n) = n := by
  unfold unfold fold
  split <;> split <;> omega
theorem fold_unfold (u : Nat) : fold (unfold u) = u := by
  unfold unfold fold
  split <;> split <;> omega
theorem fold_lt {n : Int} (h1 : -9223372036854775808 ≤ n) (h2 : n ≤ 9223372036854775807) : fold n < 18446744073709551616 := by
  unfold fold; split <;> omega
theorem unfold_bd {u : Nat} (h : u < 18446744073709551616) : -9223372036854775808 ≤ unfold u ∧ unfold u ≤ 9223372036854775807 := by
  unfold unfold; split <;> omega

/-! ### Lists of them -/
def nums (l : List Nat) : List UInt8 := l.flatMap enc
def ints (l : List Int) : List UInt8 := l.flatMap fun n => enc (fold n)
def text (s : List UInt8) : List UInt8 := enc s.length ++ s
def texts (l : List (List UInt8)) : List UInt8 := l.flatMap text

/-- The text at a list's beginning: how many bytes stand ahead of it, and how many it has. -/
def dtext (l : List UInt8) : Option (Nat × Nat) := match dnum l with
  | none => none
  | some (n, k) => if n ≤ l.length - k then some (k, n) else none

end Go.Proofs.Ytedjohkdfchocaa.Pk

/-
  A writer in memory (layer 1): the block that holds its slice, the row that the slice owns, and what stays as it was when something is put.
-/
namespace Go.Proofs.Ytedjohkdfchocaa.Pk
open Go.RowKit

/-- Everything that was there but block b and row r is as it was. -/
structure Kept (b : Nat) (r : Option Nat) (w w' : World) : Prop where
  os : w'.os = w.os
  tape : w'.tape = w.tape
  output : w'.output = w.output
  size : w.heap.size ≤ w'.heap.size
  block : ∀ k, k < w.heap.size → k ≠ b → some k ≠ r → w'.heap[k]? = w.heap[k]?

theorem Kept.refl (b : Nat) (r : Option Nat) (w : World) : Kept b r w w := ⟨rfl, rfl, rfl, Nat.le_refl _, fun _ _ _ _ => rfl⟩

/-- From row r to row r': the same, or one that is made on the way. -/
structure Step (b : Nat) (w : World) (r : Option Nat) (w' : World) (r' : Option Nat) : Prop where
  kept : Kept b r w w'
  row : r' = r ∨ ∃ g, r' = some g ∧ w.heap.size ≤ g

theorem Step.refl (b : Nat) (r : Option Nat) (w : World) : Step b w r w r := ⟨Kept.refl b r w, .inl rfl⟩
theorem Step.trans {b : Nat} {w w1 w2 : World} {r r1 r2 : Option Nat} (h : Step b w r w1 r1) (k : Step b w1 r1 w2 r2) : Step b w r w2 r2 := by
  have hs := h.kept.size
  refine ⟨⟨k.kept.os.trans h.kept.os, k.kept.tape.trans h.kept.tape, k.kept.output.trans h.kept.output, Nat.le_trans hs k.kept.size, fun i hi hb hr => ?_⟩, ?_⟩
  · refine (k.kept.block i (by omega) hb ?_).trans (h.kept.block i hi hb hr)
    rcases h.row with e | ⟨g, e, hg⟩
    · rw [e]; exact hr
    · rw [e]; intro he; simp at he; omega
  · rcases k.row with e | ⟨g, e, hg⟩
    · rw [e]; exact h.row
    · exact .inr ⟨g, e, by omega⟩
theorem Step.alloc (b : Nat) (r : Option Nat) (w : World) (o : Obj) : Step b w r (w.alloc o) r :=
  ⟨⟨rfl, rfl, rfl, by simp, fun k hk _ _ => Below.heap_alloc _ _ _ hk⟩, .inl rfl⟩
theorem Step.below {b B : Nat} {w w' : World} {r r' : Option Nat} (h : Step b w r w' r') (hB : B ≤ w.heap.size) (hb : B ≤ b) (hr : ∀ k, r = some k → B ≤ k) : Below B w w' :=
  ⟨h.kept.os, h.kept.tape, h.kept.output, h.kept.size, fun k hk => h.kept.block k (by omega) (by omega) (fun e => by have := hr k e.symm; omega)⟩

def B8 (c : UInt8) : Value := .int .u8 c.toNat

/-- Block b is a writer that has put the bytes bs; its slice's row is r. -/
def WrAt (w : World) (base b : Nat) (r : Option Nat) (bs : List UInt8) : Prop :=
  ∃ v, w.heap[b]? = some (.cells #[v] 144 (0, 0)) ∧ w.ownsRow base 5 1 v bs.length (bs.map B8) ∧ v.ownBlock = r

theorem WrAt.row_ge {w : World} {base b : Nat} {r : Option Nat} {bs : List UInt8} (h : WrAt w base b r bs) : ∀ k, r = some k → base ≤ k ∧ k < w.heap.size ∧ k ≠ b := by
  obtain ⟨v, hb, hown, rfl⟩ := h
  intro k hk
  have := hown.lt k hk
  refine ⟨this.1, this.2, ?_⟩
  rintro rfl
  rcases hown.2 with ⟨rfl, _⟩ | ⟨g, cap, cur, rfl, _, hg, _⟩
  · simp [Value.ownBlock] at hk
  · simp [Value.ownBlock] at hk
    subst hk
    rw [hb] at hg
    simp at hg
theorem WrAt.lt {w : World} {base b : Nat} {r : Option Nat} {bs : List UInt8} (h : WrAt w base b r bs) : b < w.heap.size := by
  obtain ⟨v, hb, _⟩ := h
  exact lt_of_block hb

/-- Another writer, or whatever changes other blocks alone, leaves it. -/
theorem WrAt.keep {w w' : World} {base b : Nat} {r : Option Nat} {bs : List UInt8} (h : WrAt w base b r bs) (hb : w'.heap[b]? = w.heap[b]?) (hr : ∀ k, r = some k → w'.heap[k]? = w.heap[k]?) : WrAt w' base b r bs := by
  obtain ⟨v, hv, hown, rfl⟩ := h
  refine ⟨v, hb.trans hv, ⟨hown.1, ?_⟩, rfl⟩
  rcases hown.2 with h | ⟨g, cap, cur, rfl, h1, hg, h2⟩
  · exact .inl h
  · exact .inr ⟨g, cap, cur, rfl, h1, (hr g rfl).trans hg, h2⟩
theorem WrAt.step {w w' : World} {base b c : Nat} {r s s' : Option Nat} {bs : List UInt8} (h : WrAt w base b r bs) (k : Step c w s w' s') (hbc : b ≠ c) (hbs : some b ≠ s) (hrc : r ≠ some c) (hrs : r = none ∨ r ≠ s) : WrAt w' base b r bs := by
  refine h.keep (k.kept.block b h.lt hbc hbs) fun i hi => k.kept.block i (h.row_ge i hi).2.1 (fun e => hrc (by rw [hi, e])) (fun e => ?_)
  rcases hrs with hrs | hrs
  · rw [hrs] at hi; cases hi
  · exact hrs (by rw [hi, e])

/-- What one append to the writer's slice comes to. -/
theorem wr_put {w w0 w1 : World} {base b g cap : Nat} {v : Value} {bs new : List UInt8} {n : Nat}
    (hb : w.heap[b]? = some (.cells #[v] 144 (0, 0))) (hown : w.ownsRow base 5 1 v bs.length (bs.map B8))
    (h0 : Step b w v.ownBlock w0 v.ownBlock) (hb0 : w0.heap[b]? = some (.cells #[v] 144 (0, 0)))
    (hown1 : w1.ownsRow base 5 1 (.slice (some ⟨g, 0, none⟩) n cap) n (bs.map B8 ++ new.map B8)) (hn : n = bs.length + new.length)
    (hgrow : w0.grownBy w1 v.ownBlock) (hat : v.ownBlock = some g ∨ g = w0.heap.size) :
    WrAt (w1.setCell ⟨b, 0, none⟩ (.slice (some ⟨g, 0, none⟩) n cap)) base b (some g) (bs ++ new) ∧
    Step b w v.ownBlock (w1.setCell ⟨b, 0, none⟩ (.slice (some ⟨g, 0, none⟩) n cap)) (some g) := by
  have hw : WrAt w base b v.ownBlock bs := ⟨v, hb, hown, rfl⟩
  have hlt := hw.lt
  have hs0 := h0.kept.size
  have hbr : some b ≠ v.ownBlock := fun e => (hw.row_ge b e.symm).2.2 rfl
  have hb1 : w1.heap[b]? = some (.cells #[v] 144 (0, 0)) := (hgrow.block b (by omega) hbr).trans hb0
  have hgb : g ≠ b := by
    rcases hat with e | e
    · exact (hw.row_ge g e).2.2
    · omega
  subst hn
  refine ⟨⟨_, one_setCell hb1, ?_, rfl⟩, ?_⟩
  · rw [List.length_append, List.map_append]
    exact ownsRow_setCell_other hown1 (by simp [Value.ownBlock, hgb]) _
  · refine h0.trans ⟨⟨hgrow.os, hgrow.tape, hgrow.output, by simpa [World.setCell] using hgrow.size, fun k hk hkb hkr => ?_⟩, ?_⟩
    · rw [Below.heap_setCell _ _ _ _ (by simpa using hkb)]
      exact hgrow.block k hk hkr
    · rcases hat with e | e
      · exact .inl e.symm
      · exact .inr ⟨g, rfl, by omega⟩

end Go.Proofs.Ytedjohkdfchocaa.Pk

/-
  For all layers: rows of bytes and of texts in memory, what append comes to, slices that came in as plain lists.
-/
namespace Go.Proofs.Ytedjohkdfchocaa.Cm
open Go.RowKit
set_option linter.unusedVariables false

theorem info8 : (Try.prog.info? 5).map (fun i => (i.zero, i.size, i.bytes)) = some (some (.int .u8 0), 1, 1) := by kernel_rfl
theorem infoStr : (Try.prog.info? 9).map (fun i => (i.zero, i.size, i.bytes)) = some (some (.string ⟨#[]⟩), 1, 16) := by kernel_rfl
def B8 (c : UInt8) : Value := .int .u8 c.toNat
theorem hid_rfl {α : Type} {a : α} : Hid (a = a) := rfl
theorem getD_lt {α : Type} (l : List α) (k : Nat) (d : α) (h : k < l.length) : l.getD k d = l[k] := by simp [h]
theorem str_back (s : ByteArray) : (⟨s.data.toList.toArray⟩ : ByteArray) = s := by cases s; simp
theorem own_keep {w w' : World} {B : Nat} {e : TypeId} {n : Nat} {v : Value} {xs : List Value} (h : w.ownsRow B e 1 v n xs) (hk : ∀ k, v.ownBlock = some k → w'.heap[k]? = w.heap[k]?) : w'.ownsRow B e 1 v n xs := by
  refine ⟨h.1, ?_⟩
  rcases h.2 with h | ⟨g, cap, cur, rfl, h1, hg, h2⟩
  · exact .inl h
  · exact .inr ⟨g, cap, cur, rfl, h1, (hk g rfl).trans hg, h2⟩
theorem run_append_str_at {P : Program} (w : World) (base : Nat) (t u ty e : TypeId) (i : TypeInfo) (ht : P.underlying t = some (.slice e)) (hu : P.underlying u = some .string) (hi : P.info? e = some i) (hz : i.zero = some (.int .u8 0))
    (hsize : i.size = 1) (hby : i.bytes = 1) (v : Value) (n : Nat) (xs : List Value) (hown : w.ownsRow base e 1 v n xs) (s : ByteArray)
    (h63 : n + s.size ≤ maxLen) (hbytes : n + s.size ≤ 140737488355328) (hbase : base ≤ w.heap.size) :
    ∃ v' w', (Builtin.append_ #[t, u] ty #[v, .string s]).run P w = .ok v' w' ∧ w'.ownsRow base e 1 v' (n + s.size) (xs ++ Lib.strCells s) ∧ w.grownBy w' v.ownBlock ∧
      (v'.ownBlock = v.ownBlock ∨ v'.ownBlock = some w.heap.size) := by
  obtain ⟨v', w', hr, h2, h3, h4⟩ := Lib.run_append_own_string (P := P) w base t u ty e i ht hu hi hz hsize hby v n xs hown s h63 hbytes hbase
  refine ⟨v', w', hr, h2, h3, ?_⟩
  unfold maxLen at h63
  rcases hown.2 with ⟨rfl, rfl⟩ | ⟨g, cap, cur, rfl, hbg, hg, hnc, hcm, hcs, htake⟩
  · by_cases hm : s.size = 0
    · rw [h4.2 ⟨rfl, hm⟩]; exact .inl rfl
    · have hq := run_append_nil_string (P := P) w t u ty e i (.int .u8 0) ht hu hi hz s (by omega) (by omega) (by rw [hby]; omega)
      rw [hr] at hq
      injection hq with hq _
      rw [hq]; exact .inr rfl
  · by_cases hroom : n + s.size ≤ cap
    · have hcs' : cur.size = cap := by simpa using hcs
      have hq := Lib.run_append_room_string (P := P) w t u ty e i ht hu hi hsize g n cap cur hg s hroom (by omega)
      rw [hr] at hq
      injection hq with hq _
      rw [hq]; exact .inl rfl
    · have hxl : xs.length = n := by simpa using hown.1
      have hq := Lib.run_append_grow_string (P := P) w t u ty e i (.int .u8 0) ht hu hi hz ⟨g, 0, none⟩ n cap xs (by rw [hsize]; simpa using hxl) (hown.cells (g := g) rfl) s (by omega) (by omega) (by rw [hby]; exact growslice_fits (by omega) (by omega))
      rw [hr] at hq
      injection hq with hq _
      rw [hq]; exact .inr rfl
theorem wpList_append_str_at {P : Program} (w : World) {ops : Array Oper} {rest : List Oper} {o : Oper} {a : Act} {Q : Exit → Act → World → Prop} (hgd : o.guard = none) (sl x : Operand) (t u : TypeId)
    (ho : o.op = .call { callee := .builtin .append, args := #[sl, x], argTypes := #[t, u] })
    (base : Nat) (e : TypeId) (i : TypeInfo) (ht : P.underlying t = some (.slice e)) (hu : P.underlying u = some .string) (hi : P.info? e = some i) (hz : i.zero = some (.int .u8 0))
    (hsize : i.size = 1) (hby : i.bytes = 1) (v : Value) (n : Nat) (xs : List Value) (hs : a.eval sl = v) (hown : w.ownsRow base e 1 v n xs) (s : ByteArray) (hx : a.eval x = .string s)
    (h63 : n + s.size ≤ maxLen) (hbytes : n + s.size ≤ 140737488355328) (hbase : base ≤ w.heap.size)
    (h : ∀ v' w', w'.ownsRow base e 1 v' (n + s.size) (xs ++ Lib.strCells s) → w.grownBy w' v.ownBlock → (v'.ownBlock = v.ownBlock ∨ v'.ownBlock = some w.heap.size) → wpList P ops Q rest (a.put o.dst v') w') : wpList P ops Q (o :: rest) a w := by
  refine wpList_plain hgd fun K hK => ?_
  obtain ⟨v', w', hr, h2, h3, h4⟩ := run_append_str_at (P := P) w base t u o.type e i ht hu hi hz hsize hby v n xs hown s h63 hbytes hbase
  unfold Oper.wp execOp
  simp only [ho, resolve, invoke, builtin, Sem.run_bind, Sem.run_pure, Result.andThen_ok, List.map_toArray, List.map_cons, List.map_nil, hs, hx, hr]
  exact hK _ _ (h v' w' h2 h3 h4)
/-- The values lie in memory from that address on. -/
def CellsAt (w : World) (ao : Option Addr) (vs : List Value) : Prop :=
  vs = [] ∨ ∃ b off, ao = some ⟨b, off, none⟩ ∧ b < w.heap.size ∧ ∀ j, j < vs.length → w.cell? ⟨b, off + j, none⟩ = vs[j]?
theorem CellsAt.keep {w w' : World} {ao : Option Addr} {vs : List Value} (h : CellsAt w ao vs) (hb : ∀ b, b < w.heap.size → w'.heap[b]? = w.heap[b]?) (hs : w.heap.size ≤ w'.heap.size) : CellsAt w' ao vs := by
  rcases h with h | ⟨b, off, rfl, hlt, hc⟩
  · exact .inl h
  · refine .inr ⟨b, off, rfl, by omega, fun j hj => ?_⟩
    rw [World.cell?_of_block (hb b hlt)]
    exact hc j hj
theorem CellsAt.below {w w' : World} {ao : Option Addr} {vs : List Value} (h : CellsAt w ao vs) (hb : Below w.heap.size w w') : CellsAt w' ao vs := h.keep hb.block hb.size
theorem CellsAt.alloc {w : World} {ao : Option Addr} {vs : List Value} (h : CellsAt w ao vs) (o : Obj) : CellsAt (w.alloc o) ao vs := h.keep (fun b hb => Below.heap_alloc _ _ _ hb) (by simp)
theorem CellsAt.drew {w : World} {ao : Option Addr} {vs : List Value} {n : Nat} (h : CellsAt w ao vs) : CellsAt (w.drewN n) ao vs := h
def total (xs : List ByteArray) : Nat := (xs.map ByteArray.size).sum
def strVals (l : List ByteArray) : List Value := l.map Value.string
section
variable {P : Program} (w : World)
/-- append of a slice that came in (nil or not) to an owned row. -/
theorem wpList_append_any {ops : Array Oper} {rest : List Oper} {o : Oper} {a : Act} {Q : Exit → Act → World → Prop} (hgd : o.guard = none) (s x : Operand) (t : TypeId)
    (ho : o.op = .call { callee := .builtin .append, args := #[s, x], argTypes := #[t, t] })
    (base : Nat) (e : TypeId) (i : TypeInfo) (z : Value) (bytes : Nat) (ht : P.underlying t = some (.slice e)) (hi : P.info? e = some i) (hz : i.zero = some z)
    (hsize : i.size = 1) (hby : i.bytes = bytes) (hzs : z.cells.size = 1)
    (v : Value) (n : Nat) (xs : List Value) (hs : a.eval s = v) (hown : w.ownsRow base e 1 v n xs)
    (ao : Option Addr) (m c : Nat) (news : List Value) (hx : a.eval x = .slice ao m c) (hnil : ao = none → c = 0) (hl : news.length = m) (hnews : CellsAt w ao news) (h1 : ∀ u ∈ news, u.oneCell' = true)
    (h63 : n + m ≤ maxLen) (hbytes : (n + m) * bytes ≤ 140737488355328) (hbase : base ≤ w.heap.size)
    (h : ∀ v' w', w'.ownsRow base e 1 v' (n + m) (xs ++ news) → w.grownBy w' v.ownBlock → (v'.ownBlock = v.ownBlock ∨ v'.ownBlock = some w.heap.size) → wpList P ops Q rest (a.put o.dst v') w') :
    wpList P ops Q (o :: rest) a w := by
  cases ao with
  | none =>
    have hn : news = [] := by
      rcases hnews with h | ⟨b, off, h, _⟩
      · exact h
      · cases h
    subst hn
    have hm : m = 0 := by simpa using hl.symm
    have hc := hnil rfl
    subst hm hc
    exact wpList_append_own_none hgd s x t ho base e i 1 ht hi v n xs hs hown hx (h v w (by simpa using hown) ⟨rfl, rfl, rfl, Nat.le_refl _, fun _ _ _ => rfl⟩ (.inl rfl))
  | some ad =>
    refine wpList_append_own_at w hgd s x t ho base e i z 1 bytes ht hi hz hsize hby hzs (by decide) v n xs hs hown ad m c news hx (by omega) (fun j u hu => ?_) h1 h63 hbytes hbase (fun v' w' a1 a2 _ a4 => h v' w' a1 a2 a4)
    rcases hnews with hn | ⟨b, off, he, _, hcell⟩
    · rw [hn] at hu; simp at hu
    · simp only [Option.some.injEq] at he
      subst he
      have hj : j < news.length := (List.getElem?_eq_some_iff.1 hu).1
      rw [Go.WideShapes.add_plain, hcell j hj, hu]
end
theorem own_string {w : World} {base : Nat} {v : Value} {bs : List UInt8} (h : w.ownsRow base 5 1 v bs.length (bs.map B8)) :
    (convert 67 9 v).run Try.prog w = .ok (.string ⟨bs.toArray⟩) w := by
  rcases h.2 with ⟨rfl, hn⟩ | ⟨g, cap, cur, rfl, _, hg, _, _, _, htake⟩
  · have : bs = [] := List.eq_nil_of_length_eq_zero hn
    subst this
    rw [run_convert_bytes_string w 67 9 5 none 0 0 Try.underlying67 Try.underlying5 Try.underlying9]
    simp [Conv.bytesToString]
    rfl
  · refine run_convert_bytes_back w 67 9 5 ⟨g, 0, none⟩ cap bs Try.underlying67 Try.underlying5 Try.underlying9 fun j hj => ?_
    have := h.cells (g := g) rfl j (B8 bs[j]) (by simp [hj])
    exact this
/-- A string's bytes behind an owned row, in a loop: what it comes to. -/
theorem own_text_below {w wr w5 w6 : World} {B : Nat} {v : Value} {n : Nat} {xs : List Value} (hB : Below B w wr) (hBs : B ≤ w.heap.size) (hb : Below wr.heap.size wr w5) (hown : wr.ownsRow B 5 1 v n xs) (hg : w5.grownBy w6 v.ownBlock) : Below B w w6 := by
  have h1 := hB.size
  have h2 := hb.size
  exact (hB.trans (hb.mono (by omega))).grown hg (by omega) (fun k hk => (hown.lt k hk).1)
theorem own_keep_below {wr w5 : World} {B : Nat} {v : Value} {n : Nat} {xs : List Value} (hown : wr.ownsRow B 5 1 v n xs) (hb : Below wr.heap.size wr w5) : w5.ownsRow B 5 1 v n xs :=
  own_keep hown fun k hk => hb.block k (hown.lt k hk).2
theorem own_bytes {w : World} {B : Nat} {v : Value} {bs x : List UInt8} {X : ByteArray} (hX : X.data.toList = x) (h : w.ownsRow B 5 1 v (bs.length + X.size) (bs.map B8 ++ Lib.strCells X)) : w.ownsRow B 5 1 v (bs ++ x).length ((bs ++ x).map B8) := by
  rw [List.length_append, List.map_append, ← hX, ← Lib.size_eq]; exact h

end Go.Proofs.Ytedjohkdfchocaa.Cm

/-
  The library's strings.Builder: what is written into it, how much that is, and its text; nothing else in memory turns.
-/
namespace Go.Proofs.Ytedjohkdfchocaa.Tb
open Go.RowKit Cm
open Pk (Step Kept)
set_option linter.unusedVariables false

def buObj (p v : Value) : Obj := .cells #[p, v] 106 (0, 0)
/-- Block b is a builder that holds these bytes; its slice's row is r. -/
def BuAt (w : World) (base b : Nat) (r : Option Nat) (bs : List UInt8) : Prop :=
  ∃ p v, (p = .pointer none ∨ p = .pointer (some ⟨b, 0, none⟩)) ∧ w.heap[b]? = some (buObj p v) ∧ w.ownsRow base 5 1 v bs.length (bs.map B8) ∧ v.ownBlock = r
section
variable {w w' : World} {base b : Nat} {r : Option Nat} {bs : List UInt8}
theorem BuAt.lt (h : BuAt w base b r bs) : b < w.heap.size := by
  obtain ⟨p, v, _, hb, _⟩ := h
  exact lt_of_block hb
theorem BuAt.row (h : BuAt w base b r bs) : ∀ k, r = some k → base ≤ k ∧ k < w.heap.size ∧ k ≠ b := by
  obtain ⟨p, v, _, hb, hown, rfl⟩ := h
  intro k hk
  refine ⟨(hown.lt k hk).1, (hown.lt k hk).2, fun e => ?_⟩
  rcases hown.2 with ⟨hv, _⟩ | ⟨g, cap, cur, hv, _, hcg, _⟩
  · rw [hv] at hk; cases hk
  · rw [hv] at hk
    cases hk
    have e' : g = b := e
    rw [e', hb] at hcg
    simp [buObj] at hcg
theorem BuAt.keep (h : BuAt w base b r bs) (hb : w'.heap[b]? = w.heap[b]?) (hr : ∀ k, r = some k → w'.heap[k]? = w.heap[k]?) : BuAt w' base b r bs := by
  obtain ⟨p, v, hp, h1, hown, e⟩ := h
  exact ⟨p, v, hp, hb.trans h1, rows_keep1 hown (fun k hk => hr k (e ▸ hk)), e⟩
where
  rows_keep1 {B n : Nat} {t : TypeId} {v : Value} {k : Nat} {vs : List Value} (h : w.ownsRow B t k v n vs) (hk : ∀ j, v.ownBlock = some j → w'.heap[j]? = w.heap[j]?) : w'.ownsRow B t k v n vs := by
    rcases h.2 with ⟨hv, h0⟩ | ⟨g, cap, cur, hv, h1, h2, h3⟩
    · exact ⟨h.1, .inl ⟨hv, h0⟩⟩
    · exact ⟨h.1, .inr ⟨g, cap, cur, hv, h1, (hk g (by rw [hv]; rfl)).trans h2, h3⟩⟩
end
theorem infoBuilder : (Try.prog.info? 106).map (fun i => i.size) = some 2 := by kernel_rfl
set_option maxHeartbeats 1000000 in
set_option maxRecDepth 100000 in
theorem check_used (b : Nat) (w : World) (h0 : w.cell? ⟨b, 0, none⟩ = some (.pointer (some ⟨b, 0, none⟩))) :
    Calls Try.prog 87 #[.pointer (some ⟨b, 0, none⟩)] w fun e w' => e = .returned (.tuple #[]) ∧ w' = w := by
  obtain ⟨j, hj, _⟩ := Option.map_eq_some_iff.1 infoBuilder
  go_enter Try.func87, Try.ntmps87
  go_wp2
  rw [Lib.run_neq_ptr_same w _ Try.underlying104 hj]
  go_wp2
  go_end0
  exact ⟨rfl, rfl⟩
set_option maxHeartbeats 1000000 in
set_option maxRecDepth 100000 in
theorem check_fresh (b : Nat) (w : World) (h0 : w.cell? ⟨b, 0, none⟩ = some (.pointer none)) (hsh : w.shape? b = some (106, 2)) (hfz : w.frozen? ⟨b, 0, none⟩ = false) :
    Calls Try.prog 87 #[.pointer (some ⟨b, 0, none⟩)] w fun e w' => e = .returned (.tuple #[]) ∧ w' = w.setCell ⟨b, 0, none⟩ (.pointer (some ⟨b, 0, none⟩)) := by
  obtain ⟨j, hj, hjs⟩ := Option.map_eq_some_iff.1 infoBuilder
  go_enter Try.func87, Try.ntmps87
  go_wp2
  rw [Lib.run_to_unsafe w ⟨b, 0, none⟩ Try.underlying104 Try.underlying168 hj (by rw [hjs]; decide) hsh (Nat.zero_lt_succ 1)]
  simp only [Result.andThen]
  rw [Oper.upon_value]
  go_wp2
  rw [run_callFunc_extern Try.func101 (by kernel_rfl) (by kernel_rfl) (by kernel_rfl) (e := Extern.AbiNoEscape.same) (by kernel_rfl)]
  rw [Lib.run_noEscape]
  simp only [Result.andThen]
  rw [Oper.upon_value]
  go_wp2
  rw [Lib.run_from_unsafe w ⟨b, 0, none⟩ Try.underlying168 Try.underlying104 hj hsh (by kernel_rfl)]
  simp only [Result.andThen]
  rw [Oper.upon_value]
  go_wp2
  go_end0
  exact ⟨rfl, rfl⟩
theorem check_any (base b : Nat) (v p : Value) (w : World) (hp : p = .pointer none ∨ p = .pointer (some ⟨b, 0, none⟩)) (hb : w.heap[b]? = some (buObj p v)) :
    Calls Try.prog 87 #[.pointer (some ⟨b, 0, none⟩)] w fun e w' => e = .returned (.tuple #[]) ∧ (w'.heap[b]? = some (buObj (.pointer (some ⟨b, 0, none⟩)) v) ∧ Kept b none w w') := by
  have c0 : w.cell? ⟨b, 0, none⟩ = some p := by rw [Lib.cell_of_heap hb]; rfl
  rcases hp with rfl | rfl
  · refine (check_fresh b w c0 (by simp [World.shape?, hb, buObj]) (Lib.frozen_of_heap hb 0)).mono ?_
    rintro e w' ⟨rfl, rfl⟩
    refine ⟨rfl, by rw [Joins.block_setCell hb]; rfl, ⟨rfl, rfl, rfl, by simp [World.setCell], fun k _ hk _ => Below.heap_setCell w ⟨b, 0, none⟩ _ k hk⟩⟩
  · refine (check_used b w c0).mono ?_
    rintro e w' ⟨rfl, rfl⟩
    exact ⟨rfl, hb, Kept.refl _ _ _⟩
set_option maxHeartbeats 2000000 in
set_option maxRecDepth 100000 in
theorem write_any (base b : Nat) (r : Option Nat) (bs : List UInt8) (s : ByteArray) (w : World) (h : BuAt w base b r bs) (hlen : bs.length + s.size ≤ 140737488355328) (hB : base ≤ w.heap.size) :
    Calls Try.prog 61 #[.pointer (some ⟨b, 0, none⟩), .string s] w fun e w' => e = .returned (.tuple #[.int .i64 s.size, .nilIface]) ∧ ∃ r', BuAt w' base b r' (bs ++ s.data.toList) ∧ Step b w r w' r' := by
  obtain ⟨i0, hi, hz0, hz1, hz2⟩ := info_parts info8
  obtain ⟨p, v, hp, hbk, hown, rfl⟩ := h
  have hne : v.ownBlock ≠ some b := fun e => (BuAt.row ⟨p, v, hp, hbk, hown, rfl⟩ b e).2.2 rfl
  have HC : Hid _ := check_any base b v p w hp hbk
  have HOW : Hid _ := hown
  have hbl := lt_of_block hbk
  clear hp hown hbk
  go_enter Try.func61, Try.ntmps61
  go_wp2_with fail
  refine (show Calls _ _ _ _ _ from HC.out).mono ?_
  rintro e w1 ⟨rfl, hb1, hk1⟩
  have hown1 : w1.ownsRow base 5 1 v bs.length (bs.map B8) := own_keep HOW.out (fun k hk => hk1.block k (World.ownsRow.lt HOW.out k hk).2 (fun e => hne (e ▸ hk)) (by simp))
  have c1 : w1.cell? ⟨b, 1, none⟩ = some v := by rw [Lib.cell_of_heap hb1]; rfl
  have hs1 := hk1.size
  clear HC
  go_wp2_with (at_builtin; refine wpList_append_str_at _ rfl _ _ 67 9 rfl base 5 i0 Try.underlying67 Try.underlying9 hi hz0 hz1 hz2 _ _ _ rfl hown1 s rfl ?c3 ?c4 ?c5 ?_)
  case c3 => unfold maxLen; omega
  case c4 => omega
  case c5 => omega
  intro v' w2 hown' hgrow hat
  have hb2 : w2.heap[b]? = some (buObj (.pointer (some ⟨b, 0, none⟩)) v) := (hgrow.block b (by omega) (fun e => hne e.symm)).trans hb1
  have d1 : w2.cell? ⟨b, 1, none⟩ = some v := by rw [Lib.cell_of_heap hb2]; rfl
  have f1 : w2.frozen? ⟨b, 1, none⟩ = false := Lib.frozen_of_heap hb2 1
  have HE : Hid (∃ r', BuAt (w2.setCell ⟨b, 1, none⟩ v') base b r' (bs ++ s.data.toList) ∧ Step b w v.ownBlock (w2.setCell ⟨b, 1, none⟩ v') r') := by
    have hset : ∀ k, k ≠ b → (w2.setCell ⟨b, 1, none⟩ v').heap[k]? = w2.heap[k]? := fun k hk => Below.heap_setCell w2 ⟨b, 1, none⟩ v' k hk
    have hne' : v'.ownBlock ≠ some b := fun e => by
      rcases hat with h1 | h1
      · exact hne (h1 ▸ e)
      · rw [h1] at e; cases e; omega
    refine ⟨v'.ownBlock, ⟨.pointer (some ⟨b, 0, none⟩), v', .inr rfl, ?_, ?_, rfl⟩, ⟨⟨?_, ?_, ?_, ?_, ?_⟩, ?_⟩⟩
    · rw [Joins.block_setCell hb2]; rfl
    · exact own_keep (own_bytes rfl hown') (fun k hk => hset k (fun e => hne' (e ▸ hk)))
    · exact hgrow.os.trans hk1.os
    · exact hgrow.tape.trans hk1.tape
    · exact hgrow.output.trans hk1.output
    · have := hgrow.size; simp [World.setCell]; omega
    · intro k hk hkb hkr
      exact (hset k hkb).trans ((hgrow.block k (by omega) hkr).trans (hk1.block k hk hkb (by simp)))
    · rcases hat with h1 | h1
      · exact .inl h1
      · exact .inr ⟨_, h1, hs1⟩
  obtain ⟨ao, n', cap, rfl⟩ : ∃ ao n' cap, v' = .slice ao n' cap := by
    rcases hown'.2 with ⟨hv, _⟩ | ⟨g, cap, cur, hv, _⟩
    · exact ⟨_, _, _, hv⟩
    · exact ⟨_, _, _, hv⟩
  clear hown' hgrow hat hown1 hb1 hk1
  go_wp2
  go_ret2
  exact ⟨rfl, HE.out⟩
theorem own_slice {w : World} {B n : Nat} {v : Value} {vs : List Value} (h : w.ownsRow B 5 1 v n vs) : ∃ ao cap, v = .slice ao n cap := by
  rcases h.2 with ⟨hv, h0⟩ | ⟨g, cap, cur, hv, _⟩
  · exact ⟨none, 0, by rw [hv, h0]⟩
  · exact ⟨_, _, hv⟩
set_option maxRecDepth 100000 in
theorem len_any (base b : Nat) (r : Option Nat) (bs : List UInt8) (w : World) (h : BuAt w base b r bs) :
    Calls Try.prog 60 #[.pointer (some ⟨b, 0, none⟩)] w fun e w' => e = .returned (.int .i64 (bs.length : Nat)) ∧ w' = w := by
  obtain ⟨p, v, hp, hbk, hown, rfl⟩ := h
  obtain ⟨ao, cap, rfl⟩ := own_slice hown
  have c1 : w.cell? ⟨b, 1, none⟩ = some (.slice ao bs.length cap) := by rw [Lib.cell_of_heap hbk]; rfl
  clear hown hbk
  go_enter Try.func60, Try.ntmps60
  go_wp2
  go_ret
  exact ⟨rfl, rfl⟩
/-- All but the row lies as it lay. -/
def Rest (r : Option Nat) (w w' : World) : Prop := w'.os = w.os ∧ w'.tape = w.tape ∧ w'.output = w.output ∧ w.heap.size ≤ w'.heap.size ∧ ∀ k, k < w.heap.size → some k ≠ r → w'.heap[k]? = w.heap[k]?
set_option maxHeartbeats 2000000 in
set_option maxRecDepth 100000 in
theorem string_any (base b : Nat) (r : Option Nat) (bs : List UInt8) (w : World) (h : BuAt w base b r bs) (hl : bs.length ≤ 140737488355328) :
    Calls Try.prog 62 #[.pointer (some ⟨b, 0, none⟩)] w fun e w' => e = .returned (.string ⟨bs.toArray⟩) ∧ Rest r w w' := by
  obtain ⟨p, v, hp, hbk, hown, rfl⟩ := h
  have hbk' : w.drew.heap[b]? = some (buObj p v) := hbk
  rcases hown.2 with ⟨rfl, h0⟩ | ⟨g, cap, cur, rfl, hbg, hg, hnc, hcm, hcs, htake⟩
  · have : bs = [] := List.eq_nil_of_length_eq_zero h0
    subst this
    have c1 : w.drew.cell? ⟨b, 1, none⟩ = some (.slice none 0 0) := by rw [Lib.cell_of_heap hbk']; rfl
    have hUS : ∀ (q : Option Addr) (W : World), (Builtin.unsafeString_ #[147, 3] 9 #[.pointer q, .int .i64 0]).run Try.prog W = .ok (.string .empty) W := fun q W => Lib.run_unsafeString_none W _ _ _ q
    have hSD : (Builtin.unsafeSliceData_ #[67] 147 #[.slice none 0 0]).run Try.prog w.drew = .ok (.pointer none) w.drew := Lib.run_unsafeSliceData_nil _ _ _ _ _
    clear hown hbk hbk'
    go_enter Try.func62, Try.ntmps62
    go_wp2
    go_region
    all_goals (go_wp2; go_ret; exact ⟨rfl, rfl, rfl, rfl, Nat.le_refl _, fun _ _ _ => rfl⟩)
  · by_cases hb0 : bs = []
    · subst hb0
      have hg' : w.drew.heap[g]? = some (.cells cur 5 (0, 0)) := hg
      have c1 : w.drew.cell? ⟨b, 1, none⟩ = some (.slice (some ⟨g, 0, none⟩) 0 cap) := by rw [Lib.cell_of_heap hbk']; rfl
      have hUS : ∀ (q : Option Addr) (W : World), (Builtin.unsafeString_ #[147, 3] 9 #[.pointer q, .int .i64 0]).run Try.prog W = .ok (.string .empty) W := fun q W => Lib.run_unsafeString_none W _ _ _ q
      by_cases hc0 : cap = 0
      · subst hc0
        have hSD : (Builtin.unsafeSliceData_ #[67] 147 #[.slice (some ⟨g, 0, none⟩) 0 0]).run Try.prog w.drew = .ok (.pointer (some ⟨w.drew.heap.size, 0, none⟩)) (w.drew.alloc (.view ⟨g, 0, none⟩ 5)) := Lib.run_unsafeSliceData_zero w.drew _ _ 5 Try.underlying147 ⟨g, 0, none⟩ 0 (5, cur.size) (by simp [World.shape?, hg'])
        have c2 : (w.drew.alloc (.view ⟨g, 0, none⟩ 5)).cell? ⟨b, 1, none⟩ = some (.slice (some ⟨g, 0, none⟩) 0 0) := (World.cell?_of_block (Below.heap_alloc _ _ _ (lt_of_block hbk'))).trans c1
        have c3 : (w.alloc (.view ⟨g, 0, none⟩ 5)).cell? ⟨b, 1, none⟩ = some (.slice (some ⟨g, 0, none⟩) 0 0) := c2
        have c4 : (w.alloc (.view ⟨g, 0, none⟩ 5)).drew.cell? ⟨b, 1, none⟩ = some (.slice (some ⟨g, 0, none⟩) 0 0) := c2
        have HR : Hid (Rest (some g) w (w.drew.alloc (.view ⟨g, 0, none⟩ 5))) := ⟨rfl, rfl, rfl, by simp, fun k hk _ => Below.heap_alloc _ _ _ hk⟩
        clear hown hbk hbk' hg hg'
        go_enter Try.func62, Try.ntmps62
        go_wp2
        go_region
        all_goals (go_wp2; go_ret; exact ⟨rfl, HR.out⟩)
      · have hSD : (Builtin.unsafeSliceData_ #[67] 147 #[.slice (some ⟨g, 0, none⟩) 0 cap]).run Try.prog w.drew = .ok (.pointer (some ⟨g, 0, none⟩)) w.drew := Lib.run_unsafeSliceData_row _ _ _ _ _ _ hc0
        clear hown hbk hbk' hg hg'
        go_enter Try.func62, Try.ntmps62
        go_wp2
        go_region
        all_goals (go_wp2; go_ret; exact ⟨rfl, rfl, rfl, rfl, Nat.le_refl _, fun _ _ _ => rfl⟩)
    · have hl0 : bs.length ≠ 0 := by simpa using hb0
      have c1 : w.drew.cell? ⟨b, 1, none⟩ = some (.slice (some ⟨g, 0, none⟩) bs.length cap) := by rw [Lib.cell_of_heap hbk']; rfl
      have hSD : (Builtin.unsafeSliceData_ #[67] 147 #[.slice (some ⟨g, 0, none⟩) bs.length cap]).run Try.prog w.drew = .ok (.pointer (some ⟨g, 0, none⟩)) w.drew := Lib.run_unsafeSliceData_row _ _ _ _ _ _ (by omega)
      have hUS : (Builtin.unsafeString_ #[147, 3] 9 #[.pointer (some ⟨g, 0, none⟩), .int .i64 bs.length]).run Try.prog w.drew = .ok (.string ⟨bs.toArray⟩) (w.drew.freeze ⟨g, 0, none⟩ bs.length) := by
        refine Lib.run_unsafeString_row w.drew 147 3 9 5 Try.underlying147 (by kernel_rfl) g cur.size (by have hg' : w.drew.heap[g]? = some (.cells cur 5 (0, 0)) := hg; simp [World.shape?, hg']) bs hb0 (by omega) (by omega) ?_
        intro j x hx
        exact hown.cells (g := g) rfl j (.int .u8 x.toNat) (by simp [hx, B8])
      have HR : Hid (Rest (some g) w (w.drew.freeze ⟨g, 0, none⟩ bs.length)) := by
        have hne : ¬ bs.length = 0 := hl0
        unfold World.freeze Rest
        rw [if_neg hne]
        refine ⟨rfl, rfl, rfl, by simp, fun k hk hkr => ?_⟩
        simp only [Array.getElem?_modify]
        rw [if_neg (fun e => hkr (by rw [← e]))]
        rfl
      clear hown hbk hbk' hg htake hcs
      go_enter Try.func62, Try.ntmps62
      go_wp2
      go_region
      all_goals (go_wp2; go_ret; exact ⟨rfl, HR.out⟩)
end Go.Proofs.Ytedjohkdfchocaa.Tb

/-
  A region that draws its order, inside a round of a loop over a function: walked as it is walked elsewhere.
-/
namespace Go.Proofs.Ytedjohkdfchocaa.Cm
open Go.RowKit
set_option linter.unusedVariables false

/-- Q, and nothing at a run without room. -/
def NoOut (Q : Exit → Act → World → Prop) : Exit → Act → World → Prop
  | .outgrown, _, _ => False
  | e, a, w => Q e a w
theorem NoOut.imp {Q : Exit → Act → World → Prop} : ∀ (e : Exit) (a : Act) (w : World), NoOut Q e a w → Q e a w := fun e a w h => by
  cases e <;> first | exact h | exact (h : False).elim
theorem oper_round {l n : Nat} {P : Program} {o : Oper} {a : Act} {w : World} {K : Act → World → Prop} {Q : Exit → Act → World → Prop} (hd : ∀ c, o.op ≠ .defer c) (h : o.wp P a w K Q) : o.wpIn (Fence.wide.inRound l) n P a w K Q := by
  refine ⟨fun _ _ => trivial, ?_⟩
  rw [Oper.semAt_eq _ _ _ hd]
  unfold Oper.wp at h
  generalize (execOp a.eval o).run P w = r at *
  have hdep : ((Fence.wide.inRound l).depth.isSome = true → 1 ≤ n) := fun h => by cases h
  cases r with
  | ok x w' =>
    cases x <;> simp only [Oper.upon, Oper.uponIn] at h ⊢ <;>
      first
        | exact h
        | exact ⟨hdep, CallsIn.inRound l (callsIn_wide.2 h)⟩
        | exact ⟨hdep, fun c cs _ => let ⟨v, w', r, s⟩ := h c cs; ⟨v, w', r, stepsIn_wide.2 s⟩⟩
        | exact h.elim
  | halt x w' => cases x <;> simp only [Oper.upon, Oper.uponIn] at h ⊢ <;> exact h
def noDefer (ops : Array Oper) : Bool := ops.all fun o => match o.op with
  | .defer _ => false
  | _ => true
theorem noDefer_at {ops : Array Oper} (h : noDefer ops = true) {i : Nat} {o : Oper} (ho : ops[i]? = some o) : ∀ c, o.op ≠ .defer c := fun c e => by
  unfold noDefer at h
  rw [Array.all_eq_true] at h
  obtain ⟨hi, rfl⟩ := Array.getElem?_eq_some_iff.1 ho
  have := h i hi
  rw [e] at this
  cases this
theorem any_round {l n : Nat} {P : Program} {md : Region.Mode} {ops : Array Oper} {Q : Exit → Act → World → Prop} (hd : noDefer ops = true) (hL : ¬ LetsOut Q) :
    ∀ (fuel : Nat) (listed : Array Bool) (a : Act) (w : World), wpAny P md ops Q fuel listed a w → wpAnyIn (Fence.wide.inRound l) n P md ops Q fuel listed a w := by
  intro fuel
  induction fuel with
  | zero => exact fun listed a w h => h
  | succ fuel ih =>
    intro listed a w h
    refine ⟨h.1, fun i hi => ?_⟩
    have hop := h.2 i hi
    unfold wpOp at hop
    unfold wpOpIn
    split at hop
    · rename_i hn
      simp only [hn]
      exact ih _ _ _ hop
    · rename_i o ho
      simp only [ho]
      split
      · rename_i hw
        rw [if_pos hw] at hop
        rcases hop with hop | ⟨_, hl⟩
        · exact Oper.wpIn_mono (fun a w => ih _ a w) (oper_round (noDefer_at hd ho) hop)
        · exact absurd hl hL
      · rename_i hw
        rw [if_neg hw] at hop
        exact ⟨fun _ _ => trivial, ih _ _ _ hop⟩
theorem region_round {l n id : Nat} {P : Program} {ops : Array Oper} {Q : Exit → Act → World → Prop} {S : World → Prop} {a : Act} {w : World} (hm : P.follows .mixedOrders = true) (hd : noDefer ops = true) (hS : S w.drew)
    (h : S w.drew → wpAnyH P .any ops (NoOut Q) S ops.size (Array.replicate ops.size false) a w.drew) : (Code.region id ops true).wpIn (Fence.wide.inRound l) n P Q a w :=
  wpIn_mono (wpIn_region_any hm (any_round hd (fun ⟨_, _, h⟩ => h) _ _ _ _ (wpAny_of_held _ _ _ _ (h hS)))) NoOut.imp
end Go.Proofs.Ytedjohkdfchocaa.Cm

/-
  For all layers: rows of structs of some cells each: a plain list, its cells, append, an owned row as a slice.
-/
namespace Go.Proofs.Ytedjohkdfchocaa.Cm
open Go.RowKit
set_option linter.unusedVariables false

/-- How an element lies in memory: sz cells. -/
structure Shape (α : Type) where
  sz : Nat
  enc : α → List Value
  pos : 0 < sz
  len : ∀ a, (enc a).length = sz
  one : ∀ a, ∀ u ∈ enc a, u.oneCell' = true
section
variable {α : Type} (F : Shape α)
def Shape.vals (xs : List α) : List Value := xs.flatMap F.enc
theorem Shape.vals_nil : F.vals [] = [] := rfl
theorem Shape.vals_cons (x : α) (xs : List α) : F.vals (x :: xs) = F.enc x ++ F.vals xs := rfl
theorem Shape.vals_append (a b : List α) : F.vals (a ++ b) = F.vals a ++ F.vals b := by simp [Shape.vals]
theorem Shape.vals_length (xs : List α) : (F.vals xs).length = xs.length * F.sz := by
  induction xs with
  | nil => simp [Shape.vals]
  | cons x xs ih => rw [Shape.vals_cons, List.length_append, ih, F.len, List.length_cons, Nat.add_mul]; omega
theorem Shape.vals_one (xs : List α) : ∀ u ∈ F.vals xs, u.oneCell' = true := by
  intro u hu
  obtain ⟨p, _, hp⟩ := List.mem_flatMap.1 hu
  exact F.one p u hp
theorem Shape.vals_get (xs : List α) (i : Nat) (h : i < xs.length) (j : Nat) (hj : j < F.sz) : (F.vals xs)[i * F.sz + j]? = (F.enc xs[i])[j]? := by
  induction xs generalizing i with
  | nil => simp at h
  | cons x xs ih =>
    rw [Shape.vals_cons]
    cases i with
    | zero => rw [List.getElem?_append_left (by rw [F.len]; omega)]; simp
    | succ i =>
      have h' : i < xs.length := by simpa using h
      have e : (i + 1) * F.sz + j = F.sz + (i * F.sz + j) := by rw [Nat.add_mul]; omega
      rw [e, List.getElem?_append_right (by rw [F.len]; omega), F.len, Nat.add_sub_cancel_left, ih i h']
      rfl
/-- A slice whose elements are xs. -/
def ElemsAt (w : World) (ao : Option Addr) (xs : List α) : Prop :=
  xs = [] ∨ ∃ b off, ao = some ⟨b, off, none⟩ ∧ b < w.heap.size ∧ ∀ i (h : i < xs.length) j u, (F.enc xs[i])[j]? = some u → w.cell? ⟨b, off + i * F.sz + j, none⟩ = some u
variable {F} {w w' : World} {ao : Option Addr} {xs : List α}
theorem ElemsAt.keep (h : ElemsAt F w ao xs) (hk : ∀ a, ao = some a → a.block < w.heap.size → w'.heap[a.block]? = w.heap[a.block]?) (hs : w.heap.size ≤ w'.heap.size) : ElemsAt F w' ao xs := by
  rcases h with h | ⟨b, off, rfl, hlt, hc⟩
  · exact .inl h
  · exact .inr ⟨b, off, rfl, by omega, fun i hi j u hu => by
      have hq : ∀ o, w'.cell? ⟨b, o, none⟩ = w.cell? ⟨b, o, none⟩ := fun o => World.cell?_of_block (show w'.heap[b]? = w.heap[b]? from hk ⟨b, off, none⟩ rfl hlt)
      rw [hq]; exact hc i hi j u hu⟩
theorem ElemsAt.below (h : ElemsAt F w ao xs) {B : Nat} (hb : Below B w w') (hB : ∀ a, ao = some a → a.block < B) : ElemsAt F w' ao xs :=
  h.keep (fun a e _ => hb.block _ (hB a e)) hb.size
theorem ElemsAt.later (h : ElemsAt F w ao xs) (hb : Below w.heap.size w w') : ElemsAt F w' ao xs := h.keep (fun a e hl => hb.block _ hl) hb.size
theorem ElemsAt.vals (h : ElemsAt F w ao xs) {ad : Addr} (e : ao = some ad) : ∀ j u, (F.vals xs)[j]? = some u → w.cell? (ad.add j) = some u := by
  intro j u hu
  rcases h with rfl | ⟨b, off, he, hlt, hc⟩
  · simp [Shape.vals] at hu
  · rw [e] at he
    cases he
    have hj : j < (F.vals xs).length := (List.getElem?_eq_some_iff.1 hu).1
    rw [Shape.vals_length] at hj
    have hp := F.pos
    have hi : j / F.sz < xs.length := Nat.div_lt_of_lt_mul (by rw [Nat.mul_comm]; exact hj)
    have hm : j % F.sz < F.sz := Nat.mod_lt _ hp
    have ej : j / F.sz * F.sz + j % F.sz = j := Nat.div_add_mod' j F.sz
    have := F.vals_get xs (j / F.sz) hi (j % F.sz) hm
    rw [ej, hu] at this
    have hcc := hc (j / F.sz) hi (j % F.sz) u this.symm
    rw [Go.WideShapes.add_plain]
    rw [Nat.add_assoc, ej] at hcc
    exact hcc
/-- An owned row as a slice. -/
theorem own_rows {B : Nat} {t : TypeId} {v : Value} (h : w.ownsRow B t F.sz v xs.length (F.vals xs)) :
    ∃ ao cap, v = .slice ao xs.length cap ∧ (ao = none → cap = 0) ∧ (∀ a, ao = some a → v.ownBlock = some a.block ∧ B ≤ a.block ∧ a.block < w.heap.size) ∧ xs.length ≤ cap ∧ ElemsAt F w ao xs := by
  rcases h.2 with ⟨rfl, hn⟩ | ⟨g, cap, cur, rfl, hB, hg, hle, _⟩
  · have : xs = [] := List.eq_nil_of_length_eq_zero hn
    subst this
    exact ⟨none, 0, rfl, fun _ => rfl, fun a h => (by cases h), Nat.le_refl _, .inl rfl⟩
  · refine ⟨some ⟨g, 0, none⟩, cap, rfl, fun h => (by cases h), fun a ha => (by cases ha; exact ⟨rfl, hB, lt_of_block hg⟩), hle, ?_⟩
    refine .inr ⟨g, 0, rfl, lt_of_block hg, fun i hi j u hu => ?_⟩
    have hj : j < F.sz := by rw [← F.len xs[i]]; exact (List.getElem?_eq_some_iff.1 hu).1
    have := h.cells (g := g) rfl (i * F.sz + j) u (by rw [F.vals_get xs i hi j hj]; exact hu)
    rw [Go.WideShapes.add_plain, ← Nat.add_assoc] at this
    exact this
theorem rows_keep {B n : Nat} {t : TypeId} {v : Value} {k : Nat} {vs : List Value} (h : w.ownsRow B t k v n vs) (hk : ∀ j, v.ownBlock = some j → w'.heap[j]? = w.heap[j]?) : w'.ownsRow B t k v n vs := by
  refine ⟨h.1, ?_⟩
  rcases h.2 with h | ⟨g, cap, cur, rfl, h1, hg, h2⟩
  · exact .inl h
  · exact .inr ⟨g, cap, cur, rfl, h1, (hk g rfl).trans hg, h2⟩
/-- A row and a block of another kind are two. -/
theorem rows_far {B n g k : Nat} {t : TypeId} {v : Value} {vs : List Value} {o : Obj} (h : w.ownsRow B t k v n vs) (hg : w.heap[g]? = some o) (ho : ∀ cs, o ≠ .cells cs t (0, 0)) : v.ownBlock ≠ some g := by
  intro e1
  rcases h.2 with ⟨rfl, _⟩ | ⟨j, cap, cur, rfl, _, hk, _⟩
  · simp [Value.ownBlock] at e1
  · simp [Value.ownBlock] at e1
    subst e1
    rw [hg] at hk
    exact ho _ (by simpa using hk)
/-- append of a slice (nil or not) to an owned row of such elements. -/
theorem wpList_append_rows {P : Program} (w : World) {ops : Array Oper} {rest : List Oper} {o : Oper} {a : Act} {Q : Exit → Act → World → Prop} (hgd : o.guard = none) (s x : Operand) (t : TypeId)
    (ho : o.op = .call { callee := .builtin .append, args := #[s, x], argTypes := #[t, t] })
    (base : Nat) (e : TypeId) (i : TypeInfo) (z : Value) (bytes : Nat) (ht : P.underlying t = some (.slice e)) (hi : P.info? e = some i) (hz : i.zero = some z)
    (hsize : i.size = F.sz) (hby : i.bytes = bytes) (hzs : z.cells.size = F.sz)
    (v : Value) (n : Nat) (ps : List α) (hs : a.eval s = v) (hown : w.ownsRow base e F.sz v n (F.vals ps))
    (ao : Option Addr) (m c : Nat) (qs : List α) (hx : a.eval x = .slice ao m c) (hnil : ao = none → c = 0) (hl : qs.length = m) (hnews : ElemsAt F w ao qs)
    (h63 : n + m ≤ maxLen) (hbytes : (n + m) * bytes ≤ 140737488355328) (hbase : base ≤ w.heap.size)
    (h : ∀ v' w', w'.ownsRow base e F.sz v' (n + m) (F.vals (ps ++ qs)) → w.grownBy w' v.ownBlock → (v'.ownBlock = v.ownBlock ∨ v'.ownBlock = some w.heap.size) → wpList P ops Q rest (a.put o.dst v') w') :
    wpList P ops Q (o :: rest) a w := by
  cases ao with
  | none =>
    have hn : qs = [] := by
      rcases hnews with h | ⟨b, off, h, _⟩
      · exact h
      · cases h
    subst hn
    have hm : m = 0 := by simpa using hl.symm
    have hc := hnil rfl
    subst hm hc
    exact wpList_append_own_none hgd s x t ho base e i F.sz ht hi v n _ hs hown hx (h v w (by simpa using hown) ⟨rfl, rfl, rfl, Nat.le_refl _, fun _ _ _ => rfl⟩ (.inl rfl))
  | some ad =>
    exact wpList_append_own_at w hgd s x t ho base e i z F.sz bytes ht hi hz hsize hby hzs F.pos v n (F.vals ps) hs hown ad m c (F.vals qs) hx (by rw [F.vals_length, hl]) (hnews.vals rfl) (F.vals_one qs) h63 hbytes hbase (fun v' w' a1 a2 _ a4 => h v' w' (by rw [F.vals_append]; exact a1) a2 a4)
end
end Go.Proofs.Ytedjohkdfchocaa.Cm
