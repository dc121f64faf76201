/-
  Package order's writer: a part's bytes put behind those that were put.
-/
import Derived.Test.YtceghgbkiafklaaDoorOrderHeap
import Derived.Test.YtceghgbkiafklaaDoorOrderShelf
import Derived.Laws.BitsAllLaws
import Derived.BigQuiet
import Derived.Deep.RegionHeld3
import Derived.Deep.RegionWith
import Derived.Deep.DrawnRows
namespace Go.Proofs.YtceghgbkiafklaaDoor.Od
open Go.RowKit
open Go.Proofs.YtceghgbkiafklaaDoor.Cm
attribute [local go_sem ↓] Go.wp_at_zero Go.wp_at_succ
set_option linter.unusedVariables false

def pv (p : Pt) : Value := .agg #[.int .i64 p.k, .int .i64 p.n, .string p.s]
theorem empty_eq {s : ByteArray} (h : s.size = 0) : s = ⟨#[]⟩ := by
  apply bytes_inj
  have : s.data.toList.length = 0 := by rw [Array.length_toList]; exact h
  rw [List.length_eq_zero_iff.1 this]
theorem text_ne {a b : ByteArray} (h : a ≠ b) : (a.toList == b.toList) = false := (Lib.bytes_beq_false_iff a b).2 h

set_option maxRecDepth 100000 in
set_option maxHeartbeats 500000 in
theorem right_any (p : Pt) (w : World) :
    Calls Tryd.prog 21 #[pv p] w fun e w' => e = .returned (.bool (decide (right p))) ∧ Below w.heap.size w w' := by
  obtain ⟨k, n, s⟩ := p
  unfold pv
  by_cases h1 : k = 1
  · subst h1
    by_cases hs : s.size = 0
    · obtain rfl := empty_eq hs
      have hd : decide (right ⟨1, n, ⟨#[]⟩⟩) = true := decide_eq_true (.inl ⟨rfl, rfl⟩)
      rw [hd]
      go_enter Tryd.func21, Tryd.ntmps21
      go_wp2
      go_ret
      exact ⟨rfl, (Below.refl _ _).alloc (Nat.le_refl _) _⟩
    · have hd : decide (right ⟨1, n, s⟩) = false := decide_eq_false (by rintro (⟨_, h⟩ | ⟨h, _⟩); exact hs h; simp at h)
      rw [hd]
      have hne : s.toList.isEmpty = false := by
        cases hl : s.toList with
        | nil => rw [Lib.toList_data] at hl; exact absurd (by rw [Lib.size_eq, hl]; rfl) hs
        | cons x l => rfl
      go_enter Tryd.func21, Tryd.ntmps21
      go_wp2
      go_ret
      exact ⟨rfl, (Below.refl _ _).alloc (Nat.le_refl _) _⟩
  · have e1 : (k == 1) = false := by simpa using h1
    by_cases h2 : k = 2
    · subst h2
      by_cases hn : n = 0
      · subst hn
        have hd : decide (right ⟨2, 0, s⟩) = true := decide_eq_true (.inr ⟨rfl, rfl⟩)
        rw [hd]
        clear h1 e1
        go_enter Tryd.func21, Tryd.ntmps21
        go_wp2
        go_ret
        exact ⟨rfl, (Below.refl _ _).alloc (Nat.le_refl _) _⟩
      · have hd : decide (right ⟨2, n, s⟩) = false := decide_eq_false (by rintro (⟨h, _⟩ | ⟨_, h⟩); simp at h; exact hn h)
        rw [hd]
        have e2 : (n == 0) = false := by simpa using hn
        clear h1 e1
        go_enter Tryd.func21, Tryd.ntmps21
        go_wp2
        go_ret
        exact ⟨rfl, (Below.refl _ _).alloc (Nat.le_refl _) _⟩
    · have hd : decide (right ⟨k, n, s⟩) = false := decide_eq_false (by rintro (⟨h, _⟩ | ⟨h, _⟩); exact h1 h; exact h2 h)
      rw [hd]
      have e2 : (k == 2) = false := by simpa using h2
      go_enter Tryd.func21, Tryd.ntmps21
      go_wp2
      go_ret
      exact ⟨rfl, (Below.refl _ _).alloc (Nat.le_refl _) _⟩

theorem GAt.cells1 {w : World} {base b : Nat} {ty : TypeId} {tail : List Value} {r : Option Nat} {bs : List UInt8} (h : GAt w base b ty tail r bs) : ∃ v, w.cell? ⟨b, 0, none⟩ = some v := by
  obtain ⟨v, hc, _⟩ := h.cell
  exact ⟨v, hc⟩
theorem news_of {w : World} (c : UInt8) (t : TypeId) : CellsAt (w.alloc (.cells #[B8 c] t)) (some ⟨w.heap.size, 0, none⟩) ([c].map B8) := by
  refine .inr ⟨w.heap.size, 0, rfl, by simp, fun j hj => ?_⟩
  have hj : j = 0 := by simpa using hj
  subst hj
  rw [Joins.cell_of_block (heap_alloc_new w _)]
  rfl

set_option maxRecDepth 100000 in
set_option maxHeartbeats 500000 in
theorem putTxt_any (base b : Nat) (r : Option Nat) (bs : List UInt8) (s : ByteArray) (ty : TypeId) (tail : List Value) (w : World) (hw : GAt w base b ty tail r bs) (hm : MaxOk w) (hb0 : 0 < base) (hbb : 0 ≠ b)
    (hs : s.size < 4294967281) (hsz : bs.length + 2 * s.size + 3 ≤ 140737488355328) (hbase : base ≤ w.heap.size) :
    Calls Tryd.prog 35 #[.pointer (some ⟨b, 0, none⟩), .string s] w fun e w' => e = .returned (.tuple #[]) ∧ ∃ r', GAt w' base b ty tail r' (bs ++ 2 :: (esc s.data.toList ++ [0, 0])) ∧ Step b w r w' r' := by
  have hl := esc_length s.data.toList
  rw [← Lib.size_eq] at hl
  have he : (⟨(esc s.data.toList).toArray⟩ : ByteArray).size = (esc s.data.toList).length := by rw [Lib.size_eq]
  have HW : Hid (GAt w base b ty tail r bs) := hw
  obtain ⟨v0, hc0⟩ := hw.cells1
  clear hw
  go_enter Tryd.func35, Tryd.ntmps35
  go_wp2_with fail
  refine (put_any base b ty tail r bs [2] _ 1 1 _ (HW.out.alloc _) rfl (by decide) (news_of 2 _) (by omega) (by simp; omega)).mono ?_
  rintro e w1 ⟨rfl, r1, hw1, st1⟩
  have S1 : Hid (Step b w r w1 r1) := (Step.alloc b r w _).trans st1
  have HW1 : Hid (GAt w1 base b ty tail r1 (bs ++ [2])) := hw1
  have hm1 : MaxOk w1 := hm.keep (S1.out.kept.block 0 hm.lt hbb (fun e => by have := (HW.out.row_ge 0 e.symm).1; omega))
  have hs1 := S1.out.kept.size
  clear st1 hw1
  have HP : Hid (∀ w2 : World, Below w1.drew.heap.size w1.drew w2 → Calls Tryd.prog 43 #[.pointer (some ⟨b, 0, none⟩), .string ⟨(esc s.data.toList).toArray⟩] w2 fun e w3 => e = .returned (.tuple #[]) ∧ ∃ r3, GAt w3 base b ty tail r3 (bs ++ [2] ++ esc s.data.toList) ∧ Step b w2 r1 w3 r3) := fun w2 hb2 => by
    have h2 := putText_any base b ty tail r1 (bs ++ [2]) ⟨(esc s.data.toList).toArray⟩ w2 (HW1.out.below ((Below.drew (Below.refl _ w1)).trans hb2)) (by rw [he]; simp; omega) (by have h3 : w1.heap.size ≤ w2.heap.size := hb2.size; omega)
    exact h2
  have hmd : MaxOk w1.drew := hm1
  have HS : Hid (s.size < 4294967281) := hs
  clear he hs hm
  go_wp2_with fail
  go_region_held3 (fun w' => True) (trivial)
    ((first
      | (go_at_call 44; refine (replaceAll_any s _ hmd HS.out).mono ?_; rintro e w2 ⟨rfl, hb2⟩)
      | (go_at_call 43; refine (HP.out _ hb2).mono ?_; rintro e w3 ⟨rfl, r3, hw3, st3⟩)))
  have hz2 : w1.heap.size ≤ w2.heap.size := hb2.size
  have hz3 := st3.kept.size
  have S3 : Hid (Step b w r w3 r3) := S1.out.trans ((Step.of_below ((Below.drew (Below.refl _ w1)).trans hb2)).trans st3)
  have HW3 : Hid (GAt w3 base b ty tail r3 (bs ++ [2] ++ esc s.data.toList)) := hw3
  have HL : Hid (bs.length + 2 * s.size + 3 ≤ 140737488355328) := hsz
  clear hb2 st3 hw3 HP hmd HW1 S1 hm1
  go_wp2_with fail
  refine (putText_any base b ty tail r3 _ ⟨#[0, 0]⟩ _ HW3.out (by have := HL.out; simp; show _ + 2 ≤ _; omega) (by omega)).mono ?_
  rintro e w4 ⟨rfl, r4, hw4, st4⟩
  go_wp2
  go_end0
  refine ⟨rfl, r4, ?_, S3.out.trans st4⟩
  have e : bs ++ 2 :: (esc s.data.toList ++ [0, 0]) = bs ++ [2] ++ esc s.data.toList ++ (⟨#[0, 0]⟩ : ByteArray).data.toList := by simp
  rw [e]; exact hw4
theorem xor_top {m : Nat} (h : m < 18446744073709551616) : m ^^^ 9223372036854775808 = (m + 9223372036854775808) % 18446744073709551616 := by
  have e : (9223372036854775808 : Nat) = 2 ^ 63 := by decide
  by_cases hm : m < 2 ^ 63
  · have h1 : 2 ^ 63 + m = 2 ^ 63 ||| m := Nat.two_pow_add_eq_or_of_lt hm 1
    have h2 : m ^^^ 2 ^ 63 = 2 ^ 63 ||| m := by
      apply Nat.eq_of_testBit_eq
      intro i
      rw [Nat.testBit_xor, Nat.testBit_or, Nat.testBit_two_pow]
      by_cases hi : 63 = i
      · subst hi
        rw [Nat.testBit_lt_two_pow hm]; simp
      · simp [hi]
    rw [e, h2, ← h1]
    omega
  · obtain ⟨l, rfl⟩ : ∃ l, m = 2 ^ 63 + l := ⟨m - 2 ^ 63, by omega⟩
    have hl : l < 2 ^ 63 := by omega
    have h1 : 2 ^ 63 + l = 2 ^ 63 ||| l := Nat.two_pow_add_eq_or_of_lt hl 1
    have h2 : (2 ^ 63 + l) ^^^ 2 ^ 63 = l := by
      rw [h1]
      apply Nat.eq_of_testBit_eq
      intro i
      rw [Nat.testBit_xor, Nat.testBit_or, Nat.testBit_two_pow]
      by_cases hi : 63 = i
      · subst hi
        rw [Nat.testBit_lt_two_pow hl]; simp
      · simp [hi]
    rw [e, h2]
    omega
theorem wrap_u64 (n : Int) : IntKind.u64.wrap n = n % 18446744073709551616 := by simp [IntKind.wrap, IntKind.signed, IntKind.bits]
theorem wrap_u8 (n : Int) : IntKind.u8.wrap n = n % 256 := by simp [IntKind.wrap, IntKind.signed, IntKind.bits]
theorem xor_numU {n : Int} (h : inI n) : bits .xor .u64 (IntKind.u64.wrap n) 9223372036854775808 = (numU n : Int) := by
  rw [wrap_u64]
  obtain ⟨m, hm⟩ := Int.eq_ofNat_of_zero_le (show 0 ≤ n % 18446744073709551616 by omega)
  have hlt : m < 18446744073709551616 := by omega
  have := u64_xor_nat m 9223372036854775808 hlt (by omega)
  rw [hm, show (9223372036854775808 : Int) = ((9223372036854775808 : Nat) : Int) from rfl, this, xor_top hlt]
  have h1 := h.1
  have h2 := h.2
  unfold numU
  omega

set_option maxRecDepth 100000 in
set_option maxHeartbeats 500000 in
theorem putInt_any (base b : Nat) (r : Option Nat) (bs : List UInt8) (n : Int) (ty : TypeId) (tail : List Value) (w : World) (hw : GAt w base b ty tail r bs) (hn : inI n)
    (hsz : bs.length + 9 ≤ 140737488355328) (hbase : base ≤ w.heap.size) :
    Calls Tryd.prog 34 #[.pointer (some ⟨b, 0, none⟩), .int .i64 n] w fun e w' => e = .returned (.tuple #[]) ∧ ∃ r', GAt w' base b ty tail r' (bs ++ 1 :: numB n) ∧ Step b w r w' r' := by
  have hx := xor_numU hn
  obtain ⟨u, hu⟩ : ∃ u, u = numU n := ⟨_, rfl⟩
  have HU : Hid (numB n = be u) := by show be (numU n) = be u; rw [hu]
  have hult : u < 18446744073709551616 := by rw [hu]; exact numU_lt hn
  rw [← hu] at hx
  clear hu
  have HW : Hid (GAt w base b ty tail r bs) := hw
  obtain ⟨v0, hc0⟩ := hw.cells1
  clear hw hn
  go_enter Tryd.func34, Tryd.ntmps34
  go_wp2_with fail
  refine (put_any base b ty tail r bs [1] _ 1 1 _ (HW.out.alloc _) rfl (by decide) (news_of 1 _) (by omega) (by simp; omega)).mono ?_
  rintro e w1 ⟨rfl, r1, hw1, st1⟩
  have S1 : Hid (Step b w r w1 r1) := (Step.alloc b r w _).trans st1
  have HW1 : Hid (GAt w1 base b ty tail r1 (bs ++ [1])) := hw1
  have hs1 := S1.out.kept.size
  clear st1 hw1
  go_wp2
  go_loopw [14] (fun i wr => ∃ (k : Nat) (r2 : Option Nat), k ≤ 8 ∧ i = .int .i64 k ∧ Hid (GAt wr base b ty tail r2 (bs ++ 1 :: (be u).take k)) ∧ Hid (Step b w r wr r2)) (fun i _ => 8 - (intOf i).toNat)
  case atStart => exact ⟨0, r1, by omega, rfl, HW1.out, S1.out⟩
  case round =>
    obtain ⟨k, r2, hk, rfl, HG, HS⟩ := hrel
    have hsr := HS.out.kept.size
    obtain ⟨v2, hc2⟩ := HG.out.cells1
    by_cases h8 : k < 8
    · obtain ⟨j, hj⟩ : ∃ j, k + j = 7 := ⟨7 - k, by omega⟩
      have hw1 : IntKind.i64.wrap (7 - (k : Int)) = (j : Int) := by rw [IntWalk.i64_in _ ⟨by omega, by omega⟩]; omega
      obtain ⟨q, hq⟩ : ∃ q, q = 8 * j := ⟨_, rfl⟩
      have hw2 : IntKind.i64.wrap (8 * (j : Int)) = (q : Int) := by rw [IntWalk.i64_in _ ⟨by omega, by omega⟩]; omega
      have hq64 : q ≤ 64 := by omega
      obtain ⟨c, HC⟩ : ∃ c, Hid (c = (u / 256 ^ (7 - k)).toUInt8) := ⟨_, rfl⟩
      have hval : IntKind.u8.wrap ((u : Int) / 2 ^ q) = (c.toNat : Int) := by
        rw [wrap_u8, HC.out, show 7 - k = j by omega, hq, show ((2 : Int) ^ (8 * j)) = ((256 ^ j : Nat) : Int) by rw [Int.pow_mul]; simp]
        simp [Nat.toUInt8, UInt8.toNat_ofNat']
      have hlt : decide ((k : Int) < 8) = true := by simp; omega
      clear hq hj
      have HP : Hid (Calls Tryd.prog 42 #[.pointer (some ⟨b, 0, none⟩), .slice (some ⟨wr.heap.size, 0, none⟩) 1 1] (wr.alloc (.cells #[.int .u8 (c.toNat : Nat)] 5)).drew fun e w3 => e = .returned (.tuple #[]) ∧ ∃ r3, GAt w3 base b ty tail r3 (bs ++ 1 :: (be u).take k ++ [c]) ∧ Step b (wr.alloc (.cells #[.int .u8 (c.toNat : Nat)] 5)).drew r2 w3 r3) :=
        put_any base b ty tail r2 _ [c] _ 1 1 _ (HG.out.alloc _) rfl (by decide) (news_of c _) (by simp; omega) (by show base ≤ (wr.alloc _).heap.size; simp; omega)
      have HE : Hid (bs ++ 1 :: (be u).take k ++ [c] = bs ++ 1 :: (be u).take (k + 1)) := by
        show _ = _
        rw [List.take_add_one, List.append_assoc, List.cons_append]
        congr 3
        rw [HC.out, be]; simp [h8]
      go_wp2_with fail
      go_region_held3 (fun w' => True) (trivial)
       ((go_at_call 42; refine HP.out.mono ?_; rintro e w3 ⟨rfl, r3, hw3, st3⟩))
      have HW3 : Hid (GAt w3 base b ty tail r3 (bs ++ 1 :: (be u).take (k + 1))) := HE.out ▸ hw3
      have S3 : Hid (Step b w r w3 r3) := HS.out.trans ((Step.alloc b r2 wr _).trans ⟨⟨st3.kept.os, st3.kept.tape, st3.kept.output, st3.kept.size, st3.kept.block⟩, st3.row⟩)
      clear hw3 st3 HP HE hval hw1 hw2 HC
      go_wp2
      go_roundw
      case rel => exact ⟨k + 1, r3, by omega, by go_num, HW3.out, S3.out⟩
      case measure => simp [intOf]; omega
    · obtain rfl : k = 8 := by omega
      have HW3 : Hid (GAt wr base b ty tail r2 (bs ++ 1 :: be u)) := by
        have := HG.out
        rw [List.take_of_length_le (by rw [be_length]; omega)] at this
        exact this
      go_wp2
      go_end0
      exact ⟨rfl, r2, by rw [HU.out]; exact HW3.out, HS.out⟩

end Go.Proofs.YtceghgbkiafklaaDoor.Od
