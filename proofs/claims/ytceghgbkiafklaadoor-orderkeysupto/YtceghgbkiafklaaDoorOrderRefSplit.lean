/-
  The reference's loose reading of a part: it is the part that stands there, if one does.
-/
import Derived.Test.YtceghgbkiafklaaDoorOrderRefKey
import Derived.Test.YtceghgbkiafklaaDoorOrderTake
import Derived.Test.YtceghgbkiafklaaDoorOrderSplit
namespace Go.Proofs.YtceghgbkiafklaaDoor.Od
open Go.RowKit
open Go.Proofs.YtceghgbkiafklaaDoor.Cm
attribute [local go_sem ↓] Go.wp_at_zero Go.wp_at_succ
set_option linter.unusedVariables false

/-- What the loose reading answers at place n of the bytes l. -/
def LooseAns (l : List UInt8) (n : Nat) (e : Ending) : Prop :=
  ∃ (p : Pt) (m : Nat), e = .returned (.tuple #[pv p, .int .i64 (m : Int)]) ∧ right p ∧ p.ok ∧ n + p.s.size < m ∧ m ≤ l.length + 9 ∧
    (∀ q r, right q → q.ok → l.drop n = partB q ++ r → p = q ∧ m = n + (partB q).length)
/-- What was read so far of a text that begins at place n, up to place i. -/
def TextSo (l : List UInt8) (n i : Nat) (d : List UInt8) : Prop :=
  ∀ t r, l.drop n = esc t ++ 0 :: 0 :: r → ∃ t', t = d ++ t' ∧ l.drop i = esc t' ++ 0 :: 0 :: r
theorem TextSo.zero {l : List UInt8} {n : Nat} : TextSo l n n [] := fun t r h => ⟨t, rfl, h⟩
theorem drop_two {l : List UInt8} {i : Nat} (h : i + 1 < l.length) : l.drop i = l[i] :: l[i + 1] :: l.drop (i + 2) := by
  rw [List.drop_eq_getElem_cons (by omega), List.drop_eq_getElem_cons h]
theorem TextSo.plain {l d : List UInt8} {n i : Nat} (h : TextSo l n i d) (hi : i + 1 < l.length) (hx : l[i] ≠ 0) : TextSo l n (i + 1) (d ++ [l[i]]) := by
  intro t r e
  obtain ⟨t', rfl, e2⟩ := h t r e
  rw [List.drop_eq_getElem_cons (by omega)] at e2
  cases t' with
  | nil => simp only [esc, List.nil_append, List.cons.injEq] at e2; exact absurd e2.1 hx
  | cons z t' =>
    simp only [esc] at e2
    by_cases hz : z = 0
    · rw [if_pos hz] at e2; simp only [List.cons_append, List.cons.injEq] at e2; exact absurd e2.1 hx
    · rw [if_neg hz] at e2
      simp only [List.cons_append, List.cons.injEq] at e2
      exact ⟨t', by rw [e2.1]; simp, e2.2⟩
theorem TextSo.null {l d : List UInt8} {n i : Nat} (h : TextSo l n i d) (hi : i + 1 < l.length) (hx : l[i] = 0) (hy : l[i + 1] ≠ 0) : TextSo l n (i + 2) (d ++ [0]) := by
  intro t r e
  obtain ⟨t', rfl, e2⟩ := h t r e
  rw [drop_two hi] at e2
  cases t' with
  | nil => simp only [esc, List.nil_append, List.cons.injEq] at e2; exact absurd e2.2.1 hy
  | cons z t' =>
    simp only [esc] at e2
    by_cases hz : z = 0
    · rw [if_pos hz] at e2
      simp only [List.cons_append, List.cons.injEq] at e2
      exact ⟨t', by rw [hz]; simp, e2.2.2⟩
    · rw [if_neg hz] at e2
      simp only [List.cons_append, List.cons.injEq] at e2
      exact absurd (e2.1.symm.trans hx) hz
theorem TextSo.done {l d : List UInt8} {n i : Nat} (h : TextSo l n i d) (hs : ¬ (∃ hi : i + 1 < l.length, l[i] ≠ 0 ∨ l[i + 1] ≠ 0)) {t r : List UInt8} (e : l.drop n = esc t ++ 0 :: 0 :: r) : t = d ∧ i = n + (esc t).length := by
  obtain ⟨t', rfl, e2⟩ := h t r e
  have hl := congrArg List.length e2
  simp only [List.length_drop, List.length_append, List.length_cons] at hl
  have hi : i + 1 < l.length := by omega
  have hz : t' = [] := by
    rw [drop_two hi] at e2
    cases t' with
    | nil => rfl
    | cons z t' =>
      exfalso
      simp only [esc] at e2
      by_cases hz : z = 0
      · rw [if_pos hz] at e2
        simp only [List.cons_append, List.cons.injEq] at e2
        exact hs ⟨hi, .inr (by rw [e2.2.1]; decide)⟩
      · rw [if_neg hz] at e2
        simp only [List.cons_append, List.cons.injEq] at e2
        exact hs ⟨hi, .inl (by rw [e2.1]; exact hz)⟩
  subst hz
  refine ⟨by simp, ?_⟩
  have hl2 := congrArg List.length e
  simp only [List.length_drop, List.length_append, List.length_cons, esc, List.length_nil] at hl hl2
  have hn : n ≤ l.length := by omega
  rw [List.append_nil] at hl2 ⊢
  omega
theorem wrap_in (x : Int) : inI (IntKind.i64.wrap x) := by
  rw [IntKind.wrap_i64]
  unfold inI
  omega
theorem sub_back {u : Nat} (h : u < 18446744073709551616) : IntKind.i64.wrap (IntKind.u64.wrap ((u : Int) - 9223372036854775808)) = (u : Int) - 9223372036854775808 := by
  rw [wrap_u64]
  by_cases h2 : u < 9223372036854775808
  · rw [IntKind.wrap_i64]; omega
  · rw [IntKind.wrap_i64]; omega
theorem mul_byte {x : Nat} (c : UInt8) (h : x < 72057594037927936) : IntKind.u64.wrap (IntKind.u64.wrap (256 * (x : Int)) + IntKind.u64.wrap (c.toNat : Int)) = ((x * 256 + c.toNat : Nat) : Int) := by
  have hc := c.toNat_lt
  rw [wrap_u64, wrap_u64, wrap_u64]
  omega
theorem loose_int {l : List UInt8} {n : Nat} {u : Nat} (hn : n < l.length) (h1 : l[n] = 1) (hu : u = val ((l.drop (n + 1)).take 8)) :
    ∀ q r, right q → q.ok → l.drop n = partB q ++ r → (⟨1, (u : Int) - 9223372036854775808, ⟨#[]⟩⟩ : Pt) = q ∧ n + 9 = n + (partB q).length := by
  intro q r hr hq e
  rw [List.drop_eq_getElem_cons hn, h1] at e
  rcases hr with ⟨hk, hs⟩ | ⟨hk, hs⟩
  · simp only [partB, hk, if_true, List.cons_append, List.cons.injEq, true_and] at e ⊢
    have hl8 : (numB q.n).length = 8 := by simp [numB, be_length]
    rw [e, List.take_append_of_le_length (by omega), List.take_of_length_le (by omega)] at hu
    refine ⟨?_, by simp [hl8]⟩
    have := numOf_numB hq.2
    unfold numOf at this
    rw [← hu] at this
    rw [this]
    have he := empty_eq hs
    obtain ⟨a, b, c⟩ := q
    simp only at hk he
    rw [hk, he]
  · have h21 : ¬ ((2 : Int) = 1) := by omega
    simp [partB, hk] at e
/-- A text that ends at place i is the part that stands at place n, if one does. -/
def LooseAt (l d : List UInt8) (n i : Nat) : Prop := ∀ q r, right q → q.ok → l.drop n = partB q ++ r → (⟨2, 0, ⟨d.toArray⟩⟩ : Pt) = q ∧ i + 2 = n + (partB q).length
theorem loose_text {l d : List UInt8} {n i : Nat} (hn : n < l.length) (h1 : l[n] ≠ 1) (hT : TextSo l (n + 1) i d) (hs : ¬ (∃ hi : i + 1 < l.length, l[i] ≠ 0 ∨ l[i + 1] ≠ 0)) :
    LooseAt l d n i := by
  intro q r hr hq e
  rw [List.drop_eq_getElem_cons hn] at e
  rcases hr with ⟨hk, hs2⟩ | ⟨hk, hn0⟩
  · simp only [partB, hk, if_true, List.cons_append, List.cons.injEq] at e
    exact absurd e.1 h1
  · have h21 : ¬ (q.k = 1) := by omega
    simp only [partB, h21, if_false, List.cons_append, List.cons.injEq, List.append_assoc, List.nil_append] at e ⊢
    obtain ⟨ht, hi⟩ := hT.done hs e.2
    refine ⟨?_, by simp; omega⟩
    obtain ⟨a, b, c⟩ := q
    simp only [Pt.t] at hk hn0 ht
    subst hk hn0
    rw [← ht]

set_option maxRecDepth 100000 in
set_option maxHeartbeats 500000 in
theorem part_int (s : ByteArray) (n : Nat) (w : World) (hn : n < s.size) (hs : s.size ≤ 4294967000) (h1 : s.data.toList[n]'(by rw [← Lib.size_eq]; exact hn) = 1) :
    Calls Tryd.prog 26 #[.string s, .int .i64 (n : Int)] w fun e w' => LooseAns s.data.toList n e ∧ Below w.heap.size w w' := by
  have hix0 := idx_str s n hn
  rw [h1] at hix0
  obtain ⟨D, hD⟩ : ∃ D, D = s.size - n := ⟨_, rfl⟩
  have hwl : IntKind.i64.wrap ((s.size : Int) - (n : Int)) = (D : Int) := by rw [IntWalk.i64_in _ ⟨by omega, by omega⟩]; omega
  have hw9 : IntKind.i64.wrap ((n : Int) + 9) = (n : Int) + 9 := IntWalk.i64_in _ ⟨by omega, by omega⟩
  have hln : s.data.toList.length = s.size := (Lib.size_eq s).symm
  have HD : Hid (D = s.size - n) := hD
  have HL : Hid (s.data.toList.length = s.size) := hln
  have H1 : Hid (s.data.toList[n]'(by rw [← Lib.size_eq]; exact hn) = 1) := h1
  clear hD hln h1
  go_enter Tryd.func26, Tryd.ntmps26
  go_wp2_with fail
  go_loop [6, 7] (fun u i => ∃ k x : Nat, k ≤ 8 ∧ k + 1 ≤ D ∧ u = .int .u64 x ∧ i = .int .i64 ((k + 1 : Nat) : Int) ∧ x < 18446744073709551616 ∧ Hid (x = val ((s.data.toList.drop (n + 1)).take k))) (fun _ i => 9 - (intOf i).toNat)
  case atStart => exact ⟨0, 0, by omega, by have := HD.out; omega, rfl, rfl, by omega, rfl⟩
  case round =>
    obtain ⟨k, x, hk, hkD, rfl, rfl, hxl, HV⟩ := hrel
    have hDD := HD.out
    by_cases hgo : k < 8 ∧ k + 1 < D
    · obtain ⟨h8, hlt⟩ := hgo
      obtain ⟨q, hq⟩ : ∃ q : Nat, q = k + 1 := ⟨_, rfl⟩
      obtain ⟨z, hz⟩ : ∃ z : Nat, z = n + q := ⟨_, rfl⟩
      have hq2 : IntKind.i64.wrap ((n : Int) + (q : Int)) = (z : Int) := by rw [IntWalk.i64_in _ ⟨by omega, by omega⟩]; omega
      have hg1n : decide (q ≤ 8) = true := decide_eq_true (by omega)
      have hg2n : decide (q < D) = true := decide_eq_true (by omega)
      have hg1 : decide ((q : Int) ≤ 8) = true := decide_eq_true (by omega)
      have hg2 : decide ((q : Int) < (D : Int)) = true := decide_eq_true (by omega)
      have hix := idx_str s z (by omega)
      have hlk : k < (s.data.toList.drop (n + 1)).length := by rw [List.length_drop, HL.out]; omega
      have hvl := val_lt ((s.data.toList.drop (n + 1)).take k)
      have HN : Hid (val ((s.data.toList.drop (n + 1)).take (k + 1)) = x * 256 + (s.data.toList[z]'(by rw [HL.out]; omega)).toNat) := by
        show _ = _
        rw [List.take_add_one, List.getElem?_eq_getElem hlk, Option.toList_some, val_snoc, ← HV.out, List.getElem_drop]
        congr 3
        omega
      generalize s.data.toList[z]'(by rw [HL.out]; omega) = c at *
      have hx7 : x < 72057594037927936 := by
        have h1 := HV.out
        have h2 : 256 ^ ((s.data.toList.drop (n + 1)).take k).length ≤ 256 ^ 7 := Nat.pow_le_pow_right (by omega) (by rw [List.length_take]; omega)
        rw [← h1] at hvl
        omega
      have HM : Hid _ := mul_byte c hx7
      have hcl := c.toNat_lt
      have HQ : Hid (q = k + 1) := hq
      rw [← hq]
      have hzl : (z : Int) < (s.size : Int) := by omega
      have hwq : IntKind.i64.wrap ((q : Int) + 1) = (q : Int) + 1 := IntWalk.i64_in _ ⟨by omega, by omega⟩
      clear hvl hq hxl hz hDD
      go_wp2
      go_round
      case rel => exact ⟨k + 1, x * 256 + c.toNat, by omega, by have := HQ.out; omega, by rw [show (256 * (x : Int) + (c.toNat : Int)) = ((x * 256 + c.toNat : Nat) : Int) by omega], by have := HQ.out; go_num, by omega, HN.out.symm⟩
      case measure => have := HQ.out; simp [intOf]; omega
    · have HV8 : Hid (x = val ((s.data.toList.drop (n + 1)).take 8)) := by
        show _ = _
        rw [HV.out]
        by_cases hk8 : k = 8
        · rw [hk8]
        · rw [List.take_of_length_le (by rw [List.length_drop, HL.out]; omega), List.take_of_length_le (by rw [List.length_drop, HL.out]; omega)]
      have hsb : wrap64 (IntKind.u64.wrap ((x : Int) - 9223372036854775808)) = (x : Int) - 9223372036854775808 := by rw [← IntWalk.i64_left]; exact sub_back hxl
      have HF : Hid (LooseAns s.data.toList n (.returned (.tuple #[pv ⟨1, (x : Int) - 9223372036854775808, ⟨#[]⟩⟩, .int .i64 ((n : Int) + 9)]))) :=
        ⟨_, n + 9, rfl, .inl ⟨rfl, rfl⟩, ⟨in1, by show inI ((x : Int) - 9223372036854775808); unfold inI; omega⟩, by show n + 0 < n + 9; omega, by rw [HL.out]; omega, loose_int (by rw [HL.out]; exact hn) H1.out HV8.out⟩
      obtain ⟨q, hq⟩ : ∃ q : Nat, q = k + 1 := ⟨_, rfl⟩
      rw [← hq]
      by_cases hk8 : k < 8
      · have hg1 : decide ((q : Int) ≤ 8) = true := decide_eq_true (by omega)
        have hg1n : decide (q ≤ 8) = true := decide_eq_true (by omega)
        have hg2 : decide ((q : Int) < (D : Int)) = false := decide_eq_false (by omega)
        have hg2n : decide (q < D) = false := decide_eq_false (by omega)
        clear hDD hq
        go_wp2
        go_returns
        exact ⟨HF.out, (Below.refl _ _).alloc (Nat.le_refl _) _⟩
      · have hg1 : decide ((q : Int) ≤ 8) = false := decide_eq_false (by omega)
        have hg1n : decide (q ≤ 8) = false := decide_eq_false (by omega)
        clear hDD hq
        go_wp2
        go_returns
        exact ⟨HF.out, (Below.refl _ _).alloc (Nat.le_refl _) _⟩

set_option maxRecDepth 100000 in
set_option maxHeartbeats 500000 in
theorem part_text (s : ByteArray) (n : Nat) (w : World) (hn : n < s.size) (hs : s.size ≤ 4294967000) (h1 : s.data.toList[n]'(by rw [← Lib.size_eq]; exact hn) ≠ 1) :
    Calls Tryd.prog 26 #[.string s, .int .i64 (n : Int)] w fun e w' => LooseAns s.data.toList n e ∧ Below w.heap.size w w' := by
  obtain ⟨i0, hi, hz0, hz1, hz2⟩ := info_parts info8
  have hix0 := idx_str s n hn
  have H1 : Hid (s.data.toList[n]'(by rw [← Lib.size_eq]; exact hn) ≠ 1) := h1
  obtain ⟨mk, hmk⟩ : ∃ mk, mk = s.data.toList[n]'(by rw [← Lib.size_eq]; exact hn) := ⟨_, rfl⟩
  rw [← hmk] at hix0 h1
  have n1 : ((mk.toNat : Int) == 1) = false := by
    simp only [beq_eq_false_iff_ne, ne_eq]
    intro h
    exact h1 (UInt8.toNat.inj (by show mk.toNat = 1; omega))
  obtain ⟨L1, hL1⟩ : ∃ L1, L1 + 1 = s.size := ⟨s.size - 1, by omega⟩
  have hwl : IntKind.i64.wrap ((s.size : Int) - 1) = (L1 : Int) := by rw [IntWalk.i64_in _ ⟨by omega, by omega⟩]; omega
  have hwn : IntKind.i64.wrap ((n : Int) + 1) = (n : Int) + 1 := IntWalk.i64_in _ ⟨by omega, by omega⟩
  have HLn : Hid (s.data.toList.length = s.size) := (Lib.size_eq s).symm
  have HL1 : Hid (L1 + 1 = s.size) := hL1
  clear hmk h1 hL1
  go_enter Tryd.func26, Tryd.ntmps26
  go_wp2_with fail
  go_loopw [8, 9] (fun u v wr => ∃ (d : List UInt8) (i : Nat) (go : Option Addr) (c : Nat), u = .slice go d.length c ∧ v = .int .i64 (i : Int) ∧ i ≤ s.size ∧ n + 1 ≤ i ∧ Hid (TextSo s.data.toList (n + 1) i d) ∧ Hid (d.length + n + 1 ≤ i) ∧ Hid (Row wr w.heap.size u d) ∧
    Hid (wr.heap[w.heap.size]? = some (.cells #[.int .i64 0, .int .i64 0, .string ⟨#[]⟩] 25 (0, 0))) ∧ Hid (Below w.heap.size w wr)) (fun _ v _ => s.size - (intOf v).toNat)
  case atStart => exact ⟨[], n + 1, none, 0, rfl, by simp, by omega, by omega, TextSo.zero, by show _ ≤ _; simp, Row.nil _ _, heap_alloc_new w _, (Below.refl _ _).alloc (Nat.le_refl _) _⟩
  case round =>
    obtain ⟨d, i, go, c, rfl, rfl, hi1, hi2, HT, HDn, HR, HC, HB⟩ := hrel
    have hsr := HB.out.size
    have hll := HL1.out
    have hdd := HDn.out
    by_cases hlt : i < L1
    · have hg : decide ((i : Int) < (L1 : Int)) = true := decide_eq_true (by omega)
      have hgn : decide (i < L1) = true := decide_eq_true (by omega)
      obtain ⟨z, hz⟩ : ∃ z : Nat, z = i + 1 := ⟨_, rfl⟩
      have hwz : IntKind.i64.wrap ((i : Int) + 1) = (z : Int) := by rw [IntWalk.i64_in _ ⟨by omega, by omega⟩]; omega
      have hwz2 : IntKind.i64.wrap ((z : Int) + 1) = (z : Int) + 1 := IntWalk.i64_in _ ⟨by omega, by omega⟩
      have hixi := idx_str s i (by omega)
      have hixz := idx_str s z (by omega)
      have hlen : i + 1 < s.data.toList.length := by rw [HLn.out]; omega
      have HT1 : Hid _ := fun hx => TextSo.plain HT.out hlen hx
      have HT2 : Hid _ := fun hx hy => TextSo.null HT.out hlen hx hy
      have HEz : Hid (s.data.toList[z]'(by omega) = s.data.toList[i + 1]) := by show _ = _; simp only [hz]
      have HX0 : Hid (s.data.toList[i] = 0 → s.data.toList[i + 1] = 0 → LooseAt s.data.toList d n i) := fun a b => by
        refine loose_text (by rw [HLn.out]; exact hn) H1.out HT.out ?_
        rintro ⟨_, h | h⟩
        · exact h a
        · exact h b
      rw [HEz.out] at hixz
      clear HEz
      generalize s.data.toList[i + 1] = y at *
      generalize s.data.toList[i] = x at *
      have HZ : Hid (z = i + 1) := hz
      clear hz
      by_cases hx : x = 0
      · have hxt : ((x.toNat : Int) == 0) = true := by rw [hx]; rfl
        by_cases hy : y = 0
        · have hyt : ((y.toNat : Int) == 0) = true := by rw [hy]; rfl
          have HX : Hid (LooseAt s.data.toList d n i) := HX0.out hx hy
          clear HX0 HT1 HT2
          have HF : Hid (LooseAns s.data.toList n (.returned (.tuple #[pv ⟨2, 0, ⟨d.toArray⟩⟩, .int .i64 ((i : Int) + 2)]))) :=
            ⟨_, i + 2, rfl, .inr ⟨rfl, rfl⟩, ⟨in2, in0⟩, by have := HDn.out; show n + (⟨d.toArray⟩ : ByteArray).size < i + 2; rw [size_mk]; omega, by rw [HLn.out]; omega, HX.out⟩
          have hst := own_string HR.out.own
          have q0 : wr.cell? ⟨w.heap.size, 0, none⟩ = some (.int .i64 0) := by rw [Joins.cell_of_block HC.out]; rfl
          have q1 : wr.cell? ⟨w.heap.size, 1, none⟩ = some (.int .i64 0) := by rw [Joins.cell_of_block HC.out]; rfl
          have q2 : wr.cell? ⟨w.heap.size, 2, none⟩ = some (.string ⟨#[]⟩) := by rw [Joins.cell_of_block HC.out]; rfl
          have qf : ∀ i, wr.frozen? ⟨w.heap.size, i, none⟩ = false := fun i => by simp [World.frozen?, HC.out]
          have f0 := qf 0
          have f1 := qf 1
          have f2 := qf 2
          have hw2 : IntKind.i64.wrap ((i : Int) + 2) = (i : Int) + 2 := IntWalk.i64_in _ ⟨by omega, by omega⟩
          obtain ⟨g0, g1, g2⟩ := box3 HC.out (.int .i64 2) (.int .i64 0) (.string ⟨d.toArray⟩)
          clear qf
          go_wp2
          refine bodyPost_ret (by simp [results, Tryd.results26, go_sem, g0, g1, g2]; try rfl) rfl ?_
          exact ⟨HF.out, ((HB.out.setCell (Nat.le_refl _) _).setCell (Nat.le_refl _) _).setCell (Nat.le_refl _) _⟩
        · have hyf : ((y.toNat : Int) == 0) = false := by
            simp only [beq_eq_false_iff_ne, ne_eq]
            intro h
            exact hy (UInt8.toNat.inj (by show y.toNat = 0; omega))
          have HTN : Hid (TextSo s.data.toList (n + 1) (i + 2) (d ++ [0])) := HT2.out hx hy
          clear HX0 HT1 HT2
          go_wp2_with (at_builtin; refine wpList_append_any _ rfl _ _ 43 rfl w.heap.size 5 i0 (.int .u8 0) 1 Tryd.underlying43 hi hz0 hz1 hz2 rfl _ d.length (d.map B8) rfl (HR.out.own.alloc (.cells #[.int .u8 0] 5)) (some ⟨wr.heap.size, 0, none⟩) 1 1 ([0].map B8) rfl (fun h => by cases h) rfl (news_list [0]) ?c2 ?c3 ?c4 ?c5 ?_)
          case c2 => intro u hu; obtain ⟨x, _, rfl⟩ := List.mem_map.1 hu; rfl
          case c3 => unfold maxLen; omega
          case c4 => omega
          case c5 => simp; omega
          intro v5 w5 hown5 hgrow5 hat5
          have HR5 : Hid (Row w5 w.heap.size v5 (d ++ [0])) := Row.of rfl hown5
          have HC5 : Hid (w5.heap[w.heap.size]? = some (.cells #[.int .i64 0, .int .i64 0, .string ⟨#[]⟩] 25 (0, 0))) := (HR.out.alloc _).far ((Below.heap_alloc _ _ _ (lt_of_block HC.out)).trans HC.out) (by decide) hgrow5
          have HB5 : Hid (Below w.heap.size w w5) := (HB.out.alloc hsr _).grown hgrow5 (by simp; omega) (fun i hi => (HR.out.own.lt i hi).1)
          obtain ⟨go5, c5, rfl⟩ : ∃ go5 c5, v5 = .slice go5 (d.length + 1) c5 := by
            obtain ⟨go5, c5, h5, _⟩ := HR5.out
            exact ⟨go5, c5, by rw [h5]; simp⟩
          clear hown5 hgrow5 hat5 HR HC HB
          go_wp2
          go_roundw
          case rel => exact ⟨d ++ [0], i + 2, go5, c5, by simp, by have := HZ.out; simp only [Value.int.injEq, true_and]; omega, by omega, by omega, HTN, by show _ ≤ _; simp; omega, HR5, HC5, HB5⟩
          case measure => have := HZ.out; simp [intOf]; omega
      · have hxf : ((x.toNat : Int) == 0) = false := by
          simp only [beq_eq_false_iff_ne, ne_eq]
          intro h
          exact hx (UInt8.toNat.inj (by show x.toNat = 0; omega))
        have HTN : Hid (TextSo s.data.toList (n + 1) (i + 1) (d ++ [x])) := HT1.out hx
        clear hx HX0 HT1 HT2
        go_wp2_with (at_builtin; refine wpList_append_any _ rfl _ _ 43 rfl w.heap.size 5 i0 (.int .u8 0) 1 Tryd.underlying43 hi hz0 hz1 hz2 rfl _ d.length (d.map B8) rfl (HR.out.own.alloc (.cells #[.int .u8 (x.toNat : Nat)] 5)) (some ⟨wr.heap.size, 0, none⟩) 1 1 ([x].map B8) rfl (fun h => by cases h) rfl (news_list [x]) ?d2 ?d3 ?d4 ?d5 ?_)
        case d2 => intro u hu; obtain ⟨x, _, rfl⟩ := List.mem_map.1 hu; rfl
        case d3 => unfold maxLen; omega
        case d4 => omega
        case d5 => simp; omega
        intro v5 w5 hown5 hgrow5 hat5
        have HR5 : Hid (Row w5 w.heap.size v5 (d ++ [x])) := Row.of rfl hown5
        have HC5 : Hid (w5.heap[w.heap.size]? = some (.cells #[.int .i64 0, .int .i64 0, .string ⟨#[]⟩] 25 (0, 0))) := (HR.out.alloc _).far ((Below.heap_alloc _ _ _ (lt_of_block HC.out)).trans HC.out) (by decide) hgrow5
        have HB5 : Hid (Below w.heap.size w w5) := (HB.out.alloc hsr _).grown hgrow5 (by simp; omega) (fun i hi => (HR.out.own.lt i hi).1)
        obtain ⟨go5, c5, rfl⟩ : ∃ go5 c5, v5 = .slice go5 (d.length + 1) c5 := by
          obtain ⟨go5, c5, h5, _⟩ := HR5.out
          exact ⟨go5, c5, by rw [h5]; simp⟩
        clear hown5 hgrow5 hat5 HR HC HB
        go_wp2
        go_roundw
        case rel => exact ⟨d ++ [x], i + 1, go5, c5, by simp, by have := HZ.out; simp only [Value.int.injEq, true_and]; omega, by omega, by omega, HTN, by show _ ≤ _; simp; omega, HR5, HC5, HB5⟩
        case measure => have := HZ.out; simp [intOf]; omega
    · have hg : decide ((i : Int) < (L1 : Int)) = false := decide_eq_false (by omega)
      have hgn : decide (i < L1) = false := decide_eq_false (by omega)
      have HX : Hid (LooseAt s.data.toList d n i) := by
        refine loose_text (by rw [HLn.out]; exact hn) H1.out HT.out ?_
        rintro ⟨h, _⟩
        rw [HLn.out] at h
        omega
      have HF : Hid (LooseAns s.data.toList n (.returned (.tuple #[pv ⟨2, 0, ⟨d.toArray⟩⟩, .int .i64 ((i : Int) + 2)]))) :=
        ⟨_, i + 2, rfl, .inr ⟨rfl, rfl⟩, ⟨in2, in0⟩, by have := HDn.out; show n + (⟨d.toArray⟩ : ByteArray).size < i + 2; rw [size_mk]; omega, by rw [HLn.out]; omega, HX.out⟩
      have hst := own_string HR.out.own
      have q0 : wr.cell? ⟨w.heap.size, 0, none⟩ = some (.int .i64 0) := by rw [Joins.cell_of_block HC.out]; rfl
      have q1 : wr.cell? ⟨w.heap.size, 1, none⟩ = some (.int .i64 0) := by rw [Joins.cell_of_block HC.out]; rfl
      have q2 : wr.cell? ⟨w.heap.size, 2, none⟩ = some (.string ⟨#[]⟩) := by rw [Joins.cell_of_block HC.out]; rfl
      have qf : ∀ i, wr.frozen? ⟨w.heap.size, i, none⟩ = false := fun i => by simp [World.frozen?, HC.out]
      have f0 := qf 0
      have f1 := qf 1
      have f2 := qf 2
      have hw2 : IntKind.i64.wrap ((i : Int) + 2) = (i : Int) + 2 := IntWalk.i64_in _ ⟨by omega, by omega⟩
      obtain ⟨g0, g1, g2⟩ := box3 HC.out (.int .i64 2) (.int .i64 0) (.string ⟨d.toArray⟩)
      clear qf
      go_wp2
      refine bodyPost_ret (by simp [results, Tryd.results26, go_sem, g0, g1, g2]; try rfl) rfl ?_
      exact ⟨HF.out, ((HB.out.setCell (Nat.le_refl _) _).setCell (Nat.le_refl _) _).setCell (Nat.le_refl _) _⟩
theorem part_any (s : ByteArray) (n : Nat) (w : World) (hn : n < s.size) (hs : s.size ≤ 4294967000) :
    Calls Tryd.prog 26 #[.string s, .int .i64 (n : Int)] w fun e w' => LooseAns s.data.toList n e ∧ Below w.heap.size w w' := by
  by_cases h1 : s.data.toList[n]'(by rw [← Lib.size_eq]; exact hn) = 1
  · exact part_int s n w hn hs h1
  · exact part_text s n w hn hs h1
end Go.Proofs.YtceghgbkiafklaaDoor.Od
