/-
  Keys over plain lists of bytes: parts written down, no part's bytes the beginning of another's, and the order of keys is the order of their parts; the end of a prefix.
-/
import Derived.Lib.Bytealg
namespace Go.Proofs.Ytdaibmafnamfgaa.Od
open Go.Lib (compareBytes)
set_option linter.unusedVariables false

/-! Order of bytes. -/
theorem cb_self (a : List UInt8) : compareBytes a a = 0 := by
  induction a with
  | nil => rfl
  | cons x a ih => simp [compareBytes, ih]
theorem cb_vals (a b : List UInt8) : compareBytes a b = -1 ∨ compareBytes a b = 0 ∨ compareBytes a b = 1 := by
  induction a generalizing b with
  | nil => cases b <;> simp [compareBytes]
  | cons x a ih =>
    cases b with
    | nil => simp [compareBytes]
    | cons y b =>
      simp only [compareBytes]
      split
      · simp
      · split
        · simp
        · exact ih b
theorem cb_zero {a b : List UInt8} (h : compareBytes a b = 0) : a = b := by
  induction a generalizing b with
  | nil => cases b <;> simp_all [compareBytes]
  | cons x a ih =>
    cases b with
    | nil => simp [compareBytes] at h
    | cons y b =>
      simp only [compareBytes] at h
      split at h
      · simp at h
      · split at h
        · simp at h
        · rename_i h1 h2
          have : x = y := UInt8.le_antisymm (UInt8.not_lt.1 h2) (UInt8.not_lt.1 h1)
          rw [this, ih h]
theorem cb_anti (a b : List UInt8) : compareBytes b a = - compareBytes a b := by
  induction a generalizing b with
  | nil => cases b <;> simp [compareBytes]
  | cons x a ih =>
    cases b with
    | nil => simp [compareBytes]
    | cons y b =>
      simp only [compareBytes]
      by_cases h1 : x < y
      · have h2 : ¬ y < x := fun h => UInt8.lt_irrefl _ (UInt8.lt_trans h h1)
        simp [h1, h2]
      · by_cases h2 : y < x
        · simp [h1, h2]
        · simp [h1, h2, ih]
theorem less_iff (a b : List UInt8) : Op.bytesLess a b = decide (compareBytes a b < 0) := by
  induction a generalizing b with
  | nil => cases b <;> simp [compareBytes, Op.bytesLess]
  | cons x a ih =>
    cases b with
    | nil => simp [compareBytes, Op.bytesLess]
    | cons y b =>
      simp only [compareBytes, Op.bytesLess]
      by_cases h1 : x < y
      · simp [h1]
      · by_cases h2 : y < x
        · have : ¬ x = y := fun h => by subst h; exact h1 h2
          simp [h1, h2, this]
        · have : x = y := UInt8.le_antisymm (UInt8.not_lt.1 h2) (UInt8.not_lt.1 h1)
          subst this
          simp [h1, ih]
theorem cb_same (q a b : List UInt8) : compareBytes (q ++ a) (q ++ b) = compareBytes a b := by
  induction q with
  | nil => rfl
  | cons x q ih => simp [compareBytes, ih]

/-! Numbers. -/
def val (l : List UInt8) : Nat := l.foldl (fun u c => u * 256 + c.toNat) 0
theorem foldl_val (u : Nat) (l : List UInt8) : l.foldl (fun u c => u * 256 + c.toNat) u = u * 256 ^ l.length + val l := by
  induction l generalizing u with
  | nil => simp [val]
  | cons x l ih =>
    simp only [val, List.foldl_cons, List.length_cons]
    rw [ih, ih (0 * 256 + x.toNat), Nat.pow_succ]
    simp only [Nat.zero_mul, Nat.zero_add, Nat.add_mul, Nat.mul_assoc, Nat.mul_comm 256]
    omega
theorem val_cons (x : UInt8) (l : List UInt8) : val (x :: l) = x.toNat * 256 ^ l.length + val l := by
  have := foldl_val (0 * 256 + x.toNat) l
  simpa [val] using this
theorem val_snoc (l : List UInt8) (x : UInt8) : val (l ++ [x]) = val l * 256 + x.toNat := by simp [val]
theorem val_lt (l : List UInt8) : val l < 256 ^ l.length := by
  induction l with
  | nil => simp [val]
  | cons x l ih =>
    rw [val_cons, List.length_cons, Nat.pow_succ]
    have := x.toNat_lt
    have h2 : x.toNat * 256 ^ l.length ≤ 255 * 256 ^ l.length := Nat.mul_le_mul_right _ (by omega)
    omega
theorem val_inj {l m : List UInt8} (hl : l.length = m.length) (h : val l = val m) : l = m := by
  induction l generalizing m with
  | nil => cases m <;> simp_all
  | cons x l ih =>
    cases m with
    | nil => simp at hl
    | cons y m =>
      simp only [List.length_cons, Nat.add_right_cancel_iff] at hl
      rw [val_cons, val_cons, ← hl] at h
      have h1 := val_lt l
      have h2 := val_lt m
      rw [← hl] at h2
      have e : x.toNat = y.toNat := by
        have a1 : (x.toNat * 256 ^ l.length + val l) / 256 ^ l.length = x.toNat := by
          rw [Nat.mul_comm, Nat.mul_add_div (by omega), Nat.div_eq_of_lt h1, Nat.add_zero]
        have a2 : (y.toNat * 256 ^ l.length + val m) / 256 ^ l.length = y.toNat := by
          rw [Nat.mul_comm, Nat.mul_add_div (by omega), Nat.div_eq_of_lt h2, Nat.add_zero]
        rw [← a1, ← a2, h]
      have ex : x = y := UInt8.toNat.inj e
      subst ex
      rw [ih hl (by omega)]
theorem cb_val {l m : List UInt8} (hl : l.length = m.length) (r s : List UInt8) :
    compareBytes (l ++ r) (m ++ s) = if val l < val m then -1 else if val m < val l then 1 else compareBytes r s := by
  induction l generalizing m with
  | nil =>
    cases m with
    | nil => simp
    | cons y m => simp at hl
  | cons x l ih =>
    cases m with
    | nil => simp at hl
    | cons y m =>
      simp only [List.length_cons, Nat.add_right_cancel_iff] at hl
      rw [val_cons, val_cons, ← hl]
      have h1 := val_lt l
      have h2 := val_lt m
      rw [← hl] at h2
      simp only [List.cons_append, compareBytes]
      by_cases hlt : x < y
      · have hn : x.toNat + 1 ≤ y.toNat := by have := UInt8.lt_iff_toNat_lt.1 hlt; omega
        have hm := Nat.mul_le_mul_right (256 ^ l.length) hn
        rw [Nat.add_mul, Nat.one_mul] at hm
        rw [if_pos hlt, if_pos (by omega)]
      · by_cases hgt : y < x
        · have hn : y.toNat + 1 ≤ x.toNat := by have := UInt8.lt_iff_toNat_lt.1 hgt; omega
          have hm := Nat.mul_le_mul_right (256 ^ l.length) hn
          rw [Nat.add_mul, Nat.one_mul] at hm
          rw [if_neg hlt, if_pos hgt, if_neg (by omega), if_pos (by omega)]
        · have : x = y := UInt8.le_antisymm (UInt8.not_lt.1 hgt) (UInt8.not_lt.1 hlt)
          subst this
          rw [if_neg hlt, if_neg hlt, ih hl]
          have e1 : (x.toNat * 256 ^ l.length + val l < x.toNat * 256 ^ l.length + val m) = (val l < val m) := by simp
          have e2 : (x.toNat * 256 ^ l.length + val m < x.toNat * 256 ^ l.length + val l) = (val m < val l) := by simp
          simp only [e1, e2]

/-- The eight bytes of a number below 2^64, the greatest first. -/
def be (u : Nat) : List UInt8 := (List.range 8).map fun i => (u / 256 ^ (7 - i)).toUInt8
theorem be_length (u : Nat) : (be u).length = 8 := by simp [be]
theorem be_eq (u : Nat) : be u = [(u / 256 ^ 7).toUInt8, (u / 256 ^ 6).toUInt8, (u / 256 ^ 5).toUInt8, (u / 256 ^ 4).toUInt8, (u / 256 ^ 3).toUInt8, (u / 256 ^ 2).toUInt8, (u / 256).toUInt8, u.toUInt8] := by
  simp [be, List.range, List.range.loop]
theorem val_be {u : Nat} (h : u < 18446744073709551616) : val (be u) = u := by
  rw [be_eq]
  simp only [val, List.foldl_cons, List.foldl_nil, Nat.toUInt8, UInt8.toNat_ofNat']
  omega
theorem be_val {l : List UInt8} (h : l.length = 8) : be (val l) = l := by
  apply val_inj (by rw [be_length, h])
  have := val_lt l
  rw [h] at this
  exact val_be (by simpa using this)

/-- A number's place among all: the top bit turned. -/
def numU (n : Int) : Nat := (n + 9223372036854775808).toNat
def numB (n : Int) : List UInt8 := be (numU n)
def inI (n : Int) : Prop := -9223372036854775808 ≤ n ∧ n ≤ 9223372036854775807
theorem numU_lt {n : Int} (h : inI n) : numU n < 18446744073709551616 := by unfold numU; have := h.2; omega

/-! Texts. -/
def esc : List UInt8 → List UInt8
  | [] => []
  | x :: l => if x = 0 then 0 :: 255 :: esc l else x :: esc l
theorem esc_append (a b : List UInt8) : esc (a ++ b) = esc a ++ esc b := by
  induction a with
  | nil => rfl
  | cons x a ih => simp only [List.cons_append, esc]; split <;> simp [ih]
theorem esc_length (a : List UInt8) : (esc a).length ≤ 2 * a.length ∧ a.length ≤ (esc a).length := by
  induction a with
  | nil => simp [esc]
  | cons x a ih => simp only [esc]; split <;> simp <;> omega
theorem zero_lt {y : UInt8} (h : ¬ y = 0) : (0 : UInt8) < y := by
  rw [UInt8.lt_iff_toNat_lt]
  have : y.toNat ≠ 0 := fun e => h (UInt8.toNat.inj e)
  show 0 < y.toNat
  omega
theorem esc_cb (a b r s : List UInt8) : compareBytes (esc a ++ 0 :: 0 :: r) (esc b ++ 0 :: 0 :: s) = if a = b then compareBytes r s else compareBytes a b := by
  induction a generalizing b with
  | nil =>
    cases b with
    | nil => simp [esc, compareBytes]
    | cons y b =>
      simp only [esc]
      split
      · simp [compareBytes]
      · rename_i h
        simp [compareBytes, zero_lt h]
  | cons x a ih =>
    cases b with
    | nil =>
      simp only [esc]
      split
      · simp [compareBytes]
      · rename_i h
        have h1 := zero_lt h
        have h2 : ¬ x < 0 := fun h' => UInt8.lt_irrefl _ (UInt8.lt_trans h' h1)
        simp [compareBytes, h1, h2]
    | cons y b =>
      have ihb := ih b
      simp only [esc]
      by_cases hx : x = 0
      · by_cases hy : y = 0
        · subst hx hy
          simp [compareBytes, ihb]
        · subst hx
          have hne : ¬ (0 : UInt8) = y := fun h => hy h.symm
          simp [compareBytes, hy, hne, zero_lt hy]
      · by_cases hy : y = 0
        · subst hy
          have h1 := zero_lt hx
          have h2 : ¬ x < 0 := fun h' => UInt8.lt_irrefl _ (UInt8.lt_trans h' h1)
          simp [compareBytes, hx, h1, h2]
        · simp only [hx, hy, if_false, List.cons_append, compareBytes, ihb]
          by_cases h1 : x < y
          · have : ¬ x = y := fun h => by subst h; exact UInt8.lt_irrefl _ h1
            simp [h1, this]
          · by_cases h2 : y < x
            · have : ¬ x = y := fun h => by subst h; exact UInt8.lt_irrefl _ h2
              simp [h1, h2, this]
            · have : x = y := UInt8.le_antisymm (UInt8.not_lt.1 h2) (UInt8.not_lt.1 h1)
              subst this
              simp

/-! Parts. -/
structure Pt where
  k : Int
  n : Int
  s : ByteArray
def Pt.zero : Pt := ⟨0, 0, ByteArray.empty⟩
def Pt.t (p : Pt) : List UInt8 := p.s.data.toList
def Pt.ok (p : Pt) : Prop := inI p.k ∧ inI p.n
theorem bytes_inj {a b : ByteArray} (h : a.data.toList = b.data.toList) : a = b := by
  cases a; cases b; simp at h; rw [h]
theorem Pt.ext' {p q : Pt} (h1 : p.k = q.k) (h2 : p.n = q.n) (h3 : p.t = q.t) : p = q := by
  cases p; cases q; simp only [Pt.t] at *; subst h1 h2; rw [bytes_inj h3]
abbrev right (p : Pt) : Prop := (p.k = 1 ∧ p.s.size = 0) ∨ (p.k = 2 ∧ p.n = 0)
def partB (p : Pt) : List UInt8 := if p.k = 1 then 1 :: numB p.n else 2 :: (esc p.t ++ [0, 0])
def cI (a b : Int) : Int := if a < b then -1 else if b < a then 1 else 0
def cP (p q : Pt) : Int := if cI p.k q.k ≠ 0 then cI p.k q.k else if cI p.n q.n ≠ 0 then cI p.n q.n else compareBytes p.t q.t
theorem cI_anti (a b : Int) : cI b a = - cI a b := by unfold cI; split <;> split <;> first | omega | rfl
theorem cI_zero {a b : Int} : cI a b = 0 ↔ a = b := by unfold cI; split <;> (try split) <;> constructor <;> intro h <;> omega
theorem cP_anti (p q : Pt) : cP q p = - cP p q := by
  unfold cP
  rw [cI_anti p.k, cI_anti p.n, cb_anti p.t]
  by_cases h1 : cI p.k q.k = 0
  · by_cases h2 : cI p.n q.n = 0
    · simp [h1, h2]
    · simp [h1, h2]
  · simp [h1]
theorem cP_zero {p q : Pt} : cP p q = 0 ↔ p = q := by
  constructor
  · intro h
    unfold cP at h
    split at h
    · exact absurd h ‹_›
    · split at h
      · exact absurd h ‹_›
      · rename_i h1 h2
        exact Pt.ext' (cI_zero.1 (Decidable.not_not.1 h1)) (cI_zero.1 (Decidable.not_not.1 h2)) (cb_zero h)
  · rintro rfl
    unfold cP
    simp [cI, cb_self]
theorem cP_self (p : Pt) : cP p p = 0 := cP_zero.2 rfl

theorem empty_of {p : Pt} (h : p.s.size = 0) : p.t = [] := by
  have : p.s.data.toList.length = 0 := by rw [Array.length_toList]; exact h
  exact List.length_eq_zero_iff.1 this
/-- Right parts with something behind each: the first difference between the parts decides. -/
theorem part_cb {p q : Pt} (hp : right p) (hq : right q) (op : p.ok) (oq : q.ok) (r s : List UInt8) :
    compareBytes (partB p ++ r) (partB q ++ s) = if cP p q ≠ 0 then cP p q else compareBytes r s := by
  rcases hp with ⟨hk, ht⟩ | ⟨hk, ht⟩ <;> rcases hq with ⟨gk, gt⟩ | ⟨gk, gt⟩
  · have e1 := empty_of ht
    have e2 := empty_of gt
    have hl : (numB p.n).length = (numB q.n).length := by simp [numB, be_length]
    simp only [partB, hk, gk, if_true, List.cons_append, compareBytes]
    rw [cb_val hl]
    have v1 : val (numB p.n) = numU p.n := val_be (numU_lt op.2)
    have v2 : val (numB q.n) = numU q.n := val_be (numU_lt oq.2)
    rw [v1, v2]
    have o1 := op.2.1
    have o2 := oq.2.1
    have a1 : (numU p.n < numU q.n) = (p.n < q.n) := propext (by unfold numU; omega)
    have a2 : (numU q.n < numU p.n) = (q.n < p.n) := propext (by unfold numU; omega)
    simp only [UInt8.lt_irrefl, if_false, cP, hk, gk, e1, e2, cI, compareBytes, Int.lt_irrefl, a1, a2]
    by_cases h1 : p.n < q.n
    · simp [h1]
    · by_cases h2 : q.n < p.n
      · simp [h1, h2]
      · simp [h1, h2]
  · simp [partB, hk, gk, cP, cI, compareBytes]
  · simp [partB, hk, gk, cP, cI, compareBytes]
  · have h21 : ¬ ((2 : Int) = 1) := by omega
    simp only [partB, hk, gk, if_neg h21, List.cons_append, List.append_assoc, List.nil_append, compareBytes, UInt8.lt_irrefl, if_false]
    rw [esc_cb]
    have : cP p q = compareBytes p.t q.t := by simp [cP, hk, gk, ht, gt, cI]
    rw [this]
    by_cases h : p.t = q.t
    · simp [h, cb_self]
    · have h' : compareBytes p.t q.t ≠ 0 := fun e => h (cb_zero e)
      simp [h, h']
theorem part_ne {p : Pt} : partB p ≠ [] := by unfold partB; split <;> simp

/-! Keys. -/
def keyOf (ps : List Pt) : List UInt8 := (ps.map partB).flatten
abbrev rights (ps : List Pt) : Prop := ∀ p ∈ ps, right p
def oks (ps : List Pt) : Prop := ∀ p ∈ ps, p.ok
theorem keyOf_cons (p : Pt) (ps : List Pt) : keyOf (p :: ps) = partB p ++ keyOf ps := by simp [keyOf]
theorem keyOf_append (a b : List Pt) : keyOf (a ++ b) = keyOf a ++ keyOf b := by simp [keyOf]
theorem keyOf_snoc (a : List Pt) (p : Pt) : keyOf (a ++ [p]) = keyOf a ++ partB p := by simp [keyOf]
def cL : List Pt → List Pt → Int
  | [], [] => 0
  | [], _ :: _ => -1
  | _ :: _, [] => 1
  | p :: a, q :: b => if cP p q ≠ 0 then cP p q else cL a b
theorem cL_anti (a b : List Pt) : cL b a = - cL a b := by
  induction a generalizing b with
  | nil => cases b <;> simp [cL]
  | cons p a ih =>
    cases b with
    | nil => simp [cL]
    | cons q b =>
      simp only [cL]
      rw [cP_anti p q, ih]
      by_cases h : cP p q = 0 <;> simp [h]
theorem cL_zero {a b : List Pt} : cL a b = 0 ↔ a = b := by
  induction a generalizing b with
  | nil => cases b <;> simp [cL]
  | cons p a ih =>
    cases b with
    | nil => simp [cL]
    | cons q b =>
      simp only [cL]
      by_cases h : cP p q = 0
      · obtain rfl := cP_zero.1 h
        simp [cP_self, ih]
      · have : ¬ p = q := fun e => h (cP_zero.2 e)
        simp [h, this]
theorem key_cb {a b : List Pt} (ha : rights a) (hb : rights b) (oa : oks a) (ob : oks b) : compareBytes (keyOf a) (keyOf b) = cL a b := by
  induction a generalizing b with
  | nil =>
    cases b with
    | nil => rfl
    | cons q b =>
      rw [keyOf_cons]
      obtain ⟨x, l, e⟩ := List.exists_cons_of_ne_nil (part_ne (p := q))
      rw [e]
      simp [keyOf, compareBytes, cL]
  | cons p a ih =>
    cases b with
    | nil =>
      rw [keyOf_cons]
      obtain ⟨x, l, e⟩ := List.exists_cons_of_ne_nil (part_ne (p := p))
      rw [e]
      simp [keyOf, compareBytes, cL]
    | cons q b =>
      rw [keyOf_cons, keyOf_cons, part_cb (ha p (by simp)) (hb q (by simp)) (oa p (by simp)) (ob q (by simp)), cL]
      rw [ih (fun x h => ha x (by simp [h])) (fun x h => hb x (by simp [h])) (fun x h => oa x (by simp [h])) (fun x h => ob x (by simp [h]))]
theorem key_inj {a b : List Pt} (ha : rights a) (hb : rights b) (oa : oks a) (ob : oks b) (h : keyOf a = keyOf b) : a = b := by
  have := key_cb ha hb oa ob
  rw [h, cb_self] at this
  exact cL_zero.1 this.symm
/-- No part's bytes are the beginning of another's. -/
theorem part_free {p q : Pt} (hp : right p) (hq : right q) (op : p.ok) (oq : q.ok) {r s : List UInt8} (h : partB p ++ r = partB q ++ s) : p = q ∧ r = s := by
  have h1 := part_cb hp hq op oq r s
  rw [h, cb_self] at h1
  have : cP p q = 0 := by
    by_cases hc : cP p q = 0
    · exact hc
    · rw [if_pos hc] at h1; exact absurd h1.symm hc
  have e := cP_zero.1 this
  subst e
  exact ⟨rfl, List.append_cancel_left h⟩
theorem key_begins {a b : List Pt} (ha : rights a) (hb : rights b) (oa : oks a) (ob : oks b) : keyOf a <+: keyOf b ↔ a <+: b := by
  constructor
  · intro h
    induction a generalizing b with
    | nil => exact List.nil_prefix
    | cons p a ih =>
      rw [keyOf_cons] at h
      cases b with
      | nil =>
        obtain ⟨t, ht⟩ := h
        obtain ⟨x, l, e⟩ := List.exists_cons_of_ne_nil (part_ne (p := p))
        rw [e] at ht
        simp [keyOf] at ht
      | cons q b =>
        rw [keyOf_cons] at h
        obtain ⟨t, ht⟩ := h
        rw [List.append_assoc] at ht
        obtain ⟨rfl, h2⟩ := part_free (ha p (by simp)) (hb q (by simp)) (oa p (by simp)) (ob q (by simp)) ht
        have := ih (fun x h => ha x (by simp [h])) (fun x h => hb x (by simp [h])) (fun x h => oa x (by simp [h])) (fun x h => ob x (by simp [h])) ⟨t, h2⟩
        exact List.cons_prefix_cons.2 ⟨rfl, this⟩
  · rintro ⟨t, rfl⟩
    exact ⟨keyOf t, by rw [keyOf_append]⟩

/-! The end of a prefix. -/
/-- The end, over the bytes backwards. -/
def endR : List UInt8 → List UInt8
  | [] => []
  | x :: l => if x = 255 then endR l else (x + 1) :: l
def endOf (l : List UInt8) : List UInt8 := (endR l.reverse).reverse
theorem endOf_snoc (l : List UInt8) (x : UInt8) : endOf (l ++ [x]) = if x = 255 then endOf l else l ++ [x + 1] := by
  simp only [endOf, List.reverse_append, List.reverse_cons, List.reverse_nil, List.nil_append, List.singleton_append, endR]
  split <;> simp
/-- A prefix is bytes whose last can grow and then bytes that cannot, or these alone. -/
theorem end_form (p : List UInt8) : (∃ k, p = List.replicate k 255 ∧ endOf p = []) ∨ ∃ q x k, x ≠ 255 ∧ p = q ++ x :: List.replicate k 255 ∧ endOf p = q ++ [x + 1] := by
  generalize hr : p.reverse = r
  induction r generalizing p with
  | nil =>
    left
    have : p = [] := by simpa using congrArg List.reverse hr
    exact ⟨0, by simp [this], by simp [this, endOf, endR]⟩
  | cons y r ih =>
    have hp : p = r.reverse ++ [y] := by
      have := congrArg List.reverse hr
      simpa using this
    subst hp
    rw [endOf_snoc]
    by_cases hy : y = 255
    · subst hy
      rw [if_pos rfl]
      rcases ih r.reverse (by simp) with ⟨k, h1, h2⟩ | ⟨q, x, k, hx, h1, h2⟩
      · exact .inl ⟨k + 1, by rw [h1, List.replicate_succ'], h2⟩
      · exact .inr ⟨q, x, k + 1, hx, by rw [h1, List.append_assoc, List.cons_append, List.replicate_succ'], h2⟩
    · rw [if_neg hy]
      exact .inr ⟨r.reverse, y, 0, hy, by simp, rfl⟩
theorem last_ge (k : Nat) (t : List UInt8) : 0 ≤ compareBytes t (List.replicate k 255) ↔ List.replicate k 255 <+: t := by
  induction k generalizing t with
  | zero =>
    simp only [List.replicate_zero, List.nil_prefix, iff_true]
    cases t <;> simp [compareBytes]
  | succ k ih =>
    rw [List.replicate_succ]
    cases t with
    | nil => simp [compareBytes]
    | cons y t =>
      rw [List.cons_prefix_cons, ← ih, compareBytes]
      have hmax : ¬ (255 : UInt8) < y := by
        rw [UInt8.lt_iff_toNat_lt]
        have := y.toNat_lt
        show ¬ 255 < y.toNat
        omega
      by_cases h : y < 255
      · have : ¬ (255 : UInt8) = y := fun e => by subst e; exact UInt8.lt_irrefl _ h
        simp [h, this]
      · have : y = 255 := UInt8.le_antisymm (UInt8.not_lt.1 hmax) (UInt8.not_lt.1 h)
        subst this
        simp
theorem begins_iff (p t : List UInt8) : p <+: t ↔ 0 ≤ compareBytes t p ∧ (endOf p = [] ∨ compareBytes t (endOf p) < 0) := by
  rcases end_form p with ⟨k, h1, h2⟩ | ⟨q, x, k, hx, h1, h2⟩
  · rw [h2, h1, last_ge]; simp
  · rw [h2, h1]
    have hne : q ++ [x + 1] ≠ [] := by simp
    simp only [hne, false_or]
    clear h1 h2 hne
    have hx1 : (x + 1).toNat = x.toNat + 1 := by
      have := x.toNat_lt
      have h255 : x.toNat ≠ 255 := fun e => hx (UInt8.toNat.inj e)
      rw [UInt8.toNat_add]
      show (x.toNat + 1) % 256 = _
      omega
    induction q generalizing t with
    | nil =>
      cases t with
      | nil => simp [compareBytes]
      | cons y t =>
        simp only [List.nil_append, compareBytes]
        rw [List.cons_prefix_cons, ← last_ge]
        by_cases h1 : y < x
        · have : ¬ x = y := fun e => by subst e; exact UInt8.lt_irrefl _ h1
          simp [h1, this]
        · by_cases h2 : x < y
          · have hne : ¬ x = y := fun e => by subst e; exact UInt8.lt_irrefl _ h2
            have h3 : ¬ y < x + 1 := by
              rw [UInt8.lt_iff_toNat_lt] at h2 ⊢
              omega
            have h4 : x + 1 < y ∨ y = x + 1 := by
              by_cases h5 : x + 1 < y
              · exact .inl h5
              · exact .inr (UInt8.le_antisymm (UInt8.not_lt.1 h5) (UInt8.not_lt.1 h3))
            rcases h4 with h4 | h4
            · simp [h1, h2, h3, h4, hne]
            · subst h4
              have : ∀ l : List UInt8, ¬ compareBytes l [] < 0 := fun l => by cases l <;> simp [compareBytes]
              simp [h1, h2, hne, this]
          · have : y = x := UInt8.le_antisymm (UInt8.not_lt.1 h2) (UInt8.not_lt.1 h1)
            subst this
            have h3 : y < y + 1 := by rw [UInt8.lt_iff_toNat_lt]; omega
            simp [h3]
    | cons z q ih =>
      cases t with
      | nil => simp [compareBytes]
      | cons y t =>
        simp only [List.cons_append, compareBytes]
        have e := propext (ih t)
        rw [List.cons_prefix_cons, e]
        by_cases h1 : y < z
        · have : ¬ z = y := fun e => by subst e; exact UInt8.lt_irrefl _ h1
          simp [h1, this]
        · by_cases h2 : z < y
          · have : ¬ z = y := fun e => by subst e; exact UInt8.lt_irrefl _ h2
            simp [h1, h2, this]
          · have : y = z := UInt8.le_antisymm (UInt8.not_lt.1 h2) (UInt8.not_lt.1 h1)
            subst this
            simp
end Go.Proofs.Ytdaibmafnamfgaa.Od
