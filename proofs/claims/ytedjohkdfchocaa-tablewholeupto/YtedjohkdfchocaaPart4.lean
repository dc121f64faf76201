/-
  The texts BlockRead, BlockVersion, EnRef, BlockOrder, BlockFits, joined.
-/
import Derived.Test.YtedjohkdfchocaaPart3
import Derived.OwnWalk
import Derived.Laws.StructEq

/-
  Package block's reader: what pack's reader answers, told by the bytes; what share, value and version answer.
-/
namespace Go.Proofs.Ytedjohkdfchocaa.Bk
open Go.RowKit Cm Mm
open Pk (WrAt RdAt Step enc enc_len fold text unfold dnum dtext dnum_enc dnum_some fold_lt fold_unfold unfold_fold unfold_bd)
set_option linter.unusedVariables false

/-- What a reader in block b answers that has the bytes l: the thing that they begin with, or that there is none. -/
def Ans {X : Type} (At : World → Nat → ByteArray → Prop) (w : World) (b : Nat) (l : List UInt8) (bytes : X → List UInt8) (ok : X → Prop) (ret : X → Value) (bad : Value) (e : Ending) (w' : World) : Prop :=
  (∃ x s', ok x ∧ l = bytes x ++ bs s' ∧ e = .returned (ret x) ∧ At w' b s' ∧ Step b w none w' none) ∨
  ((∀ x t, ok x → l ≠ bytes x ++ t) ∧ e = .returned bad ∧ (∃ s', At w' b s' ∧ s'.size ≤ l.length) ∧ Step b w none w' none)
theorem Ans.good {X : Type} {At : World → Nat → ByteArray → Prop} {w : World} {b : Nat} {l : List UInt8} {bytes : X → List UInt8} {ok : X → Prop} {ret : X → Value} {bad : Value} {w' : World} (x : X) (s' : ByteArray) (h1 : ok x) (h2 : l = bytes x ++ bs s') (h3 : At w' b s') (h4 : Step b w none w' none) : Ans At w b l bytes ok ret bad (.returned (ret x)) w' := .inl ⟨x, s', h1, h2, rfl, h3, h4⟩
theorem Ans.miss {X : Type} {At : World → Nat → ByteArray → Prop} {w : World} {b : Nat} {l : List UInt8} {bytes : X → List UInt8} {ok : X → Prop} {ret : X → Value} {bad : Value} {w' : World} (h1 : ∀ x t, ok x → l ≠ bytes x ++ t) (s' : ByteArray) (h2 : At w' b s') (h3 : s'.size ≤ l.length) (h4 : Step b w none w' none) : Ans At w b l bytes ok ret bad (.returned bad) w' := .inr ⟨h1, rfl, ⟨s', h2, h3⟩, h4⟩
/-- A call ahead of this one. -/
theorem Ans.behind {X : Type} {At : World → Nat → ByteArray → Prop} {w v : World} {b : Nat} {l : List UInt8} {bytes : X → List UInt8} {ok : X → Prop} {ret : X → Value} {bad : Value} {e : Ending} {w' : World} (h : Ans At v b l bytes ok ret bad e w') (hs : Step b w none v none) : Ans At w b l bytes ok ret bad e w' := by
  rcases h with ⟨x, s', h1, h2, h3, h4, h5⟩ | ⟨h1, h2, h3, h5⟩
  · exact .inl ⟨x, s', h1, h2, h3, h4, hs.trans h5⟩
  · exact .inr ⟨h1, h2, h3, hs.trans h5⟩
theorem rest_len {l m : List UInt8} {s : ByteArray} (h : l = m ++ bs s) : s.size ≤ l.length := by rw [h, List.length_append, bs_len]; omega

def OkInt (i : Int) : Prop := -9223372036854775808 ≤ i ∧ i ≤ 9223372036854775807
def OkText (v : ByteArray) : Prop := v.size < 9223372036854775808
theorem dtext_not {l : List UInt8} (h : dtext l = none) (v : ByteArray) (t : List UInt8) (hv : OkText v) : l ≠ text (bs v) ++ t := fun e => by
  have := Pk.dtext_text (bs v) t (by rw [bs_len]; unfold OkText at hv; omega)
  rw [← e, h] at this; cases this
theorem dnum_not {l : List UInt8} (h : dnum l = none) (n : Nat) (t : List UInt8) (hn : n < 18446744073709551616) : l ≠ enc n ++ t := fun e => by
  have := dnum_enc n t hn
  rw [← e, h] at this; cases this
theorem dtext_is {l : List UInt8} {k n : Nat} (h : dtext l = some (k, n)) : ∃ v t : List UInt8, v.length = n ∧ l = text v ++ t := by
  obtain ⟨h1, h2⟩ := Pk.dtext_some h
  obtain ⟨_, h3, h4, h5⟩ := dnum_some h1
  refine ⟨(l.drop k).take n, (l.drop k).drop n, by simp; omega, ?_⟩
  unfold text
  rw [List.append_assoc, List.take_append_drop]
  have : ((l.drop k).take n).length = n := by simp; omega
  rw [this]; exact h4

section
variable (b : Nat) (s : ByteArray) (w : World) (hr : RdAt w b s) (hs : s.size ≤ 1000000000000)
theorem num_ans (hr : RdAt w b s) (hs : s.size ≤ 1000000000000) : Calls Try.prog 71 #[.pointer (some ⟨b, 0, none⟩)] w fun e w' => Ans RdAt w b (bs s) enc (fun n => n < 18446744073709551616) (fun n => .tuple #[.int .u64 (n : Nat), .int .i64 0]) (.tuple #[.int .u64 0, .int .i64 1]) e w' := by
  cases hd : dnum (bs s) with
  | none =>
    refine (Pk.rNum_none b s w hr (by unfold maxLen; omega) hd).mono ?_
    rintro e w' ⟨rfl, rfl⟩
    exact Ans.miss (dnum_not hd) s hr (by rw [bs_len]; omega) (Step.refl _ _ _)
  | some p =>
    obtain ⟨n, k⟩ := p
    obtain ⟨h1, h2, h3, h4⟩ := dnum_some hd
    refine (Pk.rNum_read b n _ s w hr (by unfold maxLen; omega) h1 h3).mono ?_
    rintro e w' ⟨rfl, s', q1, q2, q3⟩
    exact Ans.good (ret := fun n : Nat => .tuple #[.int .u64 (n : Nat), .int .i64 0]) n s' h1 (by unfold bs at *; rw [q2]; exact h3) q1 q3
theorem int_ans (hr : RdAt w b s) (hs : s.size ≤ 1000000000000) : Calls Try.prog 107 #[.pointer (some ⟨b, 0, none⟩)] w fun e w' => Ans RdAt w b (bs s) (fun i => enc (fold i)) OkInt (fun i => .tuple #[.int .i64 i, .int .i64 0]) (.tuple #[.int .i64 0, .int .i64 1]) e w' := by
  cases hd : dnum (bs s) with
  | none =>
    refine (Pk.rInt_none b s w hr (by unfold maxLen; omega) hd).mono ?_
    rintro e w' ⟨rfl, rfl⟩
    exact Ans.miss (fun i t hi => dnum_not hd _ t (fold_lt hi.1 hi.2)) s hr (by rw [bs_len]; omega) (Step.refl _ _ _)
  | some p =>
    obtain ⟨n, k⟩ := p
    obtain ⟨h1, h2, h3, h4⟩ := dnum_some hd
    refine (Pk.rInt_read b n _ s w hr (by unfold maxLen; omega) h1 h3).mono ?_
    rintro e w' ⟨rfl, s', q1, q2, q3⟩
    exact Ans.good (ret := fun i : Int => .tuple #[.int .i64 i, .int .i64 0]) (unfold n) s' (unfold_bd h1) (by rw [fold_unfold]; unfold bs at *; rw [q2]; exact h3) q1 q3
theorem text_ans (hr : RdAt w b s) (hs : s.size ≤ 1000000000000) : Calls Try.prog 106 #[.pointer (some ⟨b, 0, none⟩)] w fun e w' => Ans RdAt w b (bs s) (fun v => text (bs v)) OkText (fun v => .tuple #[.string v, .int .i64 0]) (.tuple #[.string ⟨#[]⟩, .int .i64 1]) e w' := by
  cases hd : dtext (bs s) with
  | none =>
    refine (Pk.rText_none b s w hr (by unfold maxLen; omega) hd).mono ?_
    rintro e w' ⟨rfl, rfl⟩
    exact Ans.miss (fun v t hv => dtext_not hd v t hv) s hr (by rw [bs_len]; omega) (Step.refl _ _ _)
  | some p =>
    obtain ⟨k, n⟩ := p
    obtain ⟨v, t, h1, h3⟩ := dtext_is hd
    have hv : v.length ≤ s.size := by rw [← bs_len, h3]; unfold text; simp; omega
    refine (Pk.rText_read b v t s w hr (by omega) h3).mono ?_
    rintro e w' ⟨rfl, s', q1, q2, q3⟩
    refine Ans.good (ret := fun v : ByteArray => .tuple #[.string v, .int .i64 0]) ⟨v.toArray⟩ s' ?_ ?_ q1 q3
    · unfold OkText; rw [← bs_len, bs_mk]; omega
    · show bs s = text (bs _) ++ bs s'
      rw [bs_mk]
      unfold bs at *
      rw [q2]; exact h3
end

def brObj (b : Nat) (v1 v2 : Value) : Obj := .cells #[.pointer (some ⟨b, 0, none⟩), v1, v2] 158 (0, 0)
theorem br_cells {w : World} {q b : Nat} {v1 v2 : Value} (h : w.heap[q]? = some (brObj b v1 v2)) : w.cell? ⟨q, 0, none⟩ = some (.pointer (some ⟨b, 0, none⟩)) ∧ w.cell? ⟨q, 1, none⟩ = some v1 ∧ w.cell? ⟨q, 2, none⟩ = some v2 ∧ ∀ i, w.frozen? ⟨q, i, none⟩ = false := by
  refine ⟨?_, ?_, ?_, fun i => by simp [World.frozen?, h, brObj]⟩ <;> rw [Joins.cell_of_block h] <;> rfl
theorem br_far {w : World} {q b : Nat} {v1 v2 : Value} {s : ByteArray} (h : w.heap[q]? = some (brObj b v1 v2)) (hr : RdAt w b s) : q ≠ b := by
  rintro rfl
  unfold RdAt at hr
  rw [hr] at h
  simp [brObj] at h
theorem br_step {w w' : World} {q b : Nat} {v1 v2 : Value} {s : ByteArray} (h : w.heap[q]? = some (brObj b v1 v2)) (hr : RdAt w b s) (hs : Step b w none w' none) : w'.heap[q]? = some (brObj b v1 v2) :=
  (hs.kept.block q (lt_of_block h) (br_far h hr) (by simp)).trans h

set_option maxRecDepth 100000 in
set_option maxHeartbeats 500000 in
theorem share_ans (q b : Nat) (v1 : Value) (ao : Option Addr) (n c : Nat) (s : ByteArray) (w : World) (hq : w.heap[q]? = some (brObj b v1 (.slice ao n c))) (hr : RdAt w b s) (hs : s.size ≤ 1000000000000) (hn : n ≤ 1000000000000) :
    Calls Try.prog 105 #[.pointer (some ⟨q, 0, none⟩)] w fun e w' => Ans RdAt w b (bs s) enc (fun m => m ≤ n) (fun m => .tuple #[.int .i64 (m : Nat), .int .i64 0]) (.tuple #[.int .i64 0, .int .i64 1]) e w' := by
  obtain ⟨c0, c1, c2, _⟩ := br_cells hq
  go_enter Try.func105, Try.ntmps105
  go_wp2_with fail
  refine (num_ans b s _ hr hs).mono ?_
  rintro e w1 (⟨m, s1, hm, hl, rfl, hr1, hs1⟩ | ⟨hno, rfl, ⟨s1, hr1, hz1⟩, hs1⟩)
  · obtain ⟨d0, d1, d2, _⟩ := br_cells (br_step hq hr hs1)
    by_cases hmn : m ≤ n
    · have HA : Hid (Ans RdAt w b (bs s) enc (fun m => m ≤ n) (fun m => .tuple #[.int .i64 (m : Nat), .int .i64 0]) (.tuple #[.int .i64 0, .int .i64 1]) (.returned (.tuple #[.int .i64 (m : Nat), .int .i64 0])) w1) := Ans.good (ret := fun m : Nat => .tuple #[.int .i64 (m : Nat), .int .i64 0]) m s1 hmn hl hr1 hs1
      have h1 : decide ((n : Int) < (m : Int)) = false := by simp; omega
      have h2 : decide (n < m) = false := by simp; omega
      clear hl hr1 hs1 hr hq
      go_wp2
      go_ret2
      exact HA.out
    · have HA : Hid (Ans RdAt w b (bs s) enc (fun m => m ≤ n) (fun m => .tuple #[.int .i64 (m : Nat), .int .i64 0]) (.tuple #[.int .i64 0, .int .i64 1]) (.returned (.tuple #[.int .i64 0, .int .i64 1])) w1) :=
        Ans.miss (fun x t hx e => by
          rw [hl] at e
          obtain ⟨e1, _⟩ := enc_free hm (by omega) e
          omega) s1 hr1 (rest_len hl) hs1
      have h1 : decide ((n : Int) < (m : Int)) = true := by simp; omega
      have h2 : decide (n < m) = true := by simp; omega
      clear hl hr1 hs1 hr hq
      go_wp2
      go_ret2
      exact HA.out
  · have HA : Hid (Ans RdAt w b (bs s) enc (fun m => m ≤ n) (fun m => .tuple #[.int .i64 (m : Nat), .int .i64 0]) (.tuple #[.int .i64 0, .int .i64 1]) (.returned (.tuple #[.int .i64 0, .int .i64 1])) w1) :=
      Ans.miss (fun x t hx => hno x t (by omega)) s1 hr1 hz1 hs1
    clear hno hr1 hz1 hs1 hr hq
    go_wp2
    go_ret2
    exact HA.out

def OkMark (x : Bool × ByteArray) : Prop := OkText x.2 ∧ (x.1 = true → x.2 = ⟨#[]⟩)
theorem enc_one (t : List UInt8) : enc 1 ++ t = mark true [] ++ t := by
  have : enc 1 = [1] := by decide +kernel
  rw [this]; rfl
theorem enc_zero (v t : List UInt8) : enc 0 ++ (text v ++ t) = mark false v ++ t := by
  have : enc 0 = [0] := by decide +kernel
  rw [this]; rfl
set_option maxRecDepth 100000 in
set_option maxHeartbeats 500000 in
theorem value_ans (q b : Nat) (v1 v2 : Value) (s : ByteArray) (w : World) (hq : w.heap[q]? = some (brObj b v1 v2)) (hr : RdAt w b s) (hs : s.size ≤ 1000000000000) :
    Calls Try.prog 108 #[.pointer (some ⟨q, 0, none⟩)] w fun e w' => Ans RdAt w b (bs s) (fun x : Bool × ByteArray => mark x.1 (bs x.2)) OkMark (fun x => .tuple #[.bool x.1, .string x.2, .int .i64 0]) (.tuple #[.bool false, .string ⟨#[]⟩, .int .i64 1]) e w' := by
  obtain ⟨c0, c1, c2, _⟩ := br_cells hq
  have HBad : Hid (∀ w1 s1, (∀ x t, OkMark x → bs s ≠ mark x.1 (bs x.2) ++ t) → RdAt w1 b s1 → s1.size ≤ (bs s).length → Step b w none w1 none → Ans RdAt w b (bs s) (fun x : Bool × ByteArray => mark x.1 (bs x.2)) OkMark (fun x => .tuple #[.bool x.1, .string x.2, .int .i64 0]) (.tuple #[.bool false, .string ⟨#[]⟩, .int .i64 1]) (.returned (.tuple #[.bool false, .string ⟨#[]⟩, .int .i64 1])) w1) := fun w1 s1 h1 h2 h3 h4 => Ans.miss h1 s1 h2 h3 h4
  have HMark : Hid (∀ x : Bool × ByteArray, ∀ t, OkMark x → ∃ u, mark x.1 (bs x.2) ++ t = enc (if x.1 then 1 else 0) ++ u ∧ u = if x.1 then t else text (bs x.2) ++ t) := fun x t hx => by
    obtain ⟨d, v⟩ := x
    cases d
    · exact ⟨_, (enc_zero (bs v) t).symm, rfl⟩
    · have hv : v = ⟨#[]⟩ := hx.2 rfl
      subst hv
      exact ⟨_, (enc_one t).symm, rfl⟩
  go_enter Try.func108, Try.ntmps108
  go_wp2_with fail
  refine (num_ans b s _ hr hs).mono ?_
  rintro e w1 (⟨m, s1, hm, hl, rfl, hr1, hs1⟩ | ⟨hno, rfl, ⟨s1, hr1, hz1⟩, hs1⟩)
  · obtain ⟨d0, d1, d2, _⟩ := br_cells (br_step hq hr hs1)
    by_cases h1 : m = 1
    · subst h1
      have HA : Hid (Ans RdAt w b (bs s) (fun x : Bool × ByteArray => mark x.1 (bs x.2)) OkMark (fun x => .tuple #[.bool x.1, .string x.2, .int .i64 0]) (.tuple #[.bool false, .string ⟨#[]⟩, .int .i64 1]) (.returned (.tuple #[.bool true, .string ⟨#[]⟩, .int .i64 0])) w1) :=
        Ans.good (ret := fun x : Bool × ByteArray => .tuple #[.bool x.1, .string x.2, .int .i64 0]) (true, ⟨#[]⟩) s1 ⟨by show 0 < _; decide, fun _ => rfl⟩ (by rw [hl]; exact enc_one _) hr1 hs1
      clear hl hr1 hs1 hr hq HBad HMark
      go_wp2
      go_ret3
      exact HA.out
    · by_cases h0 : m = 0
      · subst h0
        go_wp2_with fail
        refine (text_ans b s1 _ hr1 (by have := rest_len hl; rw [bs_len] at this; omega)).mono ?_
        rintro e w2 (⟨v, s2, hv, hl2, rfl, hr2, hs2⟩ | ⟨hno, rfl, ⟨s2, hr2, hz2⟩, hs2⟩)
        · have HA : Hid (Ans RdAt w b (bs s) (fun x : Bool × ByteArray => mark x.1 (bs x.2)) OkMark (fun x => .tuple #[.bool x.1, .string x.2, .int .i64 0]) (.tuple #[.bool false, .string ⟨#[]⟩, .int .i64 1]) (.returned (.tuple #[.bool false, .string v, .int .i64 0])) w2) :=
            Ans.good (ret := fun x : Bool × ByteArray => .tuple #[.bool x.1, .string x.2, .int .i64 0]) (false, v) s2 ⟨hv, fun h => by cases h⟩ (by rw [hl, hl2]; exact enc_zero _ _) hr2 (hs1.trans hs2)
          clear hl hr1 hs1 hr hq HBad HMark hl2 hr2 hs2
          go_wp2
          go_ret3
          exact HA.out
        · have HA : Hid (Ans RdAt w b (bs s) (fun x : Bool × ByteArray => mark x.1 (bs x.2)) OkMark (fun x => .tuple #[.bool x.1, .string x.2, .int .i64 0]) (.tuple #[.bool false, .string ⟨#[]⟩, .int .i64 1]) (.returned (.tuple #[.bool false, .string ⟨#[]⟩, .int .i64 1])) w2) := HBad.out w2 s2 (fun x t hx e => by
            obtain ⟨u, e1, e2⟩ := HMark.out x t hx
            rw [hl, e1] at e
            obtain ⟨e3, e4⟩ := enc_free (by omega) (by split <;> omega) e
            cases hx1 : x.1 with
            | true => rw [hx1] at e3; simp at e3
            | false => rw [hx1] at e2; rw [e2] at e4; exact hno x.2 t hx.1 (by simpa using e4)) hr2 (by have := rest_len hl; rw [bs_len] at hz2; omega) (hs1.trans hs2)
          clear hl hr1 hs1 hr hq HBad HMark hno hr2 hs2
          go_wp2
          go_ret3
          exact HA.out
      · have HA : Hid (Ans RdAt w b (bs s) (fun x : Bool × ByteArray => mark x.1 (bs x.2)) OkMark (fun x => .tuple #[.bool x.1, .string x.2, .int .i64 0]) (.tuple #[.bool false, .string ⟨#[]⟩, .int .i64 1]) (.returned (.tuple #[.bool false, .string ⟨#[]⟩, .int .i64 1])) w1) := HBad.out w1 s1 (fun x t hx e => by
            obtain ⟨u, e1, e2⟩ := HMark.out x t hx
            rw [hl, e1] at e
            obtain ⟨e3, e4⟩ := enc_free hm (by split <;> omega) e
            split at e3 <;> omega) hr1 (rest_len hl) hs1
        have n1 : ((m : Int) == 1) = false := by rw [beq_eq_false_iff_ne]; omega
        have n0 : ((m : Int) == 0) = false := by rw [beq_eq_false_iff_ne]; omega
        clear hl hr1 hs1 hr hq HBad HMark
        go_wp2
        go_ret3
        exact HA.out
  · have HA : Hid (Ans RdAt w b (bs s) (fun x : Bool × ByteArray => mark x.1 (bs x.2)) OkMark (fun x => .tuple #[.bool x.1, .string x.2, .int .i64 0]) (.tuple #[.bool false, .string ⟨#[]⟩, .int .i64 1]) (.returned (.tuple #[.bool false, .string ⟨#[]⟩, .int .i64 1])) w1) := HBad.out w1 s1 (fun x t hx e => by
      obtain ⟨u, e1, e2⟩ := HMark.out x t hx
      rw [e1] at e
      exact hno _ u (by split <;> omega) e) hr1 hz1 hs1
    clear hno hr1 hz1 hs1 hr hq HBad HMark
    go_wp2
    go_ret3
    exact HA.out

def pcv (p : Pc) : Value := .agg #[.string p.rest, .int .i64 p.seq, .bool p.dead, .string p.val, .int .i64 p.share]
def pcObj (p : Pc) : Obj := .cells #[.string p.rest, .int .i64 p.seq, .bool p.dead, .string p.val, .int .i64 p.share] 160 (0, 0)
theorem pc_cells {w : World} {g : Nat} {p : Pc} (h : w.heap[g]? = some (pcObj p)) : w.cell? ⟨g, 0, none⟩ = some (.string p.rest) ∧ w.cell? ⟨g, 1, none⟩ = some (.int .i64 p.seq) ∧ w.cell? ⟨g, 2, none⟩ = some (.bool p.dead) ∧ w.cell? ⟨g, 3, none⟩ = some (.string p.val) ∧ w.cell? ⟨g, 4, none⟩ = some (.int .i64 p.share) ∧ ∀ i, w.frozen? ⟨g, i, none⟩ = false := by
  refine ⟨?_, ?_, ?_, ?_, ?_, fun i => by simp [World.frozen?, h, pcObj]⟩ <;> rw [Joins.cell_of_block h] <;> rfl
theorem pc_set {w : World} {g : Nat} {p : Pc} (h : w.heap[g]? = some (pcObj p)) (a b c d e : Value) :
    (w.setCell ⟨g, 0, none⟩ a).cell? ⟨g, 0, none⟩ = some a ∧ ((w.setCell ⟨g, 0, none⟩ a).setCell ⟨g, 1, none⟩ b).cell? ⟨g, 1, none⟩ = some b ∧ (((w.setCell ⟨g, 0, none⟩ a).setCell ⟨g, 1, none⟩ b).setCell ⟨g, 2, none⟩ c).cell? ⟨g, 2, none⟩ = some c ∧
    ((((w.setCell ⟨g, 0, none⟩ a).setCell ⟨g, 1, none⟩ b).setCell ⟨g, 2, none⟩ c).setCell ⟨g, 3, none⟩ d).cell? ⟨g, 3, none⟩ = some d ∧ (((((w.setCell ⟨g, 0, none⟩ a).setCell ⟨g, 1, none⟩ b).setCell ⟨g, 2, none⟩ c).setCell ⟨g, 3, none⟩ d).setCell ⟨g, 4, none⟩ e).cell? ⟨g, 4, none⟩ = some e := by
  unfold pcObj at h
  have h1 := Joins.block_setCell h (i := 0) a
  have h2 := Joins.block_setCell h1 (i := 1) b
  have h3 := Joins.block_setCell h2 (i := 2) c
  have h4 := Joins.block_setCell h3 (i := 3) d
  have h5 := Joins.block_setCell h4 (i := 4) e
  refine ⟨?_, ?_, ?_, ?_, ?_⟩
  · rw [Joins.cell_of_block h1]; rfl
  · rw [Joins.cell_of_block h2]; rfl
  · rw [Joins.cell_of_block h3]; rfl
  · rw [Joins.cell_of_block h4]; rfl
  · rw [Joins.cell_of_block h5]; rfl
theorem step_store {w X : World} {b g i : Nat} (h : Step b w none X none) (hg : w.heap.size ≤ g) (v : Value) : Step b w none (X.setCell ⟨g, i, none⟩ v) none :=
  ⟨⟨h.kept.os, h.kept.tape, h.kept.output, by simpa [World.setCell] using h.kept.size, fun k hk hkb hkr => (Below.heap_setCell _ _ _ _ (by simp; omega)).trans (h.kept.block k hk hkb hkr)⟩, .inl rfl⟩
/-- All five stored: what is left as it was. -/
theorem pc_store {w X : World} {b g : Nat} (h : Step b w none X none) (hg : w.heap.size ≤ g) (a c d e f : Value) : Step b w none (((((X.setCell ⟨g, 0, none⟩ a).setCell ⟨g, 1, none⟩ c).setCell ⟨g, 2, none⟩ d).setCell ⟨g, 3, none⟩ e).setCell ⟨g, 4, none⟩ f) none :=
  step_store (step_store (step_store (step_store (step_store h hg a) hg c) hg d) hg e) hg f
theorem pc_keep {X : World} {b g : Nat} {s : ByteArray} (h : RdAt X b s) (hg : b ≠ g) (a c d e f : Value) : RdAt (((((X.setCell ⟨g, 0, none⟩ a).setCell ⟨g, 1, none⟩ c).setCell ⟨g, 2, none⟩ d).setCell ⟨g, 3, none⟩ e).setCell ⟨g, 4, none⟩ f) b s := by
  unfold RdAt at *
  rw [Below.heap_setCell _ _ _ _ (by simpa using hg), Below.heap_setCell _ _ _ _ (by simpa using hg), Below.heap_setCell _ _ _ _ (by simpa using hg), Below.heap_setCell _ _ _ _ (by simpa using hg), Below.heap_setCell _ _ _ _ (by simpa using hg)]
  exact h
end Go.Proofs.Ytedjohkdfchocaa.Bk

/-
  Package block's reader: the next version as it stands there.
-/
namespace Go.Proofs.Ytedjohkdfchocaa.Bk
open Go.RowKit Cm Mm
open Pk (WrAt RdAt Step enc enc_len fold text)
set_option linter.unusedVariables false

/-- The next piece, of one that shares no more than n bytes. -/
def VAns (w : World) (b : Nat) (s : ByteArray) (n : Nat) (e : Ending) (w' : World) : Prop := Ans RdAt w b (bs s) Pc.bytes (fun p : Pc => p.Ok ∧ p.share ≤ n) (fun p => .tuple #[pcv p, .int .i64 0]) (.tuple #[pcv Pc.zero, .int .i64 1]) e w'
theorem zero_not {n : Nat} {l : List UInt8} (h : ∀ m t, m ≤ n → l ≠ enc m ++ t) (p : Pc) (t : List UInt8) (hp : p.Ok ∧ p.share ≤ n) : l ≠ p.bytes ++ t := by
  unfold Pc.bytes
  rw [List.append_assoc]
  exact h _ _ hp.2
set_option maxRecDepth 100000 in
set_option maxHeartbeats 2000000 in
theorem rversion_ans (q b : Nat) (v1 : Value) (ao : Option Addr) (n c : Nat) (s : ByteArray) (w : World) (hq : w.heap[q]? = some (brObj b v1 (.slice ao n c))) (hr : RdAt w b s) (hs : s.size ≤ 1000000000000) (hn : n ≤ 1000000000000) :
    Calls Try.prog 92 #[.pointer (some ⟨q, 0, none⟩)] w fun e w' => VAns w b s n e w' := by
  have hl := lt_of_block hq
  have hrl := hr.lt
  obtain ⟨w0, hw0⟩ : ∃ w0, w0 = w.alloc (.cells #[.string ⟨#[]⟩, .int .i64 0, .bool false, .string ⟨#[]⟩, .int .i64 0] 160) := ⟨_, rfl⟩
  have hq0 : w0.heap[q]? = some (brObj b v1 (.slice ao n c)) := by rw [hw0]; exact (Below.heap_alloc _ _ _ hl).trans hq
  have hr0 : RdAt w0 b s := by rw [hw0]; exact hr.alloc _
  have hg0 : w0.heap[w.heap.size]? = some (pcObj Pc.zero) := by rw [hw0]; exact heap_alloc_new w _
  have hs0 : Step b w none w0 none := by rw [hw0]; exact Step.alloc _ _ _ _
  have hbg : b ≠ w.heap.size := by omega
  have HBox : Hid (∀ X, Step b w0 none X none → X.heap[w.heap.size]? = some (pcObj Pc.zero)) := fun X h => (h.kept.block _ (lt_of_block hg0) (Ne.symm hbg) (by simp)).trans hg0
  have HQ : Hid (∀ X, Step b w0 none X none → X.heap[q]? = some (brObj b v1 (.slice ao n c))) := fun X h => br_step hq0 hr0 h
  have HBad : Hid (∀ X, Step b w0 none X none → ∀ s', RdAt X b s' → s'.size ≤ s.size → (∀ (p : Pc) t, p.Ok ∧ p.share ≤ n → bs s ≠ p.bytes ++ t) → VAns w b s n (.returned (.tuple #[pcv Pc.zero, .int .i64 1])) (((((X.setCell ⟨w.heap.size, 0, none⟩ (.string ⟨#[]⟩)).setCell ⟨w.heap.size, 1, none⟩ (.int .i64 0)).setCell ⟨w.heap.size, 2, none⟩ (.bool false)).setCell ⟨w.heap.size, 3, none⟩ (.string ⟨#[]⟩)).setCell ⟨w.heap.size, 4, none⟩ (.int .i64 0))) := fun X hX s' h1 h2 h3 =>
    Ans.miss h3 s' (pc_keep h1 hbg _ _ _ _ _) (by rw [bs_len]; exact h2) (pc_store (hs0.trans hX) (Nat.le_refl _) _ _ _ _ _)
  have HS0 : Hid _ := hs0
  clear hl hrl hg0 hq hr hs0
  go_enter Try.func92, Try.ntmps92
  go_wp2_with fail
  rw [← hw0]
  refine (share_ans q b v1 ao n c s _ hq0 hr0 hs hn).mono ?_
  rintro e w1 (⟨m, s1, hm, hl1, rfl, hr1, hs1⟩ | ⟨hno, rfl, ⟨s1, hr1, hz1⟩, hs1⟩)
  · obtain ⟨c0, _, _, _⟩ := br_cells (HQ.out w1 hs1)
    have hz1 : s1.size ≤ s.size := by have := rest_len hl1; rwa [bs_len] at this
    have HL1 : Hid _ := hl1
    have HS1 : Hid _ := hs1
    clear hl1 hs1
    go_wp2_with fail
    refine (text_ans b s1 _ hr1 (by omega)).mono ?_
    rintro e w2 (⟨r, s2, hok2, hl2, rfl, hr2, hs2⟩ | ⟨hno, rfl, ⟨s2, hr2, hz2⟩, hs2⟩)
    · have HS2 : Hid _ := HS1.out.trans hs2
      obtain ⟨c0, _, _, _⟩ := br_cells (HQ.out w2 HS2.out)
      have hz2 : s2.size ≤ s1.size := by have := rest_len hl2; rwa [bs_len] at this
      have HL2 : Hid _ := hl2
      clear hl2 hs2 HS1 hr1
      go_wp2_with fail
      refine (int_ans b s2 _ hr2 (by omega)).mono ?_
      rintro e w3 (⟨i, s3, hok3, hl3, rfl, hr3, hs3⟩ | ⟨hno, rfl, ⟨s3, hr3, hz3⟩, hs3⟩)
      · have HS3 : Hid _ := HS2.out.trans hs3
        obtain ⟨c0, _, _, _⟩ := br_cells (HQ.out w3 HS3.out)
        have hz3 : s3.size ≤ s2.size := by have := rest_len hl3; rwa [bs_len] at this
        have HL3 : Hid _ := hl3
        clear hl3 hs3 HS2 hr2
        have hv := value_ans q b v1 (.slice ao n c) s3 w3 (HQ.out w3 HS3.out) hr3 (by omega)
        go_wp2_with fail
        refine hv.mono ?_
        rintro e w4 (⟨x, s4, hok4, hl4, rfl, hr4, hs4⟩ | ⟨hno, rfl, ⟨s4, hr4, hz4⟩, hs4⟩)
        · obtain ⟨d, v⟩ := x
          have HS4 : Hid _ := HS3.out.trans hs4
          obtain ⟨b0, b1, b2, b3, b4, bf⟩ := pc_cells (HBox.out w4 HS4.out)
          have f0 := bf 0
          have f1 := bf 1
          have f2 := bf 2
          have f3 := bf 3
          have f4 := bf 4
          obtain ⟨g0, g1, g2, g3, g4⟩ := pc_set (HBox.out w4 HS4.out) (.string r) (.int .i64 i) (.bool d) (.string v) (.int .i64 m)
          unfold Pc.zero at b0 b1 b2 b3 b4
          have HA : Hid (VAns w b s n (.returned (.tuple #[pcv ⟨m, r, i, d, v⟩, .int .i64 0])) (((((w4.setCell ⟨w.heap.size, 0, none⟩ (.string r)).setCell ⟨w.heap.size, 1, none⟩ (.int .i64 i)).setCell ⟨w.heap.size, 2, none⟩ (.bool d)).setCell ⟨w.heap.size, 3, none⟩ (.string v)).setCell ⟨w.heap.size, 4, none⟩ (.int .i64 m))) := by
            refine Ans.good (ret := fun p : Pc => .tuple #[pcv p, .int .i64 0]) ⟨m, r, i, d, v⟩ s4 ⟨⟨hok3.1, hok3.2, by show m < _; omega, hok2, hok4.1, hok4.2⟩, hm⟩ ?_ (pc_keep hr4 hbg _ _ _ _ _) (pc_store (HS0.out.trans HS4.out) (Nat.le_refl _) _ _ _ _ _)
            rw [HL1.out, HL2.out, HL3.out, hl4]
            unfold Pc.bytes
            simp only [List.append_assoc]
          clear hl4 hs4 hr4 hr3 HS3 HS4 hv HQ HBox HBad HL1 HL2 HL3 bf hok4 hok3 hok2
          unfold pcv at HA
          go_wp2
          refine bodyPost_ret (by simp [results, Try.results92, go_sem, g0, g1, g2, g3, g4]; try rfl) rfl ?_
          exact HA.out
        · have HA : Hid _ := HBad.out w4 (HS3.out.trans hs4) s4 hr4 (by rw [bs_len] at hz4; omega) (fun p t hp e => by
            rw [HL1.out, HL2.out, HL3.out] at e
            unfold Pc.bytes at e
            simp only [List.append_assoc] at e
            obtain ⟨e1, e⟩ := enc_free (by omega) (by have := hp.1.share; omega) e
            obtain ⟨e2, e⟩ := text_free (by rw [bs_len]; unfold OkText at hok2; omega) (by rw [bs_len]; have := hp.1.rest; omega) e
            obtain ⟨e3, e⟩ := enc_free (Pk.fold_lt hok3.1 hok3.2) (Pk.fold_lt hp.1.lo hp.1.hi) e
            exact hno (p.dead, p.val) t ⟨hp.1.val, hp.1.dead⟩ e)
          obtain ⟨b0, b1, b2, b3, b4, bf⟩ := pc_cells (HBox.out w4 (HS3.out.trans hs4))
          have f0 := bf 0
          have f1 := bf 1
          have f2 := bf 2
          have f3 := bf 3
          have f4 := bf 4
          obtain ⟨g0, g1, g2, g3, g4⟩ := pc_set (HBox.out w4 (HS3.out.trans hs4)) (.string ⟨#[]⟩) (.int .i64 0) (.bool false) (.string ⟨#[]⟩) (.int .i64 0)
          unfold Pc.zero at b0 b1 b2 b3 b4
          clear hs4 hr4 hr3 HS3 hv HQ HBox HBad HL1 HL2 HL3 bf hok3 hok2 hno
          unfold pcv Pc.zero at HA
          go_wp2
          refine bodyPost_ret (by simp [results, Try.results92, go_sem, g0, g1, g2, g3, g4]; try rfl) rfl ?_
          exact HA.out
      · have HA : Hid _ := HBad.out w3 (HS2.out.trans hs3) s3 hr3 (by rw [bs_len] at hz3; omega) (fun p t hp e => by
          rw [HL1.out, HL2.out] at e
          unfold Pc.bytes at e
          simp only [List.append_assoc] at e
          obtain ⟨e1, e⟩ := enc_free (by omega) (by have := hp.1.share; omega) e
          obtain ⟨e2, e⟩ := text_free (by rw [bs_len]; unfold OkText at hok2; omega) (by rw [bs_len]; have := hp.1.rest; omega) e
          exact hno p.seq _ ⟨hp.1.lo, hp.1.hi⟩ e)
        obtain ⟨b0, b1, b2, b3, b4, bf⟩ := pc_cells (HBox.out w3 (HS2.out.trans hs3))
        have f0 := bf 0
        have f1 := bf 1
        have f2 := bf 2
        have f3 := bf 3
        have f4 := bf 4
        obtain ⟨g0, g1, g2, g3, g4⟩ := pc_set (HBox.out w3 (HS2.out.trans hs3)) (.string ⟨#[]⟩) (.int .i64 0) (.bool false) (.string ⟨#[]⟩) (.int .i64 0)
        unfold Pc.zero at b0 b1 b2 b3 b4
        clear hs3 hr3 hr2 HS2 HQ HBox HBad HL1 HL2 bf hok2 hno
        unfold pcv Pc.zero at HA
        go_wp2
        refine bodyPost_ret (by simp [results, Try.results92, go_sem, g0, g1, g2, g3, g4]; try rfl) rfl ?_
        exact HA.out
    · have HA : Hid _ := HBad.out w2 (HS1.out.trans hs2) s2 hr2 (by rw [bs_len] at hz2; omega) (fun p t hp e => by
        rw [HL1.out] at e
        unfold Pc.bytes at e
        simp only [List.append_assoc] at e
        obtain ⟨e1, e⟩ := enc_free (by omega) (by have := hp.1.share; omega) e
        exact hno p.rest _ hp.1.rest e)
      obtain ⟨b0, b1, b2, b3, b4, bf⟩ := pc_cells (HBox.out w2 (HS1.out.trans hs2))
      have f0 := bf 0
      have f1 := bf 1
      have f2 := bf 2
      have f3 := bf 3
      have f4 := bf 4
      obtain ⟨g0, g1, g2, g3, g4⟩ := pc_set (HBox.out w2 (HS1.out.trans hs2)) (.string ⟨#[]⟩) (.int .i64 0) (.bool false) (.string ⟨#[]⟩) (.int .i64 0)
      unfold Pc.zero at b0 b1 b2 b3 b4
      clear hs2 hr2 hr1 HS1 HQ HBox HBad HL1 bf hno
      unfold pcv Pc.zero at HA
      go_wp2
      refine bodyPost_ret (by simp [results, Try.results92, go_sem, g0, g1, g2, g3, g4]; try rfl) rfl ?_
      exact HA.out
  · have HA : Hid _ := HBad.out w1 hs1 s1 hr1 (by rw [bs_len] at hz1; omega) (fun p t hp e => by
      exact zero_not hno p t hp e)
    obtain ⟨b0, b1, b2, b3, b4, bf⟩ := pc_cells (HBox.out w1 hs1)
    have f0 := bf 0
    have f1 := bf 1
    have f2 := bf 2
    have f3 := bf 3
    have f4 := bf 4
    obtain ⟨g0, g1, g2, g3, g4⟩ := pc_set (HBox.out w1 hs1) (.string ⟨#[]⟩) (.int .i64 0) (.bool false) (.string ⟨#[]⟩) (.int .i64 0)
    unfold Pc.zero at b0 b1 b2 b3 b4
    clear hs1 hr1 HQ HBox HBad bf hno
    unfold pcv Pc.zero at HA
    go_wp2
    refine bodyPost_ret (by simp [results, Try.results92, go_sem, g0, g1, g2, g3, g4]; try rfl) rfl ?_
    exact HA.out
end Go.Proofs.Ytedjohkdfchocaa.Bk

/-
  The document's answers for layer 6 that later layers use too: lists of versions compared, versions compared, does a list rise.
-/
namespace Go.Proofs.Ytedjohkdfchocaa.Mm
open Go.RowKit Cm
set_option linter.unusedVariables false

theorem guardEn : Try.prog.eqGuardType Try.prog.depth 44 = false := by kernel_rfl
theorem neq_self (k : ByteArray) (n : Int) (d : Bool) (v : ByteArray) (w : World) : (binOp .neq 44 (.agg #[.string k, .int .i64 n, .bool d, .string v]) (.agg #[.string k, .int .i64 n, .bool d, .string v])).run Try.prog w = .ok (.bool false) w := by
  have u3 := Try.underlying3
  have a3 := Try.isAgg3
  have z3 := Try.sizeOf3
  have u9 := Try.underlying9
  have a9 := Try.isAgg9
  have z9 := Try.sizeOf9
  have u4 := Try.underlying4
  have a4 := Try.isAgg4
  have z4 := Try.sizeOf4
  have hS : Try.prog.underlying 44 = some (.struct (Try.prog.fieldsOf 44)) := by kernel_rfl
  have hp : Try.prog.stoodInHeld 44 = false := by kernel_rfl
  rw [run_neq_struct, show (10000 : Nat) = 9999 + 1 from rfl, run_equalIn_agg w 9999 44 _ _ hS hp]
  simp only [Program.fieldsOf, Try.underlying44]
  go_simp
theorem eql_self (k : ByteArray) (n : Int) (d : Bool) (v : ByteArray) (w : World) : (binOp .eql 44 (.agg #[.string k, .int .i64 n, .bool d, .string v]) (.agg #[.string k, .int .i64 n, .bool d, .string v])).run Try.prog w = .ok (.bool true) w := by
  have u3 := Try.underlying3
  have a3 := Try.isAgg3
  have z3 := Try.sizeOf3
  have u9 := Try.underlying9
  have a9 := Try.isAgg9
  have z9 := Try.sizeOf9
  have u4 := Try.underlying4
  have a4 := Try.isAgg4
  have z4 := Try.sizeOf4
  have hS : Try.prog.underlying 44 = some (.struct (Try.prog.fieldsOf 44)) := by kernel_rfl
  have hp : Try.prog.stoodInHeld 44 = false := by kernel_rfl
  rw [run_eql_struct, show (10000 : Nat) = 9999 + 1 from rfl, run_equalIn_agg w 9999 44 _ _ hS hp]
  simp only [Program.fieldsOf, Try.underlying44]
  go_simp
set_option maxRecDepth 100000 in
set_option maxHeartbeats 500000 in
theorem same_any (ao bo : Option Addr) (ca cb : Nat) (ps : List En) (w : World) (ha : ElemsAt enShape w ao ps) (hb : ElemsAt enShape w bo ps) (hlen : ps.length ≤ 1000000000000) :
    Calls Try.prog 14 #[.slice ao ps.length ca, .slice bo ps.length cb] w fun e w' => e = .returned (.bool true) ∧ ∃ n, w' = w.drewN n := by
  have hgd := guardEn
  have hns := neq_self
  go_enter Try.func14, Try.ntmps14
  go_wp2
  go_loopw [13] (fun i wr => ∃ k m : Nat, k ≤ ps.length ∧ i = .int .i64 k ∧ Hid (wr = w.drewN m)) (fun i _ => ps.length - (intOf i).toNat)
  case atStart => exact ⟨0, 0, by omega, rfl, rfl⟩
  case round =>
    obtain ⟨k, m, hk, rfl, HW⟩ := hrel
    by_cases hlt : k < ps.length
    · have hwr := HW.out
      subst hwr
      clear HW
      obtain ⟨b1, o1, rfl, d0, d1, d2, d3⟩ := elem_cells ha hlt
      obtain ⟨b2, o2, rfl, f0, f1, f2, f3⟩ := elem_cells hb hlt
      generalize ps.getD k En.zero = p at *
      have hk0 : (0 : Int) ≤ (k : Int) := by omega
      have hk1 : (k : Int) < (ps.length : Int) := by omega
      clear ha hb
      go_wp2_with fail
      go_quiet (fail)
      go_wp2
      go_roundw
      case rel => exact ⟨k + 1, _, by omega, by go_num, hid_rfl⟩
      case measure => simp [intOf]; omega
    · go_wp2
      go_ret
      exact ⟨rfl, m, HW.out⟩
set_option maxRecDepth 100000 in
set_option maxHeartbeats 500000 in
theorem less_any (a b : En) (w : World) : Calls Try.prog 75 #[env a, env b] w fun e w' => e = .returned (.bool (Mm.less a b)) ∧ Below w.heap.size w w' := by
  have hb := beq_toList a.key b.key
  have hB : Below w.heap.size w ((w.alloc (entObj a)).alloc (entObj b)) := ((Below.refl _ _).alloc (Nat.le_refl _) _).alloc (by simp) _
  unfold entObj at hB
  have HB : Hid _ := hB
  clear hB
  unfold env Mm.less En.ahead
  by_cases hk : a.key = b.key
  · rw [if_pos hk]
    rw [decide_eq_true hk] at hb
    have hl := lt_irrefl b.key
    unfold lt at hl
    have hl2 : Op.bytesLess a.key.toList b.key.toList = false := by rw [hk]; exact hl
    clear hk hl
    generalize a.key = K at *
    go_enter Try.func75, Try.ntmps75
    go_wp2
    go_ret
    exact ⟨rfl, HB.out⟩
  · rw [if_neg hk]
    rw [decide_eq_false hk] at hb
    unfold lt
    cases hl : Op.bytesLess a.key.toList b.key.toList
    · clear hk
      generalize a.key = K at *
      go_enter Try.func75, Try.ntmps75
      go_wp2
      go_ret
      exact ⟨rfl, HB.out⟩
    · clear hk
      generalize a.key = K at *
      go_enter Try.func75, Try.ntmps75
      go_wp2
      go_ret
      exact ⟨rfl, HB.out⟩
set_option maxRecDepth 100000 in
set_option maxHeartbeats 500000 in
theorem rising_any (ao : Option Addr) (ca : Nat) (xs : List En) (w : World) (hx : ElemsAt enShape w ao xs) (hs : Sorted xs) (hl : xs.length ≤ 100000000000) :
    Calls Try.prog 45 #[.slice ao xs.length ca] w fun e w' => e = .returned (.bool true) ∧ Below w.heap.size w w' := by
  have HX : Hid (∀ wr, Below w.heap.size w wr → ElemsAt enShape wr ao xs) := fun wr hb => hx.later hb
  have HS : Hid (∀ k, k + 1 < xs.length → Mm.less (xs.getD k En.zero) (xs.getD (k + 1) En.zero) = true) := fun k hk => by
    rw [getD_lt _ _ _ (by omega), getD_lt _ _ _ hk]
    exact (List.pairwise_iff_getElem.1 hs) k (k + 1) (by omega) hk (by omega)
  clear hx hs
  go_enter Try.func45, Try.ntmps45
  go_wp2
  go_loopw [3] (fun i wr => ∃ j : Nat, i = .int .i64 (j : Int) ∧ 1 ≤ j ∧ j ≤ xs.length + 1 ∧ Hid (Below w.heap.size w wr)) (fun i _ => xs.length + 1 - (intOf i).toNat)
  case atStart => exact ⟨1, rfl, by omega, by omega, Below.refl _ _⟩
  case round =>
    obtain ⟨j, rfl, hj1, hj, HB⟩ := hrel
    by_cases hlt : j < xs.length
    · obtain ⟨k, hkj⟩ : ∃ k, k + 1 = j := ⟨j - 1, by omega⟩
      have HKJ : Hid (k + 1 = j) := hkj
      have hw : IntKind.i64.wrap ((j : Int) - 1) = (k : Int) := wrap_nat (by omega) (by omega)
      have hkl : k < xs.length := by omega
      have HS1 := HS.out k (by omega)
      rw [hkj] at HS1
      clear hkj
      obtain ⟨pb, off, rfl, c0, c1, c2, c3⟩ := elem_cells (HX.out wr HB.out) (k := k) hkl
      obtain ⟨pb2, off2, e2, d0, d1, d2, d3⟩ := elem_cells (HX.out wr HB.out) hlt
      cases e2
      have HK : Hid (∀ w', Below w.heap.size w w' → w'.cell? ⟨pb, off + k * 4, none⟩ = some (.string (xs.getD k En.zero).key) ∧ w'.cell? ⟨pb, off + k * 4 + 1, none⟩ = some (.int .i64 (xs.getD k En.zero).seq) ∧ w'.cell? ⟨pb, off + k * 4 + 2, none⟩ = some (.bool (xs.getD k En.zero).dead) ∧ w'.cell? ⟨pb, off + k * 4 + 3, none⟩ = some (.string (xs.getD k En.zero).val) ∧ w'.cell? ⟨pb, off + j * 4, none⟩ = some (.string (xs.getD j En.zero).key) ∧ w'.cell? ⟨pb, off + j * 4 + 1, none⟩ = some (.int .i64 (xs.getD j En.zero).seq) ∧ w'.cell? ⟨pb, off + j * 4 + 2, none⟩ = some (.bool (xs.getD j En.zero).dead) ∧ w'.cell? ⟨pb, off + j * 4 + 3, none⟩ = some (.string (xs.getD j En.zero).val)) := fun w' hb => by
        obtain ⟨p1, o1, e1, a0, a1, a2, a3⟩ := elem_cells (HX.out w' hb) (k := k) hkl
        obtain ⟨p2, o2, e3, b0, b1, b2, b3⟩ := elem_cells (HX.out w' hb) hlt
        cases e1
        cases e3
        exact ⟨a0, a1, a2, a3, b0, b1, b2, b3⟩
      have HL : Hid (∀ wq, _) := fun wq => less_any (xs.getD k En.zero) (xs.getD j En.zero) wq
      rw [HS1] at HL
      unfold env at HL
      generalize xs.getD k En.zero = y at *
      generalize xs.getD j En.zero = z at *
      have hk0 : (0 : Int) ≤ (k : Int) := by omega
      have hk1 : (j : Int) < (xs.length : Int) := by omega
      have hk3 : (0 : Int) ≤ (j : Int) := by omega
      have hk2 : (k : Int) < (xs.length : Int) := by omega
      have hbs := HB.out.size
      have HBd : Hid (∀ wq, Below wr.drew.heap.size wr.drew wq → Below w.heap.size w wq) := fun wq h => HB.out.drew.trans (h.mono hbs)
      clear HX HS HB HS1
      go_wp2_with fail
      go_region_held3 (fun w' => w'.cell? ⟨pb, off + k * 4, none⟩ = some (.string y.key) ∧ w'.cell? ⟨pb, off + k * 4 + 1, none⟩ = some (.int .i64 y.seq) ∧ w'.cell? ⟨pb, off + k * 4 + 2, none⟩ = some (.bool y.dead) ∧ w'.cell? ⟨pb, off + k * 4 + 3, none⟩ = some (.string y.val) ∧ w'.cell? ⟨pb, off + j * 4, none⟩ = some (.string z.key) ∧ w'.cell? ⟨pb, off + j * 4 + 1, none⟩ = some (.int .i64 z.seq) ∧ w'.cell? ⟨pb, off + j * 4 + 2, none⟩ = some (.bool z.dead) ∧ w'.cell? ⟨pb, off + j * 4 + 3, none⟩ = some (.string z.val)) (first | with_reducible exact ⟨c0, c1, c2, c3, d0, d1, d2, d3⟩ | exact ⟨c0, c1, c2, c3, d0, d1, d2, d3⟩ | exact HK.out _ hbq)
        ((go_at_call 75; refine (show Calls _ _ _ _ _ from HL.out _).mono ?_; rintro e w2 ⟨rfl, hb2⟩; have hbq := HBd.out w2 hb2))
      have HB2 : Hid _ := hbq
      clear hb2 hbq HBd HK HL
      go_wp2
      go_roundw
      case rel => exact ⟨j + 1, by go_num, by omega, by omega, HB2⟩
      case measure => simp [intOf]; omega
    · go_wp2
      go_ret
      exact ⟨rfl, HB.out⟩
end Go.Proofs.Ytedjohkdfchocaa.Mm

/-
  Package block and the document's answer: is a version sound, do two stand in order, are all of a list right.
-/
namespace Go.Proofs.Ytedjohkdfchocaa.Bk
open Go.RowKit Cm Mm
set_option linter.unusedVariables false

theorem empty_iff (s : ByteArray) : s.toList.isEmpty = decide (s.size = 0) := by
  rw [bs_toList, ← bs_len]
  cases bs s <;> simp
theorem empty_beq (s : ByteArray) : (s.toList == (⟨#[]⟩ : ByteArray).toList) = decide (s.size = 0) := by
  rw [bs_toList, bs_toList, ← bs_len]
  cases bs s <;> simp [bs]
set_option maxRecDepth 100000 in
theorem sound_any (e : En) (w : World) : Calls Try.prog 83 #[env e] w fun r w' => r = .returned (.bool (sound e)) ∧ w' = w.alloc (entObj e) := by
  unfold env sound entObj
  have h1 := empty_iff e.val
  have h2 := empty_beq e.val
  cases hd : e.dead
  · go_enter Try.func83, Try.ntmps83
    go_wp2
    go_ret
    exact ⟨rfl, by rw [← hd]⟩
  · by_cases hv : e.val.size = 0
    · rw [decide_eq_true hv] at h1 h2 ⊢
      clear hv
      go_enter Try.func83, Try.ntmps83
      go_wp2
      go_ret
      exact ⟨rfl, by rw [← hd]⟩
    · rw [decide_eq_false hv] at h1 h2 ⊢
      clear hv
      go_enter Try.func83, Try.ntmps83
      go_wp2
      go_ret
      exact ⟨rfl, by rw [← hd]⟩
set_option maxRecDepth 100000 in
theorem rises_any (a b : En) (w : World) : Calls Try.prog 84 #[env a, env b] w fun r w' => r = .returned (.bool (less a b)) ∧ Below w.heap.size w w' := by
  have hb := beq_toList a.key b.key
  have hB : Below w.heap.size w ((w.alloc (entObj a)).alloc (entObj b)) := ((Below.refl _ _).alloc (Nat.le_refl _) _).alloc (by simp) _
  unfold entObj at hB
  have HB : Hid _ := hB
  clear hB
  unfold env Mm.less En.ahead
  by_cases hk : a.key = b.key
  · rw [if_pos hk]
    rw [decide_eq_true hk] at hb
    clear hk
    generalize a.key = K at *
    go_enter Try.func84, Try.ntmps84
    go_wp2
    go_ret
    exact ⟨rfl, HB.out⟩
  · rw [if_neg hk]
    rw [decide_eq_false hk] at hb
    unfold lt
    clear hk
    generalize a.key = K at *
    go_enter Try.func84, Try.ntmps84
    go_wp2
    go_ret
    exact ⟨rfl, HB.out⟩
set_option maxRecDepth 100000 in
set_option maxHeartbeats 500000 in
theorem risingR_any (ao : Option Addr) (ca : Nat) (xs : List En) (w : World) (hx : ElemsAt enShape w ao xs) (hl : xs.length ≤ 100000000000) :
    Calls Try.prog 45 #[.slice ao xs.length ca] w fun e w' => e = .returned (.bool (rises xs)) ∧ Below w.heap.size w w' := by
  have HX : Hid (∀ wr, Below w.heap.size w wr → ElemsAt enShape wr ao xs) := fun wr hb => hx.later hb
  clear hx
  go_enter Try.func45, Try.ntmps45
  go_wp2
  go_loopw [3] (fun i wr => ∃ j : Nat, i = .int .i64 (j : Int) ∧ 1 ≤ j ∧ j ≤ xs.length + 1 ∧ Hid (∀ k, k + 1 < xs.length → k + 1 < j → Mm.less (xs.getD k En.zero) (xs.getD (k + 1) En.zero) = true) ∧ Hid (Below w.heap.size w wr)) (fun i _ => xs.length + 1 - (intOf i).toNat)
  case atStart => exact ⟨1, rfl, by omega, by omega, (fun k _ hk => by omega), Below.refl _ _⟩
  case round =>
    obtain ⟨j, rfl, hj1, hj, HS, HB⟩ := hrel
    by_cases hlt : j < xs.length
    · obtain ⟨k, hkj⟩ : ∃ k, k + 1 = j := ⟨j - 1, by omega⟩
      have HKJ : Hid (k + 1 = j) := hkj
      have hw : IntKind.i64.wrap ((j : Int) - 1) = (k : Int) := wrap_nat (by omega) (by omega)
      have hkl : k < xs.length := by omega
      have HY : Hid (Mm.less (xs.getD k En.zero) (xs.getD j En.zero) = true → ∀ k, k + 1 < xs.length → k + 1 < j + 1 → Mm.less (xs.getD k En.zero) (xs.getD (k + 1) En.zero) = true) := fun h i hi hij => by
        rcases Nat.lt_or_ge (i + 1) j with q | q
        · exact HS.out i hi q
        · obtain rfl : i = k := by omega
          rw [hkj]; exact h
      have HN : Hid (Mm.less (xs.getD k En.zero) (xs.getD j En.zero) = false → rises xs = false) := fun h => by
        cases hr : rises xs
        · rfl
        · have := (rises_iff xs).1 hr k (by omega)
          rw [hkj, h] at this; cases this
      clear hkj HS
      obtain ⟨pb, off, rfl, c0, c1, c2, c3⟩ := elem_cells (HX.out wr HB.out) (k := k) hkl
      obtain ⟨pb2, off2, e2, d0, d1, d2, d3⟩ := elem_cells (HX.out wr HB.out) hlt
      cases e2
      have HK : Hid (∀ w', Below w.heap.size w w' → w'.cell? ⟨pb, off + k * 4, none⟩ = some (.string (xs.getD k En.zero).key) ∧ w'.cell? ⟨pb, off + k * 4 + 1, none⟩ = some (.int .i64 (xs.getD k En.zero).seq) ∧ w'.cell? ⟨pb, off + k * 4 + 2, none⟩ = some (.bool (xs.getD k En.zero).dead) ∧ w'.cell? ⟨pb, off + k * 4 + 3, none⟩ = some (.string (xs.getD k En.zero).val) ∧ w'.cell? ⟨pb, off + j * 4, none⟩ = some (.string (xs.getD j En.zero).key) ∧ w'.cell? ⟨pb, off + j * 4 + 1, none⟩ = some (.int .i64 (xs.getD j En.zero).seq) ∧ w'.cell? ⟨pb, off + j * 4 + 2, none⟩ = some (.bool (xs.getD j En.zero).dead) ∧ w'.cell? ⟨pb, off + j * 4 + 3, none⟩ = some (.string (xs.getD j En.zero).val)) := fun w' hb => by
        obtain ⟨p1, o1, e1, a0, a1, a2, a3⟩ := elem_cells (HX.out w' hb) (k := k) hkl
        obtain ⟨p2, o2, e3, b0, b1, b2, b3⟩ := elem_cells (HX.out w' hb) hlt
        cases e1
        cases e3
        exact ⟨a0, a1, a2, a3, b0, b1, b2, b3⟩
      have HL : Hid (∀ wq, _) := fun wq => less_any (xs.getD k En.zero) (xs.getD j En.zero) wq
      unfold env at HL
      generalize xs.getD k En.zero = y at *
      generalize xs.getD j En.zero = z at *
      generalize Mm.less y z = L at *
      have hk0 : (0 : Int) ≤ (k : Int) := by omega
      have hk1 : (j : Int) < (xs.length : Int) := by omega
      have hk3 : (0 : Int) ≤ (j : Int) := by omega
      have hk2 : (k : Int) < (xs.length : Int) := by omega
      have hbs := HB.out.size
      have HBd : Hid (∀ wq, Below wr.drew.heap.size wr.drew wq → Below w.heap.size w wq) := fun wq h => HB.out.drew.trans (h.mono hbs)
      clear HX HB
      go_wp2_with fail
      go_region_held3 (fun w' => w'.cell? ⟨pb, off + k * 4, none⟩ = some (.string y.key) ∧ w'.cell? ⟨pb, off + k * 4 + 1, none⟩ = some (.int .i64 y.seq) ∧ w'.cell? ⟨pb, off + k * 4 + 2, none⟩ = some (.bool y.dead) ∧ w'.cell? ⟨pb, off + k * 4 + 3, none⟩ = some (.string y.val) ∧ w'.cell? ⟨pb, off + j * 4, none⟩ = some (.string z.key) ∧ w'.cell? ⟨pb, off + j * 4 + 1, none⟩ = some (.int .i64 z.seq) ∧ w'.cell? ⟨pb, off + j * 4 + 2, none⟩ = some (.bool z.dead) ∧ w'.cell? ⟨pb, off + j * 4 + 3, none⟩ = some (.string z.val)) (first | with_reducible exact ⟨c0, c1, c2, c3, d0, d1, d2, d3⟩ | exact ⟨c0, c1, c2, c3, d0, d1, d2, d3⟩ | exact HK.out _ hbq)
        ((go_at_call 75; refine (show Calls _ _ _ _ _ from HL.out _).mono ?_; rintro e w2 ⟨rfl, hb2⟩; have hbq := HBd.out w2 hb2))
      have HB2 : Hid _ := hbq
      clear hb2 hbq HBd HK HL
      cases L
      · have HR : Hid _ := HN.out rfl
        clear HN HY
        go_wp2
        go_ret
        exact ⟨by rw [HR.out]; rfl, HB2.out⟩
      · have HY1 : Hid _ := HY.out rfl
        clear HN HY
        go_wp2
        go_roundw
        case rel => exact ⟨j + 1, by go_num, by omega, by omega, HY1, HB2⟩
        case measure => simp [intOf]; omega
    · have HR : Hid (rises xs = true) := (rises_iff xs).2 fun k hk => HS.out k hk (by omega)
      clear HS HX
      go_wp2
      go_ret
      exact ⟨by rw [HR.out]; rfl, HB.out⟩
set_option maxRecDepth 100000 in
set_option maxHeartbeats 500000 in
theorem rightR_any (ao : Option Addr) (ca : Nat) (xs : List En) (w : World) (hx : ElemsAt enShape w ao xs) (hl : xs.length ≤ 100000000000) :
    Calls Try.prog 20 #[.slice ao xs.length ca] w fun e w' => e = .returned (.bool (right xs)) ∧ Below w.heap.size w w' := by
  have HX : Hid (∀ wr, Below w.heap.size w wr → ElemsAt enShape wr ao xs) := fun wr hb => hx.later hb
  clear hx
  go_enter Try.func20, Try.ntmps20
  go_wp2
  go_loopw [7] (fun i wr => ∃ k : Nat, k ≤ xs.length ∧ i = .int .i64 k ∧ Hid (∀ j, j < k → sound (xs.getD j En.zero) = true) ∧ Hid (Below w.heap.size w wr)) (fun i _ => xs.length - (intOf i).toNat)
  case atStart => exact ⟨0, by omega, rfl, (fun j hj => by omega), Below.refl _ _⟩
  case round =>
    obtain ⟨k, hk, rfl, HS, HB⟩ := hrel
    by_cases hlt : k < xs.length
    · obtain ⟨pb, off, rfl, c0, c1, c2, c3⟩ := elem_cells (HX.out wr HB.out) hlt
      have HY : Hid (sound (xs.getD k En.zero) = true → ∀ j, j < k + 1 → sound (xs.getD j En.zero) = true) := fun h i hi => by
        rcases Nat.lt_or_ge i k with q | q
        · exact HS.out i q
        · obtain rfl : i = k := by omega
          exact h
      have HN : Hid (sound (xs.getD k En.zero) = false → right xs = false) := fun h => not_right hlt (by rw [h]; simp)
      have HBn : Hid (∀ o, Below w.heap.size w (wr.alloc o)) := fun o => HB.out.alloc HB.out.size o
      have h1 := empty_iff (xs.getD k En.zero).val
      have h2 := empty_beq (xs.getD k En.zero).val
      generalize xs.getD k En.zero = y at *
      have hk0 : (0 : Int) ≤ (k : Int) := by omega
      have hk1 : (k : Int) < (xs.length : Int) := by omega
      clear HS HB HX
      cases hd : y.dead
      · have HY1 : Hid _ := HY.out (by unfold sound; rw [hd]; rfl)
        clear HY HN
        rw [hd] at c2
        go_wp2
        go_roundw
        case rel => exact ⟨k + 1, by omega, by go_num, HY1, HBn.out _⟩
        case measure => simp [intOf]; omega
      · rw [hd] at c2
        by_cases hv : y.val.size = 0
        · have HY1 : Hid _ := HY.out (by unfold sound; rw [hd]; simp [hv])
          rw [decide_eq_true hv] at h1 h2
          clear HY HN hv
          go_wp2
          go_roundw
          case rel => exact ⟨k + 1, by omega, by go_num, HY1, HBn.out _⟩
          case measure => simp [intOf]; omega
        · have HR : Hid _ := HN.out (by unfold sound; rw [hd]; simp [hv])
          rw [decide_eq_false hv] at h1 h2
          clear HY HN hv
          go_wp2
          go_ret
          exact ⟨by rw [HR.out]; rfl, HBn.out _⟩
    · have HR : Hid (right xs = rises xs) := by
        have : xs.all sound = true := (all_iff xs).2 fun j hj => HS.out j (by omega)
        show _ = _
        unfold right; rw [this]; rfl
      have hq := risingR_any ao ca xs wr (HX.out wr HB.out) hl
      clear HS HX
      go_wp2_with fail
      refine hq.mono ?_
      rintro e w2 ⟨rfl, hb2⟩
      have HB2 : Hid (Below w.heap.size w w2) := HB.out.trans (hb2.mono HB.out.size)
      clear hb2 HB hq
      go_wp2
      go_ret
      exact ⟨by rw [HR.out]; rfl, HB2.out⟩
end Go.Proofs.Ytedjohkdfchocaa.Bk

/-
  Package block's reader in memory: its pieces and the key before; does a piece fit behind them.
-/
namespace Go.Proofs.Ytedjohkdfchocaa.Bk
open Go.RowKit Cm Mm
open Pk (WrAt RdAt Step enc enc_len fold text)
set_option linter.unusedVariables false

def pcShape : Shape Pc := ⟨5, fun p => [.string p.rest, .int .i64 p.seq, .bool p.dead, .string p.val, .int .i64 p.share], by decide, fun _ => rfl, fun a u hu => by simp at hu; rcases hu with rfl | rfl | rfl | rfl | rfl <;> rfl⟩
/-- A reader of versions: pack's reader has s left, these versions were read. -/
structure RS (w : World) (base q b : Nat) (s : ByteArray) (es : List En) (v1 v2 : Value) (X : World) : Prop where
  hq : X.heap[q]? = some (brObj b v1 v2)
  own1 : X.ownsRow base 160 5 v1 es.length (pcShape.vals (pcs [] es))
  own2 : X.ownsRow base 5 1 v2 (lastKey [] es).length ((lastKey [] es).map B8)
  rd : RdAt X b s
  bel : Below base w X
theorem row1 {w : World} {base n : Nat} {v : Value} {vs : List Value} (h : w.ownsRow base 5 1 v n vs) : ∃ ao c, v = .slice ao n c ∧ n ≤ c := by
  rcases h.2 with ⟨rfl, h0⟩ | ⟨g, cap, cur, rfl, hB, hg, hle, _⟩
  · subst h0; exact ⟨_, _, rfl, Nat.le_refl _⟩
  · exact ⟨_, _, rfl, hle⟩
theorem row5 {w : World} {base n : Nat} {v : Value} {vs : List Value} (h : w.ownsRow base 160 5 v n vs) : ∃ ao c, v = .slice ao n c ∧ n ≤ c := by
  rcases h.2 with ⟨rfl, h0⟩ | ⟨g, cap, cur, rfl, hB, hg, hle, _⟩
  · subst h0; exact ⟨_, _, rfl, Nat.le_refl _⟩
  · exact ⟨_, _, rfl, hle⟩
theorem pcs_seq (last : List UInt8) (es : List En) (k : Nat) (h : k < es.length) : ((pcs last es).getD k Pc.zero).seq = (es.getD k En.zero).seq := by
  induction es generalizing last k with
  | nil => simp at h
  | cons e r ih =>
    cases k with
    | zero => rfl
    | succ k => simpa [pcs] using ih (bs e.key) k (by simpa using h)
theorem pcs_at (last : List UInt8) (es : List En) (k : Nat) (h : k < es.length) : (pcs last es).getD k Pc.zero = pc (lastKey last (es.take k)) (es.getD k En.zero) := by
  induction es generalizing last k with
  | nil => simp at h
  | cons e r ih =>
    cases k with
    | zero => rfl
    | succ k => simpa [pcs, lastKey] using ih (bs e.key) k (by simpa using h)
/-- The k-th piece's cells. -/
theorem piece_cells {w : World} {ao : Option Addr} {ps : List Pc} (h : ElemsAt pcShape w ao ps) {k : Nat} (hk : k < ps.length) : ∃ g off, ao = some ⟨g, off, none⟩ ∧ w.cell? ⟨g, off + k * 5, none⟩ = some (.string (ps.getD k Pc.zero).rest) ∧ w.cell? ⟨g, off + k * 5 + 1, none⟩ = some (.int .i64 (ps.getD k Pc.zero).seq) ∧
    w.cell? ⟨g, off + k * 5 + 2, none⟩ = some (.bool (ps.getD k Pc.zero).dead) ∧ w.cell? ⟨g, off + k * 5 + 3, none⟩ = some (.string (ps.getD k Pc.zero).val) ∧ w.cell? ⟨g, off + k * 5 + 4, none⟩ = some (.int .i64 (ps.getD k Pc.zero).share) := by
  rw [getD_lt _ _ _ hk]
  rcases h with rfl | ⟨pb, off, rfl, _, hc⟩
  · simp at hk
  · exact ⟨pb, off, rfl, hc k hk 0 _ rfl, hc k hk 1 _ rfl, hc k hk 2 _ rfl, hc k hk 3 _ rfl, hc k hk 4 _ rfl⟩
theorem own_pieces {w : World} {base : Nat} {v : Value} {es : List En} (h : w.ownsRow base 160 5 v es.length (pcShape.vals (pcs [] es))) : ∃ ao c, v = .slice ao es.length c ∧ es.length ≤ c ∧ ElemsAt pcShape w ao (pcs [] es) ∧ ∀ a, ao = some a → base ≤ a.block ∧ a.block < w.heap.size := by
  have h' : w.ownsRow base 160 pcShape.sz v (pcs [] es).length (pcShape.vals (pcs [] es)) := by rw [pcs_len]; exact h
  obtain ⟨ao, cap, rfl, _, q2, q3, q4⟩ := own_rows (F := pcShape) h'
  rw [pcs_len] at q3 ⊢
  exact ⟨ao, cap, rfl, q3, q4, fun a e => (q2 a e).2⟩

/-- As the program asks it. -/
def fitsE (es : List En) (p : Pc) : Bool := if es.length = 0 then true else fitsB (lastKey [] es) (es.getD (es.length - 1) En.zero).seq p
theorem byte_zero {r : ByteArray} (h : 0 < r.size) : ∃ x, bs r = r[0] :: x := by
  have h1 : 0 < (bs r).length := by rw [bs_len]; exact h
  cases hr : bs r with
  | nil => rw [hr] at h1; simp at h1
  | cons c x =>
    refine ⟨x, ?_⟩
    have : (bs r)[0]? = some c := by rw [hr]; rfl
    unfold bs at this
    rw [List.getElem?_eq_getElem (by simpa using h)] at this
    simp at this
    congr 1
    rw [← this]; rfl
set_option maxRecDepth 100000 in
set_option maxHeartbeats 2000000 in
theorem fits_any (w : World) (base q b : Nat) (s : ByteArray) (es : List En) (v1 v2 : Value) (p : Pc) (X : World) (h : RS w base q b s es v1 v2 X) (hp : p.share ≤ (lastKey [] es).length) (hl : es.length ≤ 100000000000) (hk : (lastKey [] es).length ≤ 1000000000000) (hr : p.rest.size ≤ 1000000000000) :
    Calls Try.prog 93 #[.pointer (some ⟨q, 0, none⟩), pcv p] X fun e w' => e = .returned (.bool (fitsE es p)) ∧ Below X.heap.size X w' := by
  obtain ⟨a1, n1, rfl, hle1, hel, _⟩ := own_pieces h.own1
  obtain ⟨a2, n2, rfl, hle2⟩ := row1 h.own2
  obtain ⟨sh, R, Q, D, V⟩ := p
  simp only at hp hr
  obtain ⟨X1, hX1⟩ : ∃ X1, X1 = X.alloc (pcObj ⟨sh, R, Q, D, V⟩) := ⟨_, rfl⟩
  have hB1 : Below X.heap.size X X1 := by rw [hX1]; exact (Below.refl _ _).alloc (Nat.le_refl _) _
  have hg1 : X1.heap[X.heap.size]? = some (pcObj ⟨sh, R, Q, D, V⟩) := by rw [hX1]; exact heap_alloc_new X _
  obtain ⟨c0, c1, c2, _⟩ := br_cells ((hB1.block _ (lt_of_block h.hq)).trans h.hq)
  obtain ⟨d0, d1, d2, d3, d4, _⟩ := pc_cells hg1
  have hel1 := hel.later hB1
  have HB : Hid _ := hB1
  have hks : ∀ j, (hj : j < (lastKey [] es).length) → ∃ g, a2 = some ⟨g, 0, none⟩ ∧ X1.cell? ⟨g, j, none⟩ = some (.int .u8 ((lastKey [] es)[j].toNat : Nat)) := fun j hj => by
    rcases h.own2.2 with ⟨e1, h0⟩ | ⟨g, cap, cur, e1, hB, hg, _⟩
    · omega
    · cases e1
      have := h.own2.cells (g := g) rfl j (B8 (lastKey [] es)[j]) (by simp [hj])
      rw [Go.WideShapes.add_plain, Nat.zero_add] at this
      exact ⟨g, rfl, (World.cell?_of_block (hB1.block g (lt_of_block hg))).trans this⟩
  unfold pcObj at hX1
  unfold pcv
  clear hB1 hg1 hel h
  unfold fitsE
  by_cases hes : es.length = 0
  · rw [if_pos hes]
    rw [hes] at c1
    subst hX1
    go_enter Try.func93, Try.ntmps93
    go_wp2
    go_ret
    exact ⟨rfl, HB.out⟩
  · rw [if_neg hes]
    obtain ⟨g1, off1, rfl, _, e1, _, _, _⟩ := piece_cells hel1 (k := es.length - 1) (by rw [pcs_len]; omega)
    rw [pcs_seq _ _ _ (by omega)] at e1
    obtain ⟨m, hm⟩ : ∃ m, es.length = m + 1 := ⟨es.length - 1, by omega⟩
    rw [hm] at e1 c1 hl hle1
    rw [hm, Nat.add_sub_cancel] at *
    generalize (es.getD m En.zero).seq = sq at *
    clear hel1 hm hes
    have hne : ((m : Int) + 1 == 0) = false := by rw [beq_eq_false_iff_ne]; omega
    have c1' := c1
    rw [hX1] at c1'
    obtain ⟨K, hK⟩ : ∃ K, K = lastKey [] es := ⟨_, rfl⟩
    rw [← hK] at hp hk hks c2 hle2 ⊢
    clear hK
    unfold fitsB
    have h1 := empty_iff R
    have h2 := empty_beq R
    have HR : Hid (∀ n m, Below X.heap.size X ((X1.drewN n).drewN m)) := fun n m => ⟨HB.out.os, HB.out.tape, HB.out.output, HB.out.size, HB.out.block⟩
    simp only at d0 d1 d2 d3 d4 ⊢
    by_cases hfull : sh = K.length
    · subst hfull
      have hs0 : (0 : Int) ≤ (K.length : Int) := by omega
      have hs2 : (K.length : Int) ≤ (n2 : Int) := by omega
      rw [show K.drop K.length = [] by simp]
      clear hks hp
      by_cases hR : R.size = 0
      · rw [decide_eq_true hR] at h1 h2
        have hb : bs R = [] := List.eq_nil_of_length_eq_zero (by rw [bs_len]; exact hR)
        rw [hb]
        clear hb hR
        go_enter Try.func93, Try.ntmps93
        go_wp2_with fail
        rw [← hX1]
        clear c1' hX1
        go_quiet (fail)
        go_wp2_with fail
        all_goals
          go_quiet (fail)
          go_wp2
          go_ret
          exact ⟨rfl, HR.out _ _⟩
      · have hR0 : 0 < R.size := by omega
        obtain ⟨x, hb⟩ := byte_zero hR0
        rw [decide_eq_false hR] at h1 h2
        rw [hb]
        clear hb hR
        go_enter Try.func93, Try.ntmps93
        go_wp2_with fail
        rw [← hX1]
        clear c1' hX1
        go_quiet (fail)
        go_wp2_with fail
        all_goals
          go_quiet (fail)
          go_wp2
          go_ret
          exact ⟨rfl, HR.out _ _⟩
    · have hlt : sh < K.length := by omega
      obtain ⟨g2, rfl, hcell⟩ := hks sh hlt
      have hO : K.drop sh = K[sh] :: K.drop (sh + 1) := List.drop_eq_getElem_cons hlt
      rw [hO]
      generalize K[sh] = c at *
      generalize K.drop (sh + 1) = O at *
      have hs0 : (0 : Int) ≤ (sh : Int) := by omega
      have hs1 : (sh : Int) ≤ (K.length : Int) := by omega
      have hs2 : (K.length : Int) ≤ (n2 : Int) := by omega
      have hs3 : n2 ≠ sh := by omega
      have hs4 : ((K.length : Int) - (sh : Int) == 0) = false := by rw [beq_eq_false_iff_ne]; omega
      have hs8 : (((K.length - sh : Nat) : Int) == 0) = false := by rw [beq_eq_false_iff_ne]; omega
      have hs5 : (K.length - sh == 0) = false := by rw [beq_eq_false_iff_ne]; omega
      have hs6 : (0 : Int) < (K.length : Int) - (sh : Int) := by omega
      have hs7 : (0 : Int) < ((K.length - sh : Nat) : Int) := by omega
      have hlt' : (sh : Int) < (K.length : Int) := by omega
      clear hks hO hfull hp
      by_cases hR : R.size = 0
      · rw [decide_eq_true hR] at h1 h2
        have hb : bs R = [] := List.eq_nil_of_length_eq_zero (by rw [bs_len]; exact hR)
        rw [hb]
        clear hb hR
        go_enter Try.func93, Try.ntmps93
        go_wp2_with fail
        rw [← hX1]
        clear c1' hX1
        go_quiet (fail)
        go_wp2_with fail
        go_quiet (fail)
        go_wp2
        go_ret
        exact ⟨rfl, HR.out _ _⟩
      · have hR0 : 0 < R.size := by omega
        obtain ⟨x, hb⟩ := byte_zero hR0
        rw [decide_eq_false hR] at h1 h2
        rw [hb]
        clear hb hR
        go_enter Try.func93, Try.ntmps93
        go_wp2_with fail
        rw [← hX1]
        clear c1' hX1
        go_quiet (fail)
        go_wp2_with fail
        go_quiet (fail)
        go_wp2
        go_ret
        exact ⟨rfl, HR.out _ _⟩
end Go.Proofs.Ytedjohkdfchocaa.Bk
