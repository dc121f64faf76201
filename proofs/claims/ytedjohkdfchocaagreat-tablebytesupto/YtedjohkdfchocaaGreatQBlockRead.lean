/-
  The texts BlockRead.
-/
import Derived.Test.YtedjohkdfchocaaGreatPart1
import Derived.Test.YtedjohkdfchocaaGreatPart2
import Derived.OwnWalk

/-
  Package block's reader: what pack's reader answers, told by the bytes; what share, value and version answer.
-/
namespace Go.Proofs.YtedjohkdfchocaaGreat.Bk
open Go.RowKit Cm Mm
open Pk (WrAt RdAt Step enc enc_len fold text unfold dnum dtext dnum_enc dnum_some fold_lt fold_unfold unfold_fold unfold_bd)
set_option linter.unusedVariables false

/-- What a reader in block b answers that has the bytes l: the thing that they begin with, or that there is none. -/
def Ans {X : Type} (At : World → Nat → ByteArray → Prop) (w : World) (b : Nat) (l : List UInt8) (bytes : X → List UInt8) (ok : X → Prop) (ret : X → Value) (bad : Value) (e : Ending) (w' : World) : Prop :=
  (∃ x s', ok x ∧ l = bytes x ++ bs s' ∧ e = .returned (ret x) ∧ At w' b s' ∧ Step b w none w' none) ∨
  ((∀ x t, ok x → l ≠ bytes x ++ t) ∧ e = .returned bad ∧ (∃ s', At w' b s' ∧ s'.size ≤ l.length) ∧ Step b w none w' none)
theorem Ans.good {X : Type} {At : World → Nat → ByteArray → Prop} {w : World} {b : Nat} {l : List UInt8} {bytes : X → List UInt8} {ok : X → Prop} {ret : X → Value} {bad : Value} {w' : World} (x : X) (s' : ByteArray) (h1 : ok x) (h2 : l = bytes x ++ bs s') (h3 : At w' b s') (h4 : Step b w none w' none) : Ans At w b l bytes ok ret bad (.returned (ret x)) w' := .inl ⟨x, s', h1, h2, rfl, h3, h4⟩
theorem Ans.miss {X : Type} {At : World → Nat → ByteArray → Prop} {w : World} {b : Nat} {l : List UInt8} {bytes : X → List UInt8} {ok : X → Prop} {ret : X → Value} {bad : Value} {w' : World} (h1 : ∀ x t, ok x → l ≠ bytes x ++ t) (s' : ByteArray) (h2 : At w' b s') (h3 : s'.size ≤ l.length) (h4 : Step b w none w' none) : Ans At w b l bytes ok ret bad (.returned bad) w' := .inr ⟨h1, rfl, ⟨s', h2, h3⟩, h4⟩
/-- A call ahead of this one. -/
theorem Ans.behind {X : Type} {At : World → Nat → ByteArray → Prop} {w v : World} {b : Nat} {l : List UInt8} {bytes : X → List UInt8} {ok : X → Prop} {ret : X → Value} {bad : Value} {e : Ending} {w' : World} (h : Ans At v b l bytes ok ret bad e w') (hs : Step b w none v none) : Ans At w b l bytes ok ret bad e w' := by
  rcases h with ⟨x, s', h1, h2, h3, h4, h5⟩ | ⟨h1, h2, h3, h5⟩
  · exact .inl ⟨x, s', h1, h2, h3, h4, hs.trans h5⟩
  · exact .inr ⟨h1, h2, h3, hs.trans h5⟩
theorem rest_len {l m : List UInt8} {s : ByteArray} (h : l = m ++ bs s) : s.size ≤ l.length := by rw [h, List.length_append, bs_len]; omega

def OkInt (i : Int) : Prop := -9223372036854775808 ≤ i ∧ i ≤ 9223372036854775807
def OkText (v : ByteArray) : Prop := v.size < 9223372036854775808
theorem dtext_not {l : List UInt8} (h : dtext l = none) (v : ByteArray) (t : List UInt8) (hv : OkText v) : l ≠ text (bs v) ++ t := fun e => by
  have := Pk.dtext_text (bs v) t (by rw [bs_len]; unfold OkText at hv; omega)
  rw [← e, h] at this; cases this
theorem dnum_not {l : List UInt8} (h : dnum l = none) (n : Nat) (t : List UInt8) (hn : n < 18446744073709551616) : l ≠ enc n ++ t := fun e => by
  have := dnum_enc n t hn
  rw [← e, h] at this; cases this
theorem dtext_is {l : List UInt8} {k n : Nat} (h : dtext l = some (k, n)) : ∃ v t : List UInt8, v.length = n ∧ l = text v ++ t := by
  obtain ⟨h1, h2⟩ := Pk.dtext_some h
  obtain ⟨_, h3, h4, h5⟩ := dnum_some h1
  refine ⟨(l.drop k).take n, (l.drop k).drop n, by simp; omega, ?_⟩
  unfold text
  rw [List.append_assoc, List.take_append_drop]
  have : ((l.drop k).take n).length = n := by simp; omega
  rw [this]; exact h4

section
variable (b : Nat) (s : ByteArray) (w : World) (hr : RdAt w b s) (hs : s.size ≤ 1000000000000)
theorem num_ans (hr : RdAt w b s) (hs : s.size ≤ 1000000000000) : Calls Tryz.prog 57 #[.pointer (some ⟨b, 0, none⟩)] w fun e w' => Ans RdAt w b (bs s) enc (fun n => n < 18446744073709551616) (fun n => .tuple #[.int .u64 (n : Nat), .int .i64 0]) (.tuple #[.int .u64 0, .int .i64 1]) e w' := by
  cases hd : dnum (bs s) with
  | none =>
    refine (Pk.rNum_none b s w hr (by unfold maxLen; omega) hd).mono ?_
    rintro e w' ⟨rfl, rfl⟩
    exact Ans.miss (dnum_not hd) s hr (by rw [bs_len]; omega) (Step.refl _ _ _)
  | some p =>
    obtain ⟨n, k⟩ := p
    obtain ⟨h1, h2, h3, h4⟩ := dnum_some hd
    refine (Pk.rNum_read b n _ s w hr (by unfold maxLen; omega) h1 h3).mono ?_
    rintro e w' ⟨rfl, s', q1, q2, q3⟩
    exact Ans.good (ret := fun n : Nat => .tuple #[.int .u64 (n : Nat), .int .i64 0]) n s' h1 (by unfold bs at *; rw [q2]; exact h3) q1 q3
theorem int_ans (hr : RdAt w b s) (hs : s.size ≤ 1000000000000) : Calls Tryz.prog 99 #[.pointer (some ⟨b, 0, none⟩)] w fun e w' => Ans RdAt w b (bs s) (fun i => enc (fold i)) OkInt (fun i => .tuple #[.int .i64 i, .int .i64 0]) (.tuple #[.int .i64 0, .int .i64 1]) e w' := by
  cases hd : dnum (bs s) with
  | none =>
    refine (Pk.rInt_none b s w hr (by unfold maxLen; omega) hd).mono ?_
    rintro e w' ⟨rfl, rfl⟩
    exact Ans.miss (fun i t hi => dnum_not hd _ t (fold_lt hi.1 hi.2)) s hr (by rw [bs_len]; omega) (Step.refl _ _ _)
  | some p =>
    obtain ⟨n, k⟩ := p
    obtain ⟨h1, h2, h3, h4⟩ := dnum_some hd
    refine (Pk.rInt_read b n _ s w hr (by unfold maxLen; omega) h1 h3).mono ?_
    rintro e w' ⟨rfl, s', q1, q2, q3⟩
    exact Ans.good (ret := fun i : Int => .tuple #[.int .i64 i, .int .i64 0]) (unfold n) s' (unfold_bd h1) (by rw [fold_unfold]; unfold bs at *; rw [q2]; exact h3) q1 q3
theorem text_ans (hr : RdAt w b s) (hs : s.size ≤ 1000000000000) : Calls Tryz.prog 98 #[.pointer (some ⟨b, 0, none⟩)] w fun e w' => Ans RdAt w b (bs s) (fun v => text (bs v)) OkText (fun v => .tuple #[.string v, .int .i64 0]) (.tuple #[.string ⟨#[]⟩, .int .i64 1]) e w' := by
  cases hd : dtext (bs s) with
  | none =>
    refine (Pk.rText_none b s w hr (by unfold maxLen; omega) hd).mono ?_
    rintro e w' ⟨rfl, rfl⟩
    exact Ans.miss (fun v t hv => dtext_not hd v t hv) s hr (by rw [bs_len]; omega) (Step.refl _ _ _)
  | some p =>
    obtain ⟨k, n⟩ := p
    obtain ⟨v, t, h1, h3⟩ := dtext_is hd
    have hv : v.length ≤ s.size := by rw [← bs_len, h3]; unfold text; simp; omega
    refine (Pk.rText_read b v t s w hr (by omega) h3).mono ?_
    rintro e w' ⟨rfl, s', q1, q2, q3⟩
    refine Ans.good (ret := fun v : ByteArray => .tuple #[.string v, .int .i64 0]) ⟨v.toArray⟩ s' ?_ ?_ q1 q3
    · unfold OkText; rw [← bs_len, bs_mk]; omega
    · show bs s = text (bs _) ++ bs s'
      rw [bs_mk]
      unfold bs at *
      rw [q2]; exact h3
end

def brObj (b : Nat) (v1 v2 : Value) : Obj := .cells #[.pointer (some ⟨b, 0, none⟩), v1, v2] 142 (0, 0)
theorem br_cells {w : World} {q b : Nat} {v1 v2 : Value} (h : w.heap[q]? = some (brObj b v1 v2)) : w.cell? ⟨q, 0, none⟩ = some (.pointer (some ⟨b, 0, none⟩)) ∧ w.cell? ⟨q, 1, none⟩ = some v1 ∧ w.cell? ⟨q, 2, none⟩ = some v2 ∧ ∀ i, w.frozen? ⟨q, i, none⟩ = false := by
  refine ⟨?_, ?_, ?_, fun i => by simp [World.frozen?, h, brObj]⟩ <;> rw [Joins.cell_of_block h] <;> rfl
theorem br_far {w : World} {q b : Nat} {v1 v2 : Value} {s : ByteArray} (h : w.heap[q]? = some (brObj b v1 v2)) (hr : RdAt w b s) : q ≠ b := by
  rintro rfl
  unfold RdAt at hr
  rw [hr] at h
  simp [brObj] at h
theorem br_step {w w' : World} {q b : Nat} {v1 v2 : Value} {s : ByteArray} (h : w.heap[q]? = some (brObj b v1 v2)) (hr : RdAt w b s) (hs : Step b w none w' none) : w'.heap[q]? = some (brObj b v1 v2) :=
  (hs.kept.block q (lt_of_block h) (br_far h hr) (by simp)).trans h

set_option maxRecDepth 100000 in
set_option maxHeartbeats 500000 in
theorem share_ans (q b : Nat) (v1 : Value) (ao : Option Addr) (n c : Nat) (s : ByteArray) (w : World) (hq : w.heap[q]? = some (brObj b v1 (.slice ao n c))) (hr : RdAt w b s) (hs : s.size ≤ 1000000000000) (hn : n ≤ 1000000000000) :
    Calls Tryz.prog 97 #[.pointer (some ⟨q, 0, none⟩)] w fun e w' => Ans RdAt w b (bs s) enc (fun m => m ≤ n) (fun m => .tuple #[.int .i64 (m : Nat), .int .i64 0]) (.tuple #[.int .i64 0, .int .i64 1]) e w' := by
  obtain ⟨c0, c1, c2, _⟩ := br_cells hq
  go_enter Tryz.func97, Tryz.ntmps97
  go_wp2_with fail
  refine (num_ans b s _ hr hs).mono ?_
  rintro e w1 (⟨m, s1, hm, hl, rfl, hr1, hs1⟩ | ⟨hno, rfl, ⟨s1, hr1, hz1⟩, hs1⟩)
  · obtain ⟨d0, d1, d2, _⟩ := br_cells (br_step hq hr hs1)
    by_cases hmn : m ≤ n
    · have HA : Hid (Ans RdAt w b (bs s) enc (fun m => m ≤ n) (fun m => .tuple #[.int .i64 (m : Nat), .int .i64 0]) (.tuple #[.int .i64 0, .int .i64 1]) (.returned (.tuple #[.int .i64 (m : Nat), .int .i64 0])) w1) := Ans.good (ret := fun m : Nat => .tuple #[.int .i64 (m : Nat), .int .i64 0]) m s1 hmn hl hr1 hs1
      have h1 : decide ((n : Int) < (m : Int)) = false := by simp; omega
      have h2 : decide (n < m) = false := by simp; omega
      clear hl hr1 hs1 hr hq
      go_wp2
      go_ret2
      exact HA.out
    · have HA : Hid (Ans RdAt w b (bs s) enc (fun m => m ≤ n) (fun m => .tuple #[.int .i64 (m : Nat), .int .i64 0]) (.tuple #[.int .i64 0, .int .i64 1]) (.returned (.tuple #[.int .i64 0, .int .i64 1])) w1) :=
        Ans.miss (fun x t hx e => by
          rw [hl] at e
          obtain ⟨e1, _⟩ := enc_free hm (by omega) e
          omega) s1 hr1 (rest_len hl) hs1
      have h1 : decide ((n : Int) < (m : Int)) = true := by simp; omega
      have h2 : decide (n < m) = true := by simp; omega
      clear hl hr1 hs1 hr hq
      go_wp2
      go_ret2
      exact HA.out
  · have HA : Hid (Ans RdAt w b (bs s) enc (fun m => m ≤ n) (fun m => .tuple #[.int .i64 (m : Nat), .int .i64 0]) (.tuple #[.int .i64 0, .int .i64 1]) (.returned (.tuple #[.int .i64 0, .int .i64 1])) w1) :=
      Ans.miss (fun x t hx => hno x t (by omega)) s1 hr1 hz1 hs1
    clear hno hr1 hz1 hs1 hr hq
    go_wp2
    go_ret2
    exact HA.out

def OkMark (x : Bool × ByteArray) : Prop := OkText x.2 ∧ (x.1 = true → x.2 = ⟨#[]⟩)
theorem enc_one (t : List UInt8) : enc 1 ++ t = mark true [] ++ t := by
  have : enc 1 = [1] := by decide +kernel
  rw [this]; rfl
theorem enc_zero (v t : List UInt8) : enc 0 ++ (text v ++ t) = mark false v ++ t := by
  have : enc 0 = [0] := by decide +kernel
  rw [this]; rfl
set_option maxRecDepth 100000 in
set_option maxHeartbeats 500000 in
theorem value_ans (q b : Nat) (v1 v2 : Value) (s : ByteArray) (w : World) (hq : w.heap[q]? = some (brObj b v1 v2)) (hr : RdAt w b s) (hs : s.size ≤ 1000000000000) :
    Calls Tryz.prog 100 #[.pointer (some ⟨q, 0, none⟩)] w fun e w' => Ans RdAt w b (bs s) (fun x : Bool × ByteArray => mark x.1 (bs x.2)) OkMark (fun x => .tuple #[.bool x.1, .string x.2, .int .i64 0]) (.tuple #[.bool false, .string ⟨#[]⟩, .int .i64 1]) e w' := by
  obtain ⟨c0, c1, c2, _⟩ := br_cells hq
  have HBad : Hid (∀ w1 s1, (∀ x t, OkMark x → bs s ≠ mark x.1 (bs x.2) ++ t) → RdAt w1 b s1 → s1.size ≤ (bs s).length → Step b w none w1 none → Ans RdAt w b (bs s) (fun x : Bool × ByteArray => mark x.1 (bs x.2)) OkMark (fun x => .tuple #[.bool x.1, .string x.2, .int .i64 0]) (.tuple #[.bool false, .string ⟨#[]⟩, .int .i64 1]) (.returned (.tuple #[.bool false, .string ⟨#[]⟩, .int .i64 1])) w1) := fun w1 s1 h1 h2 h3 h4 => Ans.miss h1 s1 h2 h3 h4
  have HMark : Hid (∀ x : Bool × ByteArray, ∀ t, OkMark x → ∃ u, mark x.1 (bs x.2) ++ t = enc (if x.1 then 1 else 0) ++ u ∧ u = if x.1 then t else text (bs x.2) ++ t) := fun x t hx => by
    obtain ⟨d, v⟩ := x
    cases d
    · exact ⟨_, (enc_zero (bs v) t).symm, rfl⟩
    · have hv : v = ⟨#[]⟩ := hx.2 rfl
      subst hv
      exact ⟨_, (enc_one t).symm, rfl⟩
  go_enter Tryz.func100, Tryz.ntmps100
  go_wp2_with fail
  refine (num_ans b s _ hr hs).mono ?_
  rintro e w1 (⟨m, s1, hm, hl, rfl, hr1, hs1⟩ | ⟨hno, rfl, ⟨s1, hr1, hz1⟩, hs1⟩)
  · obtain ⟨d0, d1, d2, _⟩ := br_cells (br_step hq hr hs1)
    by_cases h1 : m = 1
    · subst h1
      have HA : Hid (Ans RdAt w b (bs s) (fun x : Bool × ByteArray => mark x.1 (bs x.2)) OkMark (fun x => .tuple #[.bool x.1, .string x.2, .int .i64 0]) (.tuple #[.bool false, .string ⟨#[]⟩, .int .i64 1]) (.returned (.tuple #[.bool true, .string ⟨#[]⟩, .int .i64 0])) w1) :=
        Ans.good (ret := fun x : Bool × ByteArray => .tuple #[.bool x.1, .string x.2, .int .i64 0]) (true, ⟨#[]⟩) s1 ⟨by show 0 < _; decide, fun _ => rfl⟩ (by rw [hl]; exact enc_one _) hr1 hs1
      clear hl hr1 hs1 hr hq HBad HMark
      go_wp2
      go_ret3
      exact HA.out
    · by_cases h0 : m = 0
      · subst h0
        go_wp2_with fail
        refine (text_ans b s1 _ hr1 (by have := rest_len hl; rw [bs_len] at this; omega)).mono ?_
        rintro e w2 (⟨v, s2, hv, hl2, rfl, hr2, hs2⟩ | ⟨hno, rfl, ⟨s2, hr2, hz2⟩, hs2⟩)
        · have HA : Hid (Ans RdAt w b (bs s) (fun x : Bool × ByteArray => mark x.1 (bs x.2)) OkMark (fun x => .tuple #[.bool x.1, .string x.2, .int .i64 0]) (.tuple #[.bool false, .string ⟨#[]⟩, .int .i64 1]) (.returned (.tuple #[.bool false, .string v, .int .i64 0])) w2) :=
            Ans.good (ret := fun x : Bool × ByteArray => .tuple #[.bool x.1, .string x.2, .int .i64 0]) (false, v) s2 ⟨hv, fun h => by cases h⟩ (by rw [hl, hl2]; exact enc_zero _ _) hr2 (hs1.trans hs2)
          clear hl hr1 hs1 hr hq HBad HMark hl2 hr2 hs2
          go_wp2
          go_ret3
          exact HA.out
        · have HA : Hid (Ans RdAt w b (bs s) (fun x : Bool × ByteArray => mark x.1 (bs x.2)) OkMark (fun x => .tuple #[.bool x.1, .string x.2, .int .i64 0]) (.tuple #[.bool false, .string ⟨#[]⟩, .int .i64 1]) (.returned (.tuple #[.bool false, .string ⟨#[]⟩, .int .i64 1])) w2) := HBad.out w2 s2 (fun x t hx e => by
            obtain ⟨u, e1, e2⟩ := HMark.out x t hx
            rw [hl, e1] at e
            obtain ⟨e3, e4⟩ := enc_free (by omega) (by split <;> omega) e
            cases hx1 : x.1 with
            | true => rw [hx1] at e3; simp at e3
            | false => rw [hx1] at e2; rw [e2] at e4; exact hno x.2 t hx.1 (by simpa using e4)) hr2 (by have := rest_len hl; rw [bs_len] at hz2; omega) (hs1.trans hs2)
          clear hl hr1 hs1 hr hq HBad HMark hno hr2 hs2
          go_wp2
          go_ret3
          exact HA.out
      · have HA : Hid (Ans RdAt w b (bs s) (fun x : Bool × ByteArray => mark x.1 (bs x.2)) OkMark (fun x => .tuple #[.bool x.1, .string x.2, .int .i64 0]) (.tuple #[.bool false, .string ⟨#[]⟩, .int .i64 1]) (.returned (.tuple #[.bool false, .string ⟨#[]⟩, .int .i64 1])) w1) := HBad.out w1 s1 (fun x t hx e => by
            obtain ⟨u, e1, e2⟩ := HMark.out x t hx
            rw [hl, e1] at e
            obtain ⟨e3, e4⟩ := enc_free hm (by split <;> omega) e
            split at e3 <;> omega) hr1 (rest_len hl) hs1
        have n1 : ((m : Int) == 1) = false := by rw [beq_eq_false_iff_ne]; omega
        have n0 : ((m : Int) == 0) = false := by rw [beq_eq_false_iff_ne]; omega
        clear hl hr1 hs1 hr hq HBad HMark
        go_wp2
        go_ret3
        exact HA.out
  · have HA : Hid (Ans RdAt w b (bs s) (fun x : Bool × ByteArray => mark x.1 (bs x.2)) OkMark (fun x => .tuple #[.bool x.1, .string x.2, .int .i64 0]) (.tuple #[.bool false, .string ⟨#[]⟩, .int .i64 1]) (.returned (.tuple #[.bool false, .string ⟨#[]⟩, .int .i64 1])) w1) := HBad.out w1 s1 (fun x t hx e => by
      obtain ⟨u, e1, e2⟩ := HMark.out x t hx
      rw [e1] at e
      exact hno _ u (by split <;> omega) e) hr1 hz1 hs1
    clear hno hr1 hz1 hs1 hr hq HBad HMark
    go_wp2
    go_ret3
    exact HA.out

def pcv (p : Pc) : Value := .agg #[.string p.rest, .int .i64 p.seq, .bool p.dead, .string p.val, .int .i64 p.share]
def pcObj (p : Pc) : Obj := .cells #[.string p.rest, .int .i64 p.seq, .bool p.dead, .string p.val, .int .i64 p.share] 144 (0, 0)
theorem pc_cells {w : World} {g : Nat} {p : Pc} (h : w.heap[g]? = some (pcObj p)) : w.cell? ⟨g, 0, none⟩ = some (.string p.rest) ∧ w.cell? ⟨g, 1, none⟩ = some (.int .i64 p.seq) ∧ w.cell? ⟨g, 2, none⟩ = some (.bool p.dead) ∧ w.cell? ⟨g, 3, none⟩ = some (.string p.val) ∧ w.cell? ⟨g, 4, none⟩ = some (.int .i64 p.share) ∧ ∀ i, w.frozen? ⟨g, i, none⟩ = false := by
  refine ⟨?_, ?_, ?_, ?_, ?_, fun i => by simp [World.frozen?, h, pcObj]⟩ <;> rw [Joins.cell_of_block h] <;> rfl
theorem pc_set {w : World} {g : Nat} {p : Pc} (h : w.heap[g]? = some (pcObj p)) (a b c d e : Value) :
    (w.setCell ⟨g, 0, none⟩ a).cell? ⟨g, 0, none⟩ = some a ∧ ((w.setCell ⟨g, 0, none⟩ a).setCell ⟨g, 1, none⟩ b).cell? ⟨g, 1, none⟩ = some b ∧ (((w.setCell ⟨g, 0, none⟩ a).setCell ⟨g, 1, none⟩ b).setCell ⟨g, 2, none⟩ c).cell? ⟨g, 2, none⟩ = some c ∧
    ((((w.setCell ⟨g, 0, none⟩ a).setCell ⟨g, 1, none⟩ b).setCell ⟨g, 2, none⟩ c).setCell ⟨g, 3, none⟩ d).cell? ⟨g, 3, none⟩ = some d ∧ (((((w.setCell ⟨g, 0, none⟩ a).setCell ⟨g, 1, none⟩ b).setCell ⟨g, 2, none⟩ c).setCell ⟨g, 3, none⟩ d).setCell ⟨g, 4, none⟩ e).cell? ⟨g, 4, none⟩ = some e := by
  unfold pcObj at h
  have h1 := Joins.block_setCell h (i := 0) a
  have h2 := Joins.block_setCell h1 (i := 1) b
  have h3 := Joins.block_setCell h2 (i := 2) c
  have h4 := Joins.block_setCell h3 (i := 3) d
  have h5 := Joins.block_setCell h4 (i := 4) e
  refine ⟨?_, ?_, ?_, ?_, ?_⟩
  · rw [Joins.cell_of_block h1]; rfl
  · rw [Joins.cell_of_block h2]; rfl
  · rw [Joins.cell_of_block h3]; rfl
  · rw [Joins.cell_of_block h4]; rfl
  · rw [Joins.cell_of_block h5]; rfl
theorem step_store {w X : World} {b g i : Nat} (h : Step b w none X none) (hg : w.heap.size ≤ g) (v : Value) : Step b w none (X.setCell ⟨g, i, none⟩ v) none :=
  ⟨⟨h.kept.os, h.kept.tape, h.kept.output, by simpa [World.setCell] using h.kept.size, fun k hk hkb hkr => (Below.heap_setCell _ _ _ _ (by simp; omega)).trans (h.kept.block k hk hkb hkr)⟩, .inl rfl⟩
/-- All five stored: what is left as it was. -/
theorem pc_store {w X : World} {b g : Nat} (h : Step b w none X none) (hg : w.heap.size ≤ g) (a c d e f : Value) : Step b w none (((((X.setCell ⟨g, 0, none⟩ a).setCell ⟨g, 1, none⟩ c).setCell ⟨g, 2, none⟩ d).setCell ⟨g, 3, none⟩ e).setCell ⟨g, 4, none⟩ f) none :=
  step_store (step_store (step_store (step_store (step_store h hg a) hg c) hg d) hg e) hg f
theorem pc_keep {X : World} {b g : Nat} {s : ByteArray} (h : RdAt X b s) (hg : b ≠ g) (a c d e f : Value) : RdAt (((((X.setCell ⟨g, 0, none⟩ a).setCell ⟨g, 1, none⟩ c).setCell ⟨g, 2, none⟩ d).setCell ⟨g, 3, none⟩ e).setCell ⟨g, 4, none⟩ f) b s := by
  unfold RdAt at *
  rw [Below.heap_setCell _ _ _ _ (by simpa using hg), Below.heap_setCell _ _ _ _ (by simpa using hg), Below.heap_setCell _ _ _ _ (by simpa using hg), Below.heap_setCell _ _ _ _ (by simpa using hg), Below.heap_setCell _ _ _ _ (by simpa using hg)]
  exact h
end Go.Proofs.YtedjohkdfchocaaGreat.Bk
