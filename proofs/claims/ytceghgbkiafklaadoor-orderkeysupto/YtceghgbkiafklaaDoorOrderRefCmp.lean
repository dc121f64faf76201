/-
  The reference's order of lists of parts answers the same plain order.
-/
import Derived.Test.YtceghgbkiafklaaDoorOrderCompare
import Derived.Laws.Cover1
namespace Go.Proofs.YtceghgbkiafklaaDoor.Od
open Go.RowKit
open Go.Lib (compareBytes)
open Go.Proofs.YtceghgbkiafklaaDoor.Cm
attribute [local go_sem ↓] Go.wp_at_zero Go.wp_at_succ
set_option linter.unusedVariables false

set_option maxHeartbeats 500000 in
theorem number_any (x y : Int) (w : World) : Calls Tryd.prog 29 #[.int .i64 x, .int .i64 y] w fun e w' => e = .returned (.int .i64 (cI x y)) ∧ w' = w := by
  by_cases h1 : x < y
  · have hd : decide (x < y) = true := decide_eq_true h1
    rw [cI_lt h1]
    go_enter Tryd.func29, Tryd.ntmps29
    go_wp2
    go_ret
    exact ⟨rfl, rfl⟩
  · have hd : decide (x < y) = false := decide_eq_false h1
    by_cases h2 : y < x
    · have hd2 : decide (y < x) = true := decide_eq_true h2
      rw [cI_gt h2]
      go_enter Tryd.func29, Tryd.ntmps29
      go_wp2
      go_ret
      exact ⟨rfl, rfl⟩
    · have hd2 : decide (y < x) = false := decide_eq_false h2
      rw [cI_eq h1 h2]
      go_enter Tryd.func29, Tryd.ntmps29
      go_wp2
      go_ret
      exact ⟨rfl, rfl⟩
theorem less_bytes (a b : ByteArray) : Op.bytesLess a.toList b.toList = decide (compareBytes a.data.toList b.data.toList < 0) := by
  rw [Lib.toList_data, Lib.toList_data, less_iff]
theorem same_bytes (a b : ByteArray) : (a.toList == b.toList) = decide (compareBytes a.data.toList b.data.toList = 0) := by
  rw [Lib.toList_data, Lib.toList_data]
  by_cases h : a.data.toList = b.data.toList
  · rw [h, cb_self]; simp
  · have : compareBytes a.data.toList b.data.toList ≠ 0 := fun e => h (cb_zero e)
    rw [decide_eq_false this]; exact beq_eq_false_iff_ne.2 h
set_option maxHeartbeats 500000 in
theorem text_any (a b : ByteArray) (w : World) : Calls Tryd.prog 30 #[.string a, .string b] w fun e w' => e = .returned (.int .i64 (compareBytes a.data.toList b.data.toList)) ∧ w' = w := by
  have hL := less_bytes a b
  have hE := same_bytes a b
  have hv := cb_vals a.data.toList b.data.toList
  generalize compareBytes a.data.toList b.data.toList = c at *
  rcases hv with rfl | rfl | rfl
  · have hL2 : Op.bytesLess a.toList b.toList = true := by rw [hL]; rfl
    clear hL hE
    go_enter Tryd.func30, Tryd.ntmps30
    go_wp2
    go_ret
    exact ⟨rfl, rfl⟩
  · have hL2 : Op.bytesLess a.toList b.toList = false := by rw [hL]; rfl
    have hE2 : (a.toList == b.toList) = true := by rw [hE]; rfl
    clear hL hE
    go_enter Tryd.func30, Tryd.ntmps30
    go_wp2
    go_ret
    exact ⟨rfl, rfl⟩
  · have hL2 : Op.bytesLess a.toList b.toList = false := by rw [hL]; rfl
    have hE2 : (a.toList == b.toList) = false := by rw [hE]; rfl
    clear hL hE
    go_enter Tryd.func30, Tryd.ntmps30
    go_wp2
    go_ret
    exact ⟨rfl, rfl⟩

set_option maxRecDepth 100000 in
set_option maxHeartbeats 500000 in
theorem refCompare_any (ao bo : Option Addr) (ca cb : Nat) (ps qs : List Pt) (w : World) (hp : PartsAt w ao ps) (hq : PartsAt w bo qs) (hl : ps.length ≤ 4294967000) (hl2 : qs.length ≤ 4294967000) :
    Calls Tryd.prog 16 #[.slice ao ps.length ca, .slice bo qs.length cb] w fun e w' => e = .returned (.int .i64 (cL ps qs)) ∧ Below w.heap.size w w' := by
  go_enter Tryd.func16, Tryd.ntmps16
  go_wp2_with fail
  go_loopw [5] (fun i wr => ∃ k : Nat, k ≤ ps.length ∧ k ≤ qs.length ∧ i = .int .i64 k ∧ Hid (cL ps qs = cL (ps.drop k) (qs.drop k)) ∧ Hid (Below w.heap.size w wr)) (fun i _ => ps.length - (intOf i).toNat)
  case atStart => exact ⟨0, by omega, by omega, rfl, rfl, Below.refl _ _⟩
  case round =>
    obtain ⟨k, hk, hk2, rfl, HE, HB⟩ := hrel
    have hsr := HB.out.size
    by_cases hboth : k < ps.length ∧ k < qs.length
    · obtain ⟨hlt, hlt2⟩ := hboth
      rcases hp.below HB.out with h0 | ⟨b1, off1, rfl, hbl1, hcells1⟩
      · simp [h0] at hlt
      obtain ⟨hc0, hc1, hc2⟩ := hcells1 k hlt
      have hg1 : decide ((k : Int) < (ps.length : Int)) = true := decide_eq_true (by omega)
      have hg2 : decide ((k : Int) < (qs.length : Int)) = true := decide_eq_true (by omega)
      have HST : Hid _ := cL_step hlt hlt2
      rcases hq.below HB.out with h0 | ⟨b2, off2, rfl, hbl2, hcells2⟩
      · simp [h0] at hlt2
      obtain ⟨hd0, hd1, hd2⟩ := hcells2 k hlt2
      generalize ps.getD k Pt.zero = p at *
      generalize qs.getD k Pt.zero = q at *
      clear hcells1 hcells2 hp hq
      have HBd : ∀ n, Hid (Below w.heap.size w (wr.drewN n)) := fun n => show Below w.heap.size w (wr.drewN n) from ⟨HB.out.os, HB.out.tape, HB.out.output, HB.out.size, HB.out.block⟩
      by_cases h1 : cI p.k q.k = 0
      · by_cases h2 : cI p.n q.n = 0
        · by_cases h3 : compareBytes p.s.data.toList q.s.data.toList = 0
          · have hz : cP p q = 0 := by unfold cP Pt.t; simp [h1, h2, h3]
            have HE2 : Hid (cL ps qs = cL (ps.drop (k + 1)) (qs.drop (k + 1))) := by
              show _ = _
              rw [HE.out, HST.out, if_neg (by simp [hz])]
            clear HST
            go_wp2_with fail
            go_quiet ((go_at_call 29; exact (number_any _ _ _).mono fun e w' h => ⟨h.1, _, h.2⟩))
            go_wp2_with fail
            go_quiet ((go_at_call 29; exact (number_any _ _ _).mono fun e w' h => ⟨h.1, _, h.2⟩))
            go_wp2_with fail
            go_quiet ((go_at_call 30; exact (text_any _ _ _).mono fun e w' h => ⟨h.1, _, h.2⟩))
            go_wp2
            go_roundw
            case rel => exact ⟨k + 1, by omega, by omega, by go_num, HE2, (HBd _).out⟩
            case measure => simp [intOf]; omega
          · have hz : cP p q = compareBytes p.s.data.toList q.s.data.toList := by unfold cP Pt.t; simp [h1, h2]
            have HE2 : Hid (cL ps qs = compareBytes p.s.data.toList q.s.data.toList) := by
              show _ = _
              rw [HE.out, HST.out, hz, if_pos h3]
            have hne : (compareBytes p.s.data.toList q.s.data.toList == 0) = false := by simpa using h3
            clear HST
            go_wp2_with fail
            go_quiet ((go_at_call 29; exact (number_any _ _ _).mono fun e w' h => ⟨h.1, _, h.2⟩))
            go_wp2_with fail
            go_quiet ((go_at_call 29; exact (number_any _ _ _).mono fun e w' h => ⟨h.1, _, h.2⟩))
            go_wp2_with fail
            go_quiet ((go_at_call 30; exact (text_any _ _ _).mono fun e w' h => ⟨h.1, _, h.2⟩))
            go_wp2
            go_ret
            exact ⟨by rw [HE2.out]; rfl, (HBd _).out⟩
        · have hz : cP p q = cI p.n q.n := by unfold cP; simp [h1, h2]
          have HE2 : Hid (cL ps qs = cI p.n q.n) := by
            show _ = _
            rw [HE.out, HST.out, hz, if_pos h2]
          have hne : (cI p.n q.n == 0) = false := by simpa using h2
          clear HST
          go_wp2_with fail
          go_quiet ((go_at_call 29; exact (number_any _ _ _).mono fun e w' h => ⟨h.1, _, h.2⟩))
          go_wp2_with fail
          go_quiet ((go_at_call 29; exact (number_any _ _ _).mono fun e w' h => ⟨h.1, _, h.2⟩))
          go_wp2
          go_ret
          exact ⟨by rw [HE2.out]; rfl, (HBd _).out⟩
      · have hz : cP p q = cI p.k q.k := by unfold cP; simp [h1]
        have HE2 : Hid (cL ps qs = cI p.k q.k) := by
          show _ = _
          rw [HE.out, HST.out, hz, if_pos h1]
        have hne : (cI p.k q.k == 0) = false := by simpa using h1
        clear HST
        go_wp2_with fail
        go_quiet ((go_at_call 29; exact (number_any _ _ _).mono fun e w' h => ⟨h.1, _, h.2⟩))
        go_wp2
        go_ret
        exact ⟨by rw [HE2.out]; rfl, (HBd _).out⟩
    · have HE2 : Hid (cL ps qs = cI (ps.length : Int) (qs.length : Int)) := by
        show _ = _
        rw [HE.out]
        by_cases hlt : k < ps.length
        · rw [cL_left hlt (by omega), cI_gt (by omega)]
        · by_cases hlt2 : k < qs.length
          · rw [cL_right (by omega) hlt2, cI_lt (by omega)]
          · rw [cL_both (by omega) (by omega), cI_eq (by omega) (by omega)]
      by_cases hlt : k < ps.length
      · have hg1 : decide ((k : Int) < (ps.length : Int)) = true := decide_eq_true (by omega)
        have hg2 : decide ((k : Int) < (qs.length : Int)) = false := decide_eq_false (by omega)
        go_wp2_with fail
        refine (number_any _ _ _).mono ?_
        rintro e w1 ⟨rfl, rfl⟩
        go_wp2
        go_ret
        exact ⟨by rw [HE2.out]; rfl, HB.out⟩
      · have hg1 : decide ((k : Int) < (ps.length : Int)) = false := decide_eq_false (by omega)
        go_wp2_with fail
        refine (number_any _ _ _).mono ?_
        rintro e w1 ⟨rfl, rfl⟩
        go_wp2
        go_ret
        exact ⟨by rw [HE2.out]; rfl, HB.out⟩
end Go.Proofs.YtceghgbkiafklaaDoor.Od
