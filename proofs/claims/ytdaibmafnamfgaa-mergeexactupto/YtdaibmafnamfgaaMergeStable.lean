/-
  The row put in order, stably: runs of twenty, merged by twos.
-/
import Derived.Test.YtdaibmafnamfgaaMergeSym
namespace Go.Proofs.Ytdaibmafnamfgaa.Mg
open Go.RowKit Cm Mm
set_option linter.unusedVariables false

/-- Runs of s, as far as they are made: a versions of them. -/
def Made (B g n cap : Nat) (w0 : World) (xs0 : List En) (s a : Nat) (w : World) : Prop := ∃ P ps Y, Full s P ps ∧ P.length = a ∧ Stab xs0 (P ++ Y) ∧ RowE B g n cap w0 (P ++ Y) w
def AllRuns (B g n cap : Nat) (w0 : World) (xs0 : List En) (s : Nat) (w : World) : Prop := ∃ xs, Runs s xs ∧ Stab xs0 xs ∧ RowE B g n cap w0 xs w
def OnWay (B g n cap : Nat) (w0 : World) (xs0 : List En) (s a : Nat) (w : World) : Prop := ∃ xs P Q R, Going s xs0 xs P Q R ∧ P.length = a ∧ RowE B g n cap w0 xs w
def Ordered (B g n cap : Nat) (w0 : World) (xs0 : List En) (w : World) : Prop := ∃ xs, WS xs ∧ Stab xs0 xs ∧ RowE B g n cap w0 xs w
section
variable {B g n cap : Nat} {w0 : World} {xs0 : List En}
theorem made_step (hn : n ≤ 1000000000000) {s a : Nat} {w : World} (h : Made B g n cap w0 xs0 s a w) (hs : a + s ≤ n) :
    Calls Try.prog 57 #[.slice (some ⟨g, 0, none⟩) n cap, .int .i64 a, .int .i64 (a + s : Nat), .func (.func 23) #[] #[]] w fun e w' => e = .returned (.tuple #[]) ∧ Made B g n cap w0 xs0 s (a + s) w' := by
  obtain ⟨P, ps, Y, hf, hP, hst, hr⟩ := h
  have hlen := hr.len
  rw [List.length_append] at hlen
  have e1 : Y = Y.take s ++ Y.drop s := (List.take_append_drop s Y).symm
  have hl : (Y.take s).length = s := by simp; omega
  rw [e1] at hr hst
  refine (insertion_any hr a (a + s) hP (by omega) hn).mono ?_
  rintro e w' ⟨rfl, M, hM, hS, hR⟩
  refine ⟨rfl, P ++ M, ps ++ [M], Y.drop s, hf.snoc (by have := hS.len; omega) hM, by have := hS.len; rw [List.length_append]; omega, hst.trans ?_, by simpa using hR⟩
  have := hS.mid P (Y.drop s)
  simpa using this
theorem made_done (hn : n ≤ 1000000000000) {s a : Nat} {w : World} (h : Made B g n cap w0 xs0 s a w) (hs : n < a + s) :
    Calls Try.prog 57 #[.slice (some ⟨g, 0, none⟩) n cap, .int .i64 a, .int .i64 n, .func (.func 23) #[] #[]] w fun e w' => e = .returned (.tuple #[]) ∧ AllRuns B g n cap w0 xs0 s w' := by
  obtain ⟨P, ps, Y, hf, hP, hst, hr⟩ := h
  have hlen := hr.len
  rw [List.length_append] at hlen
  have hr' : RowE B g n cap w0 (P ++ (Y ++ [])) w := by simpa using hr
  refine (insertion_any hr' a n hP (by omega) hn).mono ?_
  rintro e w' ⟨rfl, M, hM, hS, hR⟩
  refine ⟨rfl, P ++ M, ⟨P, ps, M, rfl, hf, by have := hS.len; omega, hM⟩, hst.trans ?_, by simpa using hR⟩
  have := hS.mid P []
  simpa using this
theorem way_start {s : Nat} {w : World} (h : AllRuns B g n cap w0 xs0 s w) : OnWay B g n cap w0 xs0 s 0 w := by
  obtain ⟨xs, hR, hS, hr⟩ := h
  obtain ⟨Q, R, hg⟩ := hR.going hS
  exact ⟨xs, [], Q, R, hg, rfl, hr⟩
theorem way_step (hn : n ≤ 1000000000000) {s a : Nat} {w : World} (h : OnWay B g n cap w0 xs0 s a w) (hs0 : 0 < s) (hs : a + 2 * s ≤ n) :
    Calls Try.prog 58 #[.slice (some ⟨g, 0, none⟩) n cap, .int .i64 a, .int .i64 (a + s : Nat), .int .i64 (a + 2 * s : Nat), .func (.func 23) #[] #[]] w fun e w' => e = .returned (.tuple #[]) ∧ OnWay B g n cap w0 xs0 s (a + 2 * s) w' := by
  obtain ⟨xs, P, Q, R, hg, hP, hr⟩ := h
  have hlen := hr.len
  obtain ⟨q1, q2, Q', rfl⟩ := hg.two (by omega)
  obtain ⟨l1, w1⟩ := hg.todo q1 (by simp)
  obtain ⟨l2, w2⟩ := hg.todo q2 (by simp)
  have e1 : xs = P ++ (q1 ++ (q2 ++ (Q'.flatten ++ R))) := by rw [hg.eq]; simp
  rw [e1] at hr
  refine (symMerge_ok hn n w P q1 q2 (Q'.flatten ++ R) a (a + s) (a + 2 * s) hr w1 w2 hP (by omega) (by omega) (by omega) (by omega) (by omega)).mono ?_
  rintro e w' ⟨rfl, M, hM, hS, hR⟩
  exact ⟨rfl, _, P ++ M, Q', R, hg.step hM hS, by have := hS.len; rw [List.length_append] at this ⊢; omega, hR⟩
theorem way_last (hn : n ≤ 1000000000000) {s a : Nat} {w : World} (h : OnWay B g n cap w0 xs0 s a w) (hs0 : 0 < s) (hs : n < a + 2 * s) (hm : a + s < n) :
    Calls Try.prog 58 #[.slice (some ⟨g, 0, none⟩) n cap, .int .i64 a, .int .i64 (a + s : Nat), .int .i64 n, .func (.func 23) #[] #[]] w fun e w' => e = .returned (.tuple #[]) ∧ AllRuns B g n cap w0 xs0 (2 * s) w' := by
  obtain ⟨xs, P, Q, R, hg, hP, hr⟩ := h
  have hlen := hr.len
  obtain ⟨q, rfl, hR0⟩ := hg.last (by omega) (by omega)
  obtain ⟨l1, w1⟩ := hg.todo q (by simp)
  have hRl : 0 < R.length := List.length_pos_iff.2 hR0
  have e1 : xs = P ++ (q ++ (R ++ [])) := by rw [hg.eq]; simp
  rw [e1] at hr hlen
  simp only [List.length_append, List.length_nil] at hlen
  refine (symMerge_ok hn n w P q R [] a (a + s) n hr w1 hg.rest.2 hP (by omega) (by omega) (by omega) hRl (by omega)).mono ?_
  rintro e w' ⟨rfl, M, hM, hS, hR⟩
  obtain ⟨d1, d2⟩ := hg.ends hM hS
  exact ⟨rfl, P ++ M, d1, d2, by simpa using hR⟩
theorem way_idle {s a : Nat} {w : World} (h : OnWay B g n cap w0 xs0 s a w) (hs0 : 0 < s) (hs : n < a + 2 * s) (hm : n ≤ a + s) : AllRuns B g n cap w0 xs0 (2 * s) w := by
  obtain ⟨xs, P, Q, R, hg, hP, hr⟩ := h
  have hlen := hr.len
  exact ⟨xs, hg.idle (by omega) (by omega) hs0, hg.stab, hr⟩
theorem runs_done {s : Nat} {w : World} (h : AllRuns B g n cap w0 xs0 s w) (hs : n ≤ s) : Ordered B g n cap w0 xs0 w := by
  obtain ⟨xs, hR, hS, hr⟩ := h
  exact ⟨xs, hR.done (by rw [hr.len]; exact hs), hS, hr⟩
end
theorem made_start {B g n cap : Nat} {w0 : World} {xs0 : List En} {w : World} (h : RowE B g n cap w0 xs0 w) : Made B g n cap w0 xs0 20 0 w := ⟨[], [], xs0, Full.nil _, rfl, Stab.refl _, h⟩

set_option maxRecDepth 100000 in
set_option maxHeartbeats 2000000 in
theorem stable_any {B g n cap : Nat} {w0 w : World} {xs0 : List En} (h : RowE B g n cap w0 xs0 w) (hn : n ≤ 1000000000000) :
    Calls Try.prog 46 #[.slice (some ⟨g, 0, none⟩) n cap, .int .i64 n, .func (.func 23) #[] #[]] w fun e w' => e = .returned (.tuple #[]) ∧ Ordered B g n cap w0 xs0 w' := by
  have H0 : Hid _ := made_start h
  clear h
  go_enter Try.func46, Try.ntmps46
  go_wp2
  go_loopw [7, 8] (fun va vb wr => ∃ a b : Nat, va = .int .i64 a ∧ vb = .int .i64 b ∧ a ≤ n ∧ b = a + 20 ∧ Hid (Made B g n cap w0 xs0 20 a wr)) (fun va _ _ => n - (intOf va).toNat)
  case atStart => exact ⟨0, 20, rfl, rfl, by omega, by omega, H0⟩
  case round =>
    clear H0
    obtain ⟨a, b, rfl, rfl, ha, hb, HM⟩ := hrel
    by_cases hlt : b ≤ n
    · have hlt' : (b : Int) ≤ (n : Int) := by omega
      have hc := made_step hn HM.out (by omega)
      rw [← hb] at hc
      have HC : Hid _ := hc
      have HB : Hid _ := hb
      clear hc hb HM
      go_wp2_with (go_at_call 57; refine (show Calls _ _ _ _ _ from HC.out).mono ?_; rintro e w1 ⟨rfl, hm⟩; have HM2 : Hid _ := hm; clear hm)
      go_roundw
      case rel => have := HB.out; exact ⟨b, b + 20, rfl, by go_num, by omega, by omega, HM2⟩
      case measure => have := HB.out; simp [intOf]; omega
    · have hlt' : ¬ (b : Int) ≤ (n : Int) := by omega
      have HC : Hid _ := made_done hn HM.out (by omega)
      clear HM hb
      go_wp2_with (go_at_call 57; refine (show Calls _ _ _ _ _ from HC.out).mono ?_; rintro e w1 ⟨rfl, hm⟩; have HR : Hid _ := hm; clear hm)
      clear HC hlt hlt'
      go_loopw [6] (fun vs wr => ∃ s : Nat, vs = .int .i64 s ∧ 0 < s ∧ s ≤ 2000000000020 ∧ Hid (AllRuns B g n cap w0 xs0 s wr)) (fun vs _ => n - (intOf vs).toNat)
      case atStart => exact ⟨20, rfl, by omega, by omega, HR⟩
      case round =>
        clear HR
        obtain ⟨s, rfl, hs0, hs1, HR⟩ := hrel
        by_cases hsn : s < n
        · have hsn' : (s : Int) < (n : Int) := by omega
          have HW : Hid _ := way_start HR.out
          have w2 : IntKind.i64.wrap (2 * (s : Int)) = ((2 * s : Nat) : Int) := wrap_nat (by omega) (by omega)
          clear HR
          go_wp2
          go_loopw [7, 8] (fun va vb wr => ∃ a b : Nat, va = .int .i64 a ∧ vb = .int .i64 b ∧ a ≤ n ∧ b = a + 2 * s ∧ Hid (OnWay B g n cap w0 xs0 s a wr)) (fun va _ _ => n - (intOf va).toNat)
          case atStart => exact ⟨0, 2 * s, rfl, by first | rfl | (rw [w2]) | go_num, by omega, by omega, HW⟩
          case round =>
            clear HW
            obtain ⟨a, b, rfl, rfl, ha, hb, HM⟩ := hrel
            have HAS : Hid ((a : Int) + (s : Int) = ((a + s : Nat) : Int)) := by show _ = _; omega
            by_cases hlt : b ≤ n
            · have hlt' : (b : Int) ≤ (n : Int) := by omega
              have hc := way_step hn HM.out hs0 (by omega)
              rw [← hb] at hc
              have HC : Hid _ := hc
              have HB : Hid _ := hb
              clear hc hb HM
              go_wp2_with (go_at_call 58; rw [HAS.out]; refine (show Calls _ _ _ _ _ from HC.out).mono ?_; rintro e w1 ⟨rfl, hm⟩; have HM2 : Hid _ := hm; clear hm)
              go_roundw
              case rel => have := HB.out; exact ⟨b, b + 2 * s, rfl, by first | rfl | go_num, by omega, by omega, HM2⟩
              case measure => have := HB.out; simp [intOf]; omega
            · have hlt' : ¬ (b : Int) ≤ (n : Int) := by omega
              by_cases hm : a + s < n
              · have hm' : (a : Int) + (s : Int) < (n : Int) := by omega
                have HC : Hid _ := way_last hn HM.out hs0 (by omega) hm
                clear HM hb hm
                go_wp2_with (go_at_call 58; rw [HAS.out]; refine (show Calls _ _ _ _ _ from HC.out).mono ?_; rintro e w1 ⟨rfl, hm⟩; have HM2 : Hid _ := hm; clear hm)
                go_roundw
                case rel => exact ⟨2 * s, by first | rfl | go_num, by omega, by omega, HM2⟩
                case measure => simp [intOf]; omega
              · have hm' : ¬ (a : Int) + (s : Int) < (n : Int) := by omega
                have HM2 : Hid _ := way_idle HM.out hs0 (by omega) (by omega)
                clear HM hb hm
                go_wp2
                go_roundw
                case rel => exact ⟨2 * s, by first | rfl | go_num, by omega, by omega, HM2⟩
                case measure => simp [intOf]; omega
        · have hsn' : ¬ (s : Int) < (n : Int) := by omega
          have HD : Hid _ := runs_done HR.out (by omega)
          clear HR
          go_wp2
          go_end0
          exact ⟨rfl, HD.out⟩
theorem sortStable_any {B g n cap : Nat} {w0 w : World} {xs0 : List En} (h : RowE B g n cap w0 xs0 w) (hn : n ≤ 1000000000000) :
    Calls Try.prog 22 #[.slice (some ⟨g, 0, none⟩) n cap, .func (.func 23) #[] #[]] w fun e w' => e = .returned (.tuple #[]) ∧ Ordered B g n cap w0 xs0 w' := by
  have HC : Hid _ := stable_any h hn
  clear h
  go_enter Try.func22, Try.ntmps22
  go_wp2_with (go_at_call 46; refine (show Calls _ _ _ _ _ from HC.out).mono ?_; rintro e w1 ⟨rfl, hm⟩)
  go_end0
  exact ⟨rfl, hm⟩
end Go.Proofs.Ytdaibmafnamfgaa.Mg
