/-
  The document's answer for layer 1: its reader's Num, Int and Text, as the statement uses them.
-/
import Derived.Test.YtjfanbemihheiaaGreatDoorQPackRefRead
namespace Go.Proofs.YtjfanbemihheiaaGreatDoor.Pk
open Go.RowKit
set_option linter.unusedVariables false

theorem step_below {w w1 : World} {b : Nat} (h : Below w.heap.size w w1) : Step b w none w1 none := ⟨⟨h.os, h.tape, h.output, h.size, fun k hk _ _ => h.block k hk⟩, .inl rfl⟩

theorem fNum_none (b : Nat) (s : ByteArray) (w : World) (hr : RfAt w b s) (hs : s.size ≤ maxLen) (hd : dnum s.data.toList = none) :
    Calls Tryz.prog 45 #[.pointer (some ⟨b, 0, none⟩)] w fun e w' => e = .returned (.tuple #[.int .u64 0, .int .i64 1]) ∧ RfAt w' b s ∧ Step b w none w' none := by
  refine (fNum_any b s w hr hs).mono ?_
  rintro e w' (⟨_, rfl, hb⟩ | ⟨n, k, h, _⟩)
  · exact ⟨rfl, hr.below hb hr.lt, step_below hb⟩
  · rw [hd] at h; cases h
theorem fNum_read (b n : Nat) (rest : List UInt8) (s : ByteArray) (w : World) (hr : RfAt w b s) (hs : s.size ≤ maxLen) (hn : n < 18446744073709551616) (hl : s.data.toList = enc n ++ rest) :
    Calls Tryz.prog 45 #[.pointer (some ⟨b, 0, none⟩)] w fun e w' => e = .returned (.tuple #[.int .u64 n, .int .i64 0]) ∧ ∃ s', RfAt w' b s' ∧ s'.data.toList = rest ∧ Step b w none w' none := by
  have hd : dnum s.data.toList = some (n, (enc n).length) := by rw [hl]; exact dnum_enc n rest hn
  refine (fNum_any b s w hr hs).mono ?_
  rintro e w' (⟨h, _⟩ | ⟨n', k, h, rfl, w1, hb, rfl⟩)
  · rw [hd] at h; cases h
  · rw [hd] at h
    simp only [Option.some.injEq, Prod.mk.injEq] at h
    obtain ⟨rfl, rfl⟩ := h
    exact ⟨rfl, _, one_setCell (hr.below hb hr.lt), rest_of hl, step_set hb _⟩

theorem refUnfold_any (n : Nat) (w : World) (hn : n < 18446744073709551616) :
    Calls Tryz.prog 70 #[.int .u64 n] w fun e w' => e = .returned (.int .i64 (unfold n)) ∧ w' = w := by
  by_cases h : n % 2 = 1
  · have hb : ((n : Int) % 2 == 0) = false := by rw [beq_eq_false_iff_ne]; omega
    have HO : Hid (-((n : Int) / 2) - 1 = unfold n) := by show _ = _; unfold unfold; rw [if_pos h]; omega
    clear h
    go_enter Tryz.func70, Tryz.ntmps70
    go_wp2
    go_ret
    exact ⟨ret_int HO.out, rfl⟩
  · have hb : ((n : Int) % 2 == 0) = true := by rw [beq_iff_eq]; omega
    have HO : Hid ((n : Int) / 2 = unfold n) := by show _ = _; unfold unfold; rw [if_neg h]; omega
    clear h
    go_enter Tryz.func70, Tryz.ntmps70
    go_wp2
    go_ret
    exact ⟨ret_int HO.out, rfl⟩

theorem fInt_none (b : Nat) (s : ByteArray) (w : World) (hr : RfAt w b s) (hs : s.size ≤ maxLen) (hd : dnum s.data.toList = none) :
    Calls Tryz.prog 46 #[.pointer (some ⟨b, 0, none⟩)] w fun e w' => e = .returned (.tuple #[.int .i64 0, .int .i64 1]) ∧ RfAt w' b s ∧ Step b w none w' none := by
  go_enter Tryz.func46, Tryz.ntmps46
  go_wp2_with fail
  refine (fNum_none b s _ hr hs hd).mono ?_
  rintro e w' ⟨rfl, h1, h2⟩
  have H1 : Hid _ := h1
  have H2 : Hid _ := h2
  clear h1 h2
  go_wp2
  go_ret2
  exact ⟨rfl, H1.out, H2.out⟩
theorem fInt_read (b u : Nat) (rest : List UInt8) (s : ByteArray) (w : World) (hr : RfAt w b s) (hs : s.size ≤ maxLen) (hn : u < 18446744073709551616) (hl : s.data.toList = enc u ++ rest) :
    Calls Tryz.prog 46 #[.pointer (some ⟨b, 0, none⟩)] w fun e w' => e = .returned (.tuple #[.int .i64 (unfold u), .int .i64 0]) ∧ ∃ s', RfAt w' b s' ∧ s'.data.toList = rest ∧ Step b w none w' none := by
  go_enter Tryz.func46, Tryz.ntmps46
  go_wp2_with fail
  refine (fNum_read b u rest s _ hr hs hn hl).mono ?_
  rintro e w' ⟨rfl, s', h1, h2, h3⟩
  have H1 : Hid _ := h1
  have H2 : Hid _ := h2
  have H3 : Hid _ := h3
  clear h1 h2 h3
  go_wp2_with fail
  refine (refUnfold_any u _ hn).mono ?_
  rintro e w2 ⟨rfl, rfl⟩
  go_wp2
  go_ret2
  exact ⟨rfl, s', H1.out, H2.out, H3.out⟩

end Go.Proofs.YtjfanbemihheiaaGreatDoor.Pk
