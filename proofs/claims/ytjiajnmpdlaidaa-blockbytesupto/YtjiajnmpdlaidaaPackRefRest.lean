/-
  The document's answer for layer 1: its reader's Num, Int and Text, as the statement uses them.
-/
import Derived.Test.YtjiajnmpdlaidaaPackRefRead
namespace Go.Proofs.Ytjiajnmpdlaidaa.Pk
open Go.RowKit
set_option linter.unusedVariables false

theorem step_below {w w1 : World} {b : Nat} (h : Below w.heap.size w w1) : Step b w none w1 none := ⟨⟨h.os, h.tape, h.output, h.size, fun k hk _ _ => h.block k hk⟩, .inl rfl⟩

theorem fNum_none (b : Nat) (s : ByteArray) (w : World) (hr : RfAt w b s) (hs : s.size ≤ maxLen) (hd : dnum s.data.toList = none) :
    Calls Try.prog 31 #[.pointer (some ⟨b, 0, none⟩)] w fun e w' => e = .returned (.tuple #[.int .u64 0, .int .i64 1]) ∧ RfAt w' b s ∧ Step b w none w' none := by
  refine (fNum_any b s w hr hs).mono ?_
  rintro e w' (⟨_, rfl, hb⟩ | ⟨n, k, h, _⟩)
  · exact ⟨rfl, hr.below hb hr.lt, step_below hb⟩
  · rw [hd] at h; cases h
theorem fNum_read (b n : Nat) (rest : List UInt8) (s : ByteArray) (w : World) (hr : RfAt w b s) (hs : s.size ≤ maxLen) (hn : n < 18446744073709551616) (hl : s.data.toList = enc n ++ rest) :
    Calls Try.prog 31 #[.pointer (some ⟨b, 0, none⟩)] w fun e w' => e = .returned (.tuple #[.int .u64 n, .int .i64 0]) ∧ ∃ s', RfAt w' b s' ∧ s'.data.toList = rest ∧ Step b w none w' none := by
  have hd : dnum s.data.toList = some (n, (enc n).length) := by rw [hl]; exact dnum_enc n rest hn
  refine (fNum_any b s w hr hs).mono ?_
  rintro e w' (⟨h, _⟩ | ⟨n', k, h, rfl, w1, hb, rfl⟩)
  · rw [hd] at h; cases h
  · rw [hd] at h
    simp only [Option.some.injEq, Prod.mk.injEq] at h
    obtain ⟨rfl, rfl⟩ := h
    exact ⟨rfl, _, one_setCell (hr.below hb hr.lt), rest_of hl, step_set hb _⟩

theorem refUnfold_any (n : Nat) (w : World) (hn : n < 18446744073709551616) :
    Calls Try.prog 44 #[.int .u64 n] w fun e w' => e = .returned (.int .i64 (unfold n)) ∧ w' = w := by
  by_cases h : n % 2 = 1
  · have hb : ((n : Int) % 2 == 0) = false := by rw [beq_eq_false_iff_ne]; omega
    have HO : Hid (-((n : Int) / 2) - 1 = unfold n) := by show _ = _; unfold unfold; rw [if_pos h]; omega
    clear h
    go_enter Try.func44, Try.ntmps44
    go_wp2
    go_ret
    exact ⟨ret_int HO.out, rfl⟩
  · have hb : ((n : Int) % 2 == 0) = true := by rw [beq_iff_eq]; omega
    have HO : Hid ((n : Int) / 2 = unfold n) := by show _ = _; unfold unfold; rw [if_neg h]; omega
    clear h
    go_enter Try.func44, Try.ntmps44
    go_wp2
    go_ret
    exact ⟨ret_int HO.out, rfl⟩

theorem fInt_none (b : Nat) (s : ByteArray) (w : World) (hr : RfAt w b s) (hs : s.size ≤ maxLen) (hd : dnum s.data.toList = none) :
    Calls Try.prog 33 #[.pointer (some ⟨b, 0, none⟩)] w fun e w' => e = .returned (.tuple #[.int .i64 0, .int .i64 1]) ∧ RfAt w' b s ∧ Step b w none w' none := by
  go_enter Try.func33, Try.ntmps33
  go_wp2_with fail
  refine (fNum_none b s _ hr hs hd).mono ?_
  rintro e w' ⟨rfl, h1, h2⟩
  have H1 : Hid _ := h1
  have H2 : Hid _ := h2
  clear h1 h2
  go_wp2
  go_ret2
  exact ⟨rfl, H1.out, H2.out⟩
theorem fInt_read (b u : Nat) (rest : List UInt8) (s : ByteArray) (w : World) (hr : RfAt w b s) (hs : s.size ≤ maxLen) (hn : u < 18446744073709551616) (hl : s.data.toList = enc u ++ rest) :
    Calls Try.prog 33 #[.pointer (some ⟨b, 0, none⟩)] w fun e w' => e = .returned (.tuple #[.int .i64 (unfold u), .int .i64 0]) ∧ ∃ s', RfAt w' b s' ∧ s'.data.toList = rest ∧ Step b w none w' none := by
  go_enter Try.func33, Try.ntmps33
  go_wp2_with fail
  refine (fNum_read b u rest s _ hr hs hn hl).mono ?_
  rintro e w' ⟨rfl, s', h1, h2, h3⟩
  have H1 : Hid _ := h1
  have H2 : Hid _ := h2
  have H3 : Hid _ := h3
  clear h1 h2 h3
  go_wp2_with fail
  refine (refUnfold_any u _ hn).mono ?_
  rintro e w2 ⟨rfl, rfl⟩
  go_wp2
  go_ret2
  exact ⟨rfl, s', H1.out, H2.out, H3.out⟩

set_option maxHeartbeats 1000000 in
theorem fText_none (b : Nat) (s : ByteArray) (w : World) (hr : RfAt w b s) (hs : s.size ≤ maxLen) (hd : dtext s.data.toList = none) :
    Calls Try.prog 32 #[.pointer (some ⟨b, 0, none⟩)] w fun e w' => e = .returned (.tuple #[.string ⟨#[]⟩, .int .i64 1]) ∧ RfAt w' b s ∧ Step b w none w' none := by
  have hc := cell_of_one hr
  have hs' := hs
  unfold maxLen at hs'
  rcases dtext_none hd with h | ⟨n, k, h, hlt⟩
  · go_enter Try.func32, Try.ntmps32
    go_wp2_with fail
    refine (fNum_none b s _ hr hs h).mono ?_
    rintro e w' ⟨rfl, h1, h2⟩
    have hc1 := cell_of_one h1
    have hf1 := free_of_one h1
    have H1 : Hid _ := h1
    have H2 : Hid _ := h2
    clear h1 h2
    go_wp2
    go_ret2
    exact ⟨rfl, one_setCell H1.out, H2.out.trans (step_set (Below.refl _ _) _)⟩
  · have hp := dnum_some h
    have hn := hp.1
    have HL : Hid (s.data.toList = enc n ++ s.data.toList.drop k) := hp.2.2.1
    have hkl := hp.2.2.2
    have Hlt : Hid (s.data.toList.length - k < n) := hlt
    clear hp h hlt
    go_enter Try.func32, Try.ntmps32
    go_wp2_with fail
    refine (fNum_read b n _ s _ hr hs hn HL.out).mono ?_
    rintro e w' ⟨rfl, s1, h1, h2, h3⟩
    have hc1 := cell_of_one h1
    have hf1 := free_of_one h1
    have hs1 : s1.size < n := by rw [Lib.size_eq, h2, List.length_drop]; exact Hlt.out
    have hs2 : s1.size ≤ s.size := by rw [Lib.size_eq, h2, List.length_drop, ← Lib.size_eq]; omega
    have H1 : Hid _ := h1
    have H2 : Hid _ := h2
    have H3 : Hid _ := h3
    clear h1 h2 h3
    go_wp2
    go_ret2
    exact ⟨rfl, one_setCell H1.out, H3.out.trans (step_set (Below.refl _ _) _)⟩

set_option maxHeartbeats 1000000 in
theorem fText_read (b : Nat) (t rest : List UInt8) (s : ByteArray) (w : World) (hr : RfAt w b s) (hs : s.size ≤ maxLen) (hl : s.data.toList = text t ++ rest) :
    Calls Try.prog 32 #[.pointer (some ⟨b, 0, none⟩)] w fun e w' => e = .returned (.tuple #[.string ⟨t.toArray⟩, .int .i64 0]) ∧ ∃ s', RfAt w' b s' ∧ s'.data.toList = rest ∧ Step b w none w' none := by
  have hc := cell_of_one hr
  have hs' := hs
  unfold maxLen at hs'
  have hl2 : s.data.toList = enc t.length ++ (t ++ rest) := by rw [hl, text, List.append_assoc]
  have hlen : (enc t.length).length + (t.length + rest.length) = s.size := by rw [Lib.size_eq, hl2]; simp
  have ht : t.length < 18446744073709551616 := by omega
  have HL : Hid _ := hl2
  have HT : Hid _ := hlen
  have htn : (t.length : Int) ≤ 9223372036854775807 := by omega
  clear hl hl2 hlen
  go_enter Try.func32, Try.ntmps32
  go_wp2_with fail
  refine (fNum_read b t.length _ s _ hr hs ht HL.out).mono ?_
  rintro e w' ⟨rfl, s1, h1, h2, h3⟩
  have hc1 := cell_of_one h1
  have hf1 := free_of_one h1
  have hs1 : t.length ≤ s1.size := by rw [Lib.size_eq, h2, List.length_append]; omega
  have hs2 : s1.size ≤ s.size := by rw [Lib.size_eq, h2, List.length_append]; have := HT.out; omega
  have hd : decide ((s1.size : Int) < (t.length : Int)) = false := by simp; omega
  have hX : s1.extract 0 t.length = ⟨t.toArray⟩ := by rw [Lib.extract_eq, h2, List.drop_zero, Nat.sub_zero, List.take_left]
  have HX : Hid _ := hX
  have HR : Hid ((s1.extract t.length s1.size).data.toList = rest) := rest_of h2
  have H1 : Hid _ := h1
  have H3 : Hid _ := h3
  clear h1 h2 h3 hX
  generalize t.length = n at *
  go_wp2
  go_ret2
  exact ⟨by rw [← HX.out]; rfl, _, one_setCell H1.out, HR.out, H3.out.trans (step_set (Below.refl _ _) _)⟩

end Go.Proofs.Ytjiajnmpdlaidaa.Pk
