/-
  The walk of the statement PackReads.
-/
import Derived.Test.YtnhmabhcegiekaaPackOnlyWalk
import Derived.Test.YtnhmabhcegiekaaPackRefRest
namespace Go.Proofs.Ytnhmabhcegiekaa.Pk
open Go.RowKit
set_option linter.unusedVariables false

theorem RfAt.alloc {w : World} {b : Nat} {s : ByteArray} (h : RfAt w b s) (o : Obj) : RfAt (w.alloc o) b s := (Below.heap_alloc _ _ _ h.lt).trans h
theorem ba_ext {a b : ByteArray} (h : a.data.toList = b.data.toList) : a = b := by
  apply ByteArray.ext
  exact Array.ext' h

/-- The state of the statement's loop: the reader, the other one, the document's. -/
structure PS (w0 wr : World) (br bo bm : Nat) (T s : ByteArray) : Prop where
  rd : RdAt wr br s
  ot : RdAt wr bo T
  rf : RfAt wr bm s
  ne1 : br ≠ bo
  ne2 : br ≠ bm
  ne3 : bo ≠ bm
  bel : Below w0.heap.size w0 wr
  ger : w0.heap.size ≤ br
  gem : w0.heap.size ≤ bm

theorem PS.two {w0 wr : World} {br bo bm : Nat} {T s : ByteArray} (h : PS w0 wr br bo bm T s) (o1 o2 : Obj) : PS w0 ((wr.alloc o1).alloc o2) br bo bm T s :=
  ⟨(h.rd.alloc _).alloc _, (h.ot.alloc _).alloc _, (h.rf.alloc _).alloc _, h.ne1, h.ne2, h.ne3, (h.bel.alloc h.bel.size _).alloc (by have := h.bel.size; simp; omega) _, h.ger, h.gem⟩
theorem PS.rf4 {w0 W w4 : World} {br bo bm : Nat} {T s : ByteArray} (h : PS w0 W br bo bm T s) (hs : Step br W none w4 none) : RfAt w4 bm s := (hs.kept.block bm h.rf.lt (Ne.symm h.ne2) (by simp)).trans h.rf
theorem PS.next {w0 W w4 w5 : World} {br bo bm : Nat} {T s s4 : ByteArray} (h : PS w0 W br bo bm T s) (hr : RdAt w4 br s4) (hs : Step br W none w4 none) (hf : RfAt w5 bm s4) (hs5 : Step bm w4 none w5 none) : PS w0 w5 br bo bm T s4 := by
  have h1 := hs.kept.size
  have h2 := h.bel.size
  have h3 := h.ot.lt
  refine ⟨(hs5.kept.block br hr.lt h.ne2 (by simp)).trans hr, ?_, hf, h.ne1, h.ne2, h.ne3, ?_, h.ger, h.gem⟩
  · exact (hs5.kept.block bo (by omega) h.ne3 (by simp)).trans ((hs.kept.block bo h3 (Ne.symm h.ne1) (by simp)).trans h.ot)
  · exact (h.bel.trans (hs.below h2 h.ger (fun k hk => by cases hk))).trans (hs5.below (by omega) h.gem (fun k hk => by cases hk))
theorem PS.drew {w0 w : World} {br bo bm : Nat} {T s : ByteArray} {n : Nat} (h : PS w0 w br bo bm T s) : PS w0 (w.drewN n) br bo bm T s :=
  ⟨h.rd, h.ot, h.rf, h.ne1, h.ne2, h.ne3, drew_below h.bel, h.ger, h.gem⟩

/-- What the statement looks at behind each item. -/
structure Look (w : World) (br bm : Nat) (s : ByteArray) (z : Bool) : Prop where
  left : ∀ n, Calls Try.prog 27 #[.pointer (some ⟨br, 0, none⟩)] (w.drewN n) fun e w' => e = .returned (.int .i64 s.size) ∧ w' = w.drewN n
  done : ∀ n, Calls Try.prog 28 #[.pointer (some ⟨br, 0, none⟩)] (w.drewN n) fun e w' => e = .returned (.bool z) ∧ w' = w.drewN n
  cell : w.cell? ⟨bm, 0, none⟩ = some (.string s)
  zero : ((s.size : Int) == 0) = z
theorem PS.look {w0 w : World} {br bo bm : Nat} {T s : ByteArray} (h : PS w0 w br bo bm T s) : ∃ z, Look w br bm s z :=
  ⟨decide (s.size = 0), fun n => left_any _ _ (w.drewN n) h.rd, fun n => done_any _ _ (w.drewN n) h.rd, cell_of_one h.rf, by rw [Bool.eq_iff_iff, beq_iff_eq, decide_eq_true_eq]; omega⟩

set_option maxRecDepth 100000 in
set_option maxHeartbeats 8000000 in
theorem reads_walk (T : ByteArray) (ao : Option Addr) (cap : Nat) (its : List It) (w : World) (hT : T.size ≤ 140737488351232) (hi : ItemsAt w ao its) (hlen : its.length ≤ 140737488351232) :
    Calls Try.prog 4 #[.string T, .slice ao its.length cap] w fun e w' => e = .returned (.bool true) ∧ Below w.heap.size w w' := by
  go_enter Try.func4, Try.ntmps4
  go_wp2_with fail
  refine (lives_any _).mono ?_
  rintro e w1 ⟨rfl, hb1⟩
  have hs1 := hb1.size
  go_wp2_with fail
  refine (read_any T _).mono ?_
  rintro e w2 ⟨rfl, rfl⟩
  go_wp2_with fail
  refine (read_any T _).mono ?_
  rintro e w3 ⟨rfl, rfl⟩
  have HS0 : Hid (PS w (((w1.alloc (.cells #[.string T] 73)).alloc (.cells #[.string T] 73)).alloc (.cells #[.string T] 48)) w1.heap.size (w1.heap.size + 1) (w1.heap.size + 1 + 1) T T) :=
    ⟨((read_at w1 T).alloc _).alloc _, by have := (read_at (w1.alloc (.cells #[.string T] 73)) T).alloc (.cells #[.string T] 48); simpa using this,
      by have := heap_alloc_new ((w1.alloc (.cells #[.string T] 73)).alloc (.cells #[.string T] 73)) (.cells #[.string T] 48); simpa [RfAt] using this,
      by omega, by omega, by omega, ((hb1.alloc hs1 _).alloc (by simp; omega) _).alloc (by simp; omega) _, hs1, by omega⟩
  go_wp2_with fail
  go_loopw [33] (fun i wr => ∃ (k : Nat) (s : ByteArray), k ≤ its.length ∧ i = .int .i64 k ∧ Hid (s.size ≤ 140737488351232) ∧ Hid (PS w wr w1.heap.size (w1.heap.size + 1) (w1.heap.size + 1 + 1) T s)) (fun i _ => its.length - (intOf i).toNat)
  case atStart => exact ⟨0, T, by omega, rfl, hT, HS0⟩
  case round =>
    obtain ⟨k, s, hk, rfl, HZ, HS⟩ := hrel
    have hsl := HZ.out
    have hsr := HS.out.bel.size
    by_cases hlt : k < its.length
    · rcases hi.below HS.out.bel with h0 | ⟨b, off, rfl, hbl, hcells⟩
      · simp [h0] at hlt
      have hc := hcells k hlt
      generalize its.getD k It.zero = it at *
      obtain ⟨hc0, hc1, hc2⟩ := hc
      clear hcells
      go_wp2_with fail
      refine (kind_any it _).mono ?_
      rintro e w3 ⟨rfl, rfl⟩
      have HS2 : Hid _ := HS.out.two (.cells #[.int .i64 it.k, .int .u64 it.n, .string it.s] 29) (.cells #[.int .i64 it.k, .int .u64 it.n, .string it.s] 29)
      have hklt := it.kind_lt
      obtain ⟨c, hc⟩ : ∃ c, c = it.kind := ⟨_, rfl⟩
      rw [← hc] at hklt ⊢
      clear hc
      rcases (show c = 0 ∨ c = 1 ∨ c = 2 by omega) with h | h | h
      · subst h
        rcases hq : dnum s.data.toList with _ | ⟨n, kk⟩
        · have hd : dnum s.data.toList = none := hq
          clear hq
          go_wp2_with fail
          refine (rNum_none w1.heap.size s _ HS2.out.rd (by unfold maxLen; omega) hd).mono ?_
          rintro e w5 ⟨rfl, rfl⟩
          go_wp2_with fail
          refine (fNum_none (w1.heap.size + 1 + 1) s _ HS2.out.rf (by unfold maxLen; omega) hd).mono ?_
          rintro e w6 ⟨rfl, hf6, hs6⟩
          have HF : Hid _ := HS2.out.next HS2.out.rd (Step.refl _ _ _) hf6 hs6
          clear hf6 hs6
          obtain ⟨z, hlook⟩ := HF.out.look
          have hcm := hlook.cell
          have hz := hlook.zero
          have HLk : Hid _ := hlook
          clear hlook
          go_wp2_with fail
          go_quiet ((first | (go_at_call 27; exact Calls.quiet_of_same (HLk.out.left _)) | (go_at_call 28; exact Calls.quiet_of_same (HLk.out.done _))))
          go_wp2
          go_roundw
          case rel => exact ⟨k + 1, s, by omega, by go_num, HZ, HF.out.drew⟩
          case measure => simp [intOf]; omega
        · have hp := dnum_some hq
          have hn := hp.1
          have HL : Hid (s.data.toList = enc n ++ s.data.toList.drop kk) := hp.2.2.1
          clear hp hq
          go_wp2_with fail
          refine (rNum_read w1.heap.size n _ s _ HS2.out.rd (by unfold maxLen; omega) hn HL.out).mono ?_
          rintro e w5 ⟨rfl, s4, hr4, hl4, hs4⟩
          have hrf := HS2.out.rf4 hs4
          go_wp2_with fail
          refine (fNum_read (w1.heap.size + 1 + 1) n _ s _ hrf (by unfold maxLen; omega) hn HL.out).mono ?_
          rintro e w6 ⟨rfl, s5, hf6, hl5, hs6⟩
          obtain rfl : s5 = s4 := ba_ext (by rw [hl5, hl4])
          have HF : Hid _ := HS2.out.next hr4 hs4 hf6 hs6
          have HZ2 : Hid (s5.size ≤ 140737488351232) := by show s5.size ≤ _; rw [Lib.size_eq, hl4, List.length_drop, ← Lib.size_eq]; omega
          clear hr4 hl4 hs4 hrf hf6 hl5 hs6
          obtain ⟨z, hlook⟩ := HF.out.look
          have hcm := hlook.cell
          have hz := hlook.zero
          have HLk : Hid _ := hlook
          clear hlook
          go_wp2_with fail
          go_quiet ((first | (go_at_call 27; exact Calls.quiet_of_same (HLk.out.left _)) | (go_at_call 28; exact Calls.quiet_of_same (HLk.out.done _))))
          go_wp2
          go_roundw
          case rel => exact ⟨k + 1, s5, by omega, by go_num, HZ2, HF.out.drew⟩
          case measure => simp [intOf]; omega
      · subst h
        rcases hq : dnum s.data.toList with _ | ⟨n, kk⟩
        · have hd : dnum s.data.toList = none := hq
          clear hq
          go_wp2_with fail
          refine (rInt_none w1.heap.size s _ HS2.out.rd (by unfold maxLen; omega) hd).mono ?_
          rintro e w5 ⟨rfl, rfl⟩
          go_wp2_with fail
          refine (fInt_none (w1.heap.size + 1 + 1) s _ HS2.out.rf (by unfold maxLen; omega) hd).mono ?_
          rintro e w6 ⟨rfl, hf6, hs6⟩
          have HF : Hid _ := HS2.out.next HS2.out.rd (Step.refl _ _ _) hf6 hs6
          clear hf6 hs6
          obtain ⟨z, hlook⟩ := HF.out.look
          have hcm := hlook.cell
          have hz := hlook.zero
          have HLk : Hid _ := hlook
          clear hlook
          go_wp2_with fail
          go_quiet ((first | (go_at_call 27; exact Calls.quiet_of_same (HLk.out.left _)) | (go_at_call 28; exact Calls.quiet_of_same (HLk.out.done _))))
          go_wp2
          go_roundw
          case rel => exact ⟨k + 1, s, by omega, by go_num, HZ, HF.out.drew⟩
          case measure => simp [intOf]; omega
        · have hp := dnum_some hq
          have hn := hp.1
          have HL : Hid (s.data.toList = enc n ++ s.data.toList.drop kk) := hp.2.2.1
          clear hp hq
          go_wp2_with fail
          refine (rInt_read w1.heap.size n _ s _ HS2.out.rd (by unfold maxLen; omega) hn HL.out).mono ?_
          rintro e w5 ⟨rfl, s4, hr4, hl4, hs4⟩
          have hrf := HS2.out.rf4 hs4
          go_wp2_with fail
          refine (fInt_read (w1.heap.size + 1 + 1) n _ s _ hrf (by unfold maxLen; omega) hn HL.out).mono ?_
          rintro e w6 ⟨rfl, s5, hf6, hl5, hs6⟩
          obtain rfl : s5 = s4 := ba_ext (by rw [hl5, hl4])
          have HF : Hid _ := HS2.out.next hr4 hs4 hf6 hs6
          have HZ2 : Hid (s5.size ≤ 140737488351232) := by show s5.size ≤ _; rw [Lib.size_eq, hl4, List.length_drop, ← Lib.size_eq]; omega
          clear hr4 hl4 hs4 hrf hf6 hl5 hs6
          obtain ⟨z, hlook⟩ := HF.out.look
          have hcm := hlook.cell
          have hz := hlook.zero
          have HLk : Hid _ := hlook
          clear hlook
          go_wp2_with fail
          go_quiet ((first | (go_at_call 27; exact Calls.quiet_of_same (HLk.out.left _)) | (go_at_call 28; exact Calls.quiet_of_same (HLk.out.done _))))
          go_wp2
          go_roundw
          case rel => exact ⟨k + 1, s5, by omega, by go_num, HZ2, HF.out.drew⟩
          case measure => simp [intOf]; omega
      · subst h
        rcases hq : dtext s.data.toList with _ | ⟨kk, n⟩
        · have hd : dtext s.data.toList = none := hq
          clear hq
          go_wp2_with fail
          refine (rText_none w1.heap.size s _ HS2.out.rd (by unfold maxLen; omega) hd).mono ?_
          rintro e w5 ⟨rfl, rfl⟩
          go_wp2_with fail
          refine (fText_none (w1.heap.size + 1 + 1) s _ HS2.out.rf (by unfold maxLen; omega) hd).mono ?_
          rintro e w6 ⟨rfl, hf6, hs6⟩
          have HF : Hid _ := HS2.out.next HS2.out.rd (Step.refl _ _ _) hf6 hs6
          clear hf6 hs6
          obtain ⟨z, hlook⟩ := HF.out.look
          have hcm := hlook.cell
          have hz := hlook.zero
          have HLk : Hid _ := hlook
          clear hlook
          go_wp2_with fail
          go_quiet ((first | (go_at_call 27; exact Calls.quiet_of_same (HLk.out.left _)) | (go_at_call 28; exact Calls.quiet_of_same (HLk.out.done _))))
          go_wp2
          go_roundw
          case rel => exact ⟨k + 1, s, by omega, by go_num, HZ, HF.out.drew⟩
          case measure => simp [intOf]; omega
        · obtain ⟨t, hts, hll⟩ := dtext_is hq
          have HL : Hid (s.data.toList = text t.data.toList ++ s.data.toList.drop (kk + n)) := hts
          clear hts hll hq
          go_wp2_with fail
          refine (rText_read w1.heap.size t.data.toList _ s _ HS2.out.rd (by omega) HL.out).mono ?_
          rintro e w5 ⟨rfl, s4, hr4, hl4, hs4⟩
          have hrf := HS2.out.rf4 hs4
          go_wp2_with fail
          refine (fText_read (w1.heap.size + 1 + 1) t.data.toList _ s _ hrf (by unfold maxLen; omega) HL.out).mono ?_
          rintro e w6 ⟨rfl, s5, hf6, hl5, hs6⟩
          obtain rfl : s5 = s4 := ba_ext (by rw [hl5, hl4])
          have HF : Hid _ := HS2.out.next hr4 hs4 hf6 hs6
          have HZ2 : Hid (s5.size ≤ 140737488351232) := by show s5.size ≤ _; rw [Lib.size_eq, hl4, List.length_drop, ← Lib.size_eq]; omega
          clear hr4 hl4 hs4 hrf hf6 hl5 hs6
          obtain ⟨z, hlook⟩ := HF.out.look
          have hcm := hlook.cell
          have hz := hlook.zero
          have HLk : Hid _ := hlook
          clear hlook
          go_wp2_with fail
          go_quiet ((first | (go_at_call 27; exact Calls.quiet_of_same (HLk.out.left _)) | (go_at_call 28; exact Calls.quiet_of_same (HLk.out.done _))))
          go_wp2
          go_roundw
          case rel => exact ⟨k + 1, s5, by omega, by go_num, HZ2, HF.out.drew⟩
          case measure => simp [intOf]; omega
    · go_wp2_with fail
      refine (left_any (w1.heap.size + 1) T _ HS.out.ot).mono ?_
      rintro e w7 ⟨rfl, rfl⟩
      go_wp2
      go_ret
      exact ⟨rfl, HS.out.bel⟩

end Go.Proofs.Ytnhmabhcegiekaa.Pk
