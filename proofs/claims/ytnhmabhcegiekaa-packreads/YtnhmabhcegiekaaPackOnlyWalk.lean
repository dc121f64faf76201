/-
  The walk of the statement PackOnly.
-/
import Derived.Test.YtnhmabhcegiekaaPackWritesWalk
namespace Go.Proofs.Ytnhmabhcegiekaa.Pk
open Go.RowKit
set_option linter.unusedVariables false

/-- The state of the statement's loop: the reader, the writer, and that together they have the text. -/
structure OS (w0 wr : World) (br bw : Nat) (r : Option Nat) (T s : ByteArray) (bs : List UInt8) : Prop where
  rd : RdAt wr br s
  wrt : WrAt wr w0.heap.size bw r bs
  all : T.data.toList = bs ++ s.data.toList
  ne : br ≠ bw
  bel : Below w0.heap.size w0 wr
  ger : w0.heap.size ≤ br
  gew : w0.heap.size ≤ bw

theorem rd_row {wr : World} {base br bw : Nat} {r : Option Nat} {s : ByteArray} {bs : List UInt8} (hr : RdAt wr br s) (hw : WrAt wr base bw r bs) : r ≠ some br := by
  intro e
  obtain ⟨v, hv, hown, rfl⟩ := hw
  rcases hown.2 with ⟨rfl, _⟩ | ⟨g, cap, cur, rfl, _, hg, _⟩
  · simp [Value.ownBlock] at e
  · simp [Value.ownBlock] at e
    subst e
    rw [hr] at hg
    simp at hg

theorem OS.two {w0 wr : World} {br bw : Nat} {r : Option Nat} {T s : ByteArray} {bs : List UInt8} (h : OS w0 wr br bw r T s bs) (o1 o2 : Obj) : OS w0 ((wr.alloc o1).alloc o2) br bw r T s bs :=
  ⟨(h.rd.alloc _).alloc _, (h.wrt.alloc _).alloc _, h.all, h.ne, (h.bel.alloc h.bel.size _).alloc (by have := h.bel.size; simp; omega) _, h.ger, h.gew⟩

theorem OS.wr4 {w0 W w4 : World} {br bw : Nat} {r : Option Nat} {T s : ByteArray} {bs : List UInt8} (h : OS w0 W br bw r T s bs) (hs : Step br W none w4 none) : WrAt w4 w0.heap.size bw r bs :=
  h.wrt.step hs (Ne.symm h.ne) (by simp) (rd_row h.rd h.wrt) (by cases r <;> simp)

theorem OS.rw {w0 W w4 w5 : World} {br bw : Nat} {r r2 : Option Nat} {T s s4 : ByteArray} {bs x : List UInt8} (h : OS w0 W br bw r T s bs) (hr : RdAt w4 br s4) (hs : Step br W none w4 none) (hl : s.data.toList = x ++ s4.data.toList)
    (hw5 : WrAt w5 w0.heap.size bw r2 (bs ++ x)) (hs5 : Step bw w4 r w5 r2) : OS w0 w5 br bw r2 T s4 (bs ++ x) := by
  have hw4 := h.wr4 hs
  refine ⟨?_, hw5, by rw [h.all, hl, List.append_assoc], h.ne, ?_, h.ger, h.gew⟩
  · exact (hs5.kept.block br hr.lt h.ne (fun e => rd_row hr hw4 e.symm)).trans hr
  · have h1 := h.bel.size
    have h2 := hs.kept.size
    exact (h.bel.trans (hs.below h1 h.ger (fun k hk => by cases hk))).trans (hs5.below (by omega) h.gew (fun k hk => (hw4.row_ge k hk).1))

theorem dtext_is {s : ByteArray} {n k : Nat} (h : dtext s.data.toList = some (k, n)) : ∃ t : ByteArray, s.data.toList = text t.data.toList ++ s.data.toList.drop (k + n) ∧ (enc t.size).length + t.size ≤ s.size := by
  obtain ⟨h1, h2⟩ := dtext_some h
  have hp := dnum_some h1
  have ht : ((s.data.toList.drop k).take n).length = n := by rw [List.length_take, List.length_drop]; omega
  refine ⟨⟨((s.data.toList.drop k).take n).toArray⟩, ?_, ?_⟩
  · show s.data.toList = text ((s.data.toList.drop k).take n) ++ _
    rw [text, ht, List.append_assoc, ← List.drop_drop, List.take_append_drop]
    exact hp.2.2.1
  · rw [Lib.size_eq, Lib.size_eq s]
    show (enc ((s.data.toList.drop k).take n).length).length + ((s.data.toList.drop k).take n).length ≤ _
    rw [ht, ← hp.2.1]
    have := hp.2.2.2
    omega

/-- What the statement looks at behind each item. -/
structure Seen (w : World) (br bw nb sz : Nat) (T X : ByteArray) : Prop where
  len : ∀ n, Calls Try.prog 18 #[.pointer (some ⟨bw, 0, none⟩)] (w.drewN n) fun e w' => e = .returned (.int .i64 nb) ∧ w' = w.drewN n
  bytes : ∀ n, Calls Try.prog 19 #[.pointer (some ⟨bw, 0, none⟩)] (w.drewN n) fun e w' => e = .returned (.string X) ∧ w' = w.drewN n
  left : ∀ n, Calls Try.prog 27 #[.pointer (some ⟨br, 0, none⟩)] (w.drewN n) fun e w' => e = .returned (.int .i64 sz) ∧ w' = w.drewN n
  cut : T.extract 0 nb = X
  le : nb ≤ T.size
  rest : sz = T.size - nb

theorem OS.seen {w0 w : World} {br bw : Nat} {r : Option Nat} {T s : ByteArray} {bs : List UInt8} (h : OS w0 w br bw r T s bs) : ∃ nb X, Seen w br bw nb s.size T X ∧ nb = bs.length := by
  have hl : T.size = bs.length + s.size := by rw [Lib.size_eq, h.all, List.length_append, ← Lib.size_eq]
  refine ⟨bs.length, ⟨bs.toArray⟩, ⟨fun n => wLen_any _ _ _ _ (w.drewN n) h.wrt, fun n => wBytes_any _ _ _ _ (w.drewN n) h.wrt, fun n => left_any _ _ (w.drewN n) h.rd, ?_, by omega, by omega⟩, rfl⟩
  rw [Lib.extract_eq, h.all, List.drop_zero, Nat.sub_zero, List.take_left]

theorem OS.drew {w0 w : World} {br bw : Nat} {r : Option Nat} {T s : ByteArray} {bs : List UInt8} {n : Nat} (h : OS w0 w br bw r T s bs) : OS w0 (w.drewN n) br bw r T s bs :=
  ⟨h.rd, h.wrt, h.all, h.ne, drew_below h.bel, h.ger, h.gew⟩

set_option maxRecDepth 100000 in
set_option maxHeartbeats 8000000 in
theorem only_walk (T : ByteArray) (ao : Option Addr) (cap : Nat) (its : List It) (w : World) (hT : T.size ≤ 140737488351232) (hi : ItemsAt w ao its) (hlen : its.length ≤ 140737488351232) :
    Calls Try.prog 6 #[.string T, .slice ao its.length cap] w fun e w' => e = .returned (.bool true) ∧ Below w.heap.size w w' := by
  go_enter Try.func6, Try.ntmps6
  go_wp2_with fail
  refine (lives_any _).mono ?_
  rintro e w1 ⟨rfl, hb1⟩
  have hs1 := hb1.size
  go_wp2_with fail
  refine (read_any T _).mono ?_
  rintro e w2 ⟨rfl, rfl⟩
  go_wp2_with fail
  refine (new_any _ 0 (Nat.zero_le _)).mono ?_
  rintro e w3 ⟨rfl, rfl⟩
  have HS0 : Hid (OS w ((w1.alloc (.cells #[.string T] 73)).alloc (.cells #[.slice none 0 0] 41)) w1.heap.size (w1.heap.size + 1) none T T []) :=
    ⟨(read_at w1 T).alloc _, by have := new_wr (w1.alloc (.cells #[.string T] 73)) w.heap.size; simpa using this, rfl, by omega, (hb1.alloc hs1 _).alloc (by simp; omega) _, hs1, by omega⟩
  go_wp2_with fail
  go_loopw [24] (fun i wr => ∃ (k : Nat) (r : Option Nat) (s : ByteArray) (bs : List UInt8), k ≤ its.length ∧ i = .int .i64 k ∧ Hid (OS w wr w1.heap.size (w1.heap.size + 1) r T s bs)) (fun i _ => its.length - (intOf i).toNat)
  case atStart => exact ⟨0, none, T, [], by omega, rfl, HS0⟩
  case round =>
    obtain ⟨k, r, s, bs, hk, rfl, HS⟩ := hrel
    have hsr := HS.out.bel.size
    have hltr := HS.out.rd.lt
    have hltw := HS.out.wrt.lt
    have hlS : T.size = bs.length + s.size := by rw [Lib.size_eq, HS.out.all, List.length_append, ← Lib.size_eq]
    have hsl : s.size ≤ 140737488351232 := by omega
    have hbl : bs.length ≤ 140737488351232 := by omega
    have HLS : Hid _ := hlS
    clear hlS
    by_cases hlt : k < its.length
    · rcases hi.below HS.out.bel with h0 | ⟨b, off, rfl, hbl, hcells⟩
      · simp [h0] at hlt
      have hc := hcells k hlt
      generalize its.getD k It.zero = it at *
      obtain ⟨hc0, hc1, hc2⟩ := hc
      clear hcells
      go_wp2_with fail
      refine (left_any w1.heap.size s _ (HS.out.rd.alloc _)).mono ?_
      rintro e w4 ⟨rfl, rfl⟩
      go_wp2_with fail
      refine (kind_any it _).mono ?_
      rintro e w3 ⟨rfl, rfl⟩
      have HS2 : Hid _ := HS.out.two (.cells #[.int .i64 it.k, .int .u64 it.n, .string it.s] 29) (.cells #[.int .i64 it.k, .int .u64 it.n, .string it.s] 29)
      have hklt := it.kind_lt
      obtain ⟨c, hc⟩ : ∃ c, c = it.kind := ⟨_, rfl⟩
      rw [← hc] at hklt ⊢
      clear hc
      rcases (show c = 0 ∨ c = 1 ∨ c = 2 by omega) with h | h | h
      · subst h
        rcases hq : dnum s.data.toList with _ | ⟨n, kk⟩
        · have hd : dnum s.data.toList = none := hq
          clear hq
          go_wp2_with fail
          refine (rNum_none w1.heap.size s _ HS2.out.rd (by unfold maxLen; omega) hd).mono ?_
          rintro e w5 ⟨rfl, rfl⟩
          have HF := HS2
          go_wp2_with fail
          refine (left_any w1.heap.size s _ HF.out.rd).mono ?_
          rintro e w6 ⟨rfl, rfl⟩
          obtain ⟨nb, X, hseen, hnb⟩ := HF.out.seen
          have HNB : Hid _ := hnb
          clear hnb
          have hcut := hseen.cut
          have hnT := hseen.le
          have hgt : decide ((T.size : Int) < (nb : Int)) = false := by simp; omega
          have hrs : (s.size : Int) = (T.size : Int) - (nb : Int) := by have := hseen.rest; omega
          have hwr : IntKind.i64.wrap ((T.size : Int) - (nb : Int)) = (s.size : Int) := by rw [hrs]; exact IntWalk.i64_in _ ⟨by omega, by omega⟩
          have HSe : Hid _ := hseen
          clear hseen hrs
          go_wp2_with fail
          go_quiet ((first | (go_at_call 18; exact Calls.quiet_of_same (HSe.out.len _)) | (go_at_call 19; exact Calls.quiet_of_same (HSe.out.bytes _)) | (go_at_call 27; exact Calls.quiet_of_same (HSe.out.left _))))
          go_wp2
          go_roundw
          case rel => exact ⟨k + 1, r, s, bs, by omega, by go_num, HF.out.drew⟩
          case measure => simp [intOf]; omega
        · have hp := dnum_some hq
          have hn := hp.1
          have hel := enc_len n
          have HL : Hid (s.data.toList = enc n ++ s.data.toList.drop kk) := hp.2.2.1
          have hle : (enc n).length ≤ s.size := by have := hp.2.2.2; rw [← hp.2.1]; simpa using this
          clear hp hq
          go_wp2_with fail
          refine (rNum_read w1.heap.size n _ s _ HS2.out.rd (by unfold maxLen; omega) hn HL.out).mono ?_
          rintro e w5 ⟨rfl, s4, hr4, hl4, hs4⟩
          have hw4 := HS2.out.wr4 hs4
          have hsz5 := hs4.kept.size
          simp at hsz5
          go_wp2_with fail
          refine (one_num w.heap.size (w1.heap.size + 1) _ r bs n _ _ hw4 hn rfl (by omega) (by omega)).mono ?_
          rintro e w6 ⟨rfl, r2, hw6, hs6⟩
          have HF : Hid _ := HS2.out.rw hr4 hs4 (by rw [hl4]; exact HL.out) hw6 hs6
          clear hr4 hl4 hs4 hw4 hw6 hs6
          obtain ⟨nb, X, hseen, hnb⟩ := HF.out.seen
          have HNB : Hid _ := hnb
          clear hnb
          have hcut := hseen.cut
          have hnT := hseen.le
          have hgt : decide ((T.size : Int) < (nb : Int)) = false := by simp; omega
          have hrs : (s4.size : Int) = (T.size : Int) - (nb : Int) := by have := hseen.rest; omega
          have hwr : IntKind.i64.wrap ((T.size : Int) - (nb : Int)) = (s4.size : Int) := by rw [hrs]; exact IntWalk.i64_in _ ⟨by omega, by omega⟩
          have HSe : Hid _ := hseen
          clear hseen hrs
          go_wp2_with fail
          go_quiet ((first | (go_at_call 18; exact Calls.quiet_of_same (HSe.out.len _)) | (go_at_call 19; exact Calls.quiet_of_same (HSe.out.bytes _)) | (go_at_call 27; exact Calls.quiet_of_same (HSe.out.left _))))
          go_wp2
          go_roundw
          case rel => exact ⟨k + 1, r2, s4, _, by omega, by go_num, HF.out.drew⟩
          case measure => simp [intOf]; omega
      · subst h
        rcases hq : dnum s.data.toList with _ | ⟨n, kk⟩
        · have hd : dnum s.data.toList = none := hq
          clear hq
          go_wp2_with fail
          refine (rInt_none w1.heap.size s _ HS2.out.rd (by unfold maxLen; omega) hd).mono ?_
          rintro e w5 ⟨rfl, rfl⟩
          have HF := HS2
          go_wp2_with fail
          refine (left_any w1.heap.size s _ HF.out.rd).mono ?_
          rintro e w6 ⟨rfl, rfl⟩
          obtain ⟨nb, X, hseen, hnb⟩ := HF.out.seen
          have HNB : Hid _ := hnb
          clear hnb
          have hcut := hseen.cut
          have hnT := hseen.le
          have hgt : decide ((T.size : Int) < (nb : Int)) = false := by simp; omega
          have hrs : (s.size : Int) = (T.size : Int) - (nb : Int) := by have := hseen.rest; omega
          have hwr : IntKind.i64.wrap ((T.size : Int) - (nb : Int)) = (s.size : Int) := by rw [hrs]; exact IntWalk.i64_in _ ⟨by omega, by omega⟩
          have HSe : Hid _ := hseen
          clear hseen hrs
          go_wp2_with fail
          go_quiet ((first | (go_at_call 18; exact Calls.quiet_of_same (HSe.out.len _)) | (go_at_call 19; exact Calls.quiet_of_same (HSe.out.bytes _)) | (go_at_call 27; exact Calls.quiet_of_same (HSe.out.left _))))
          go_wp2
          go_roundw
          case rel => exact ⟨k + 1, r, s, bs, by omega, by go_num, HF.out.drew⟩
          case measure => simp [intOf]; omega
        · have hp := dnum_some hq
          have hn := hp.1
          have hel := enc_len n
          have HL : Hid (s.data.toList = enc n ++ s.data.toList.drop kk) := hp.2.2.1
          have hle : (enc n).length ≤ s.size := by have := hp.2.2.2; rw [← hp.2.1]; simpa using this
          clear hp hq
          go_wp2_with fail
          refine (rInt_read w1.heap.size n _ s _ HS2.out.rd (by unfold maxLen; omega) hn HL.out).mono ?_
          rintro e w5 ⟨rfl, s4, hr4, hl4, hs4⟩
          have hw4 := HS2.out.wr4 hs4
          have hsz5 := hs4.kept.size
          simp at hsz5
          go_wp2_with fail
          refine (one_int w.heap.size (w1.heap.size + 1) _ r bs (unfold n) _ _ hw4 (unfold_bd hn) rfl (by omega) (by omega)).mono ?_
          rintro e w6 ⟨rfl, r2, hw6, hs6⟩
          have HF : Hid _ := HS2.out.rw hr4 hs4 (by rw [hl4]; exact HL.out) (by rw [fold_unfold] at hw6; exact hw6) hs6
          clear hr4 hl4 hs4 hw4 hw6 hs6
          obtain ⟨nb, X, hseen, hnb⟩ := HF.out.seen
          have HNB : Hid _ := hnb
          clear hnb
          have hcut := hseen.cut
          have hnT := hseen.le
          have hgt : decide ((T.size : Int) < (nb : Int)) = false := by simp; omega
          have hrs : (s4.size : Int) = (T.size : Int) - (nb : Int) := by have := hseen.rest; omega
          have hwr : IntKind.i64.wrap ((T.size : Int) - (nb : Int)) = (s4.size : Int) := by rw [hrs]; exact IntWalk.i64_in _ ⟨by omega, by omega⟩
          have HSe : Hid _ := hseen
          clear hseen hrs
          go_wp2_with fail
          go_quiet ((first | (go_at_call 18; exact Calls.quiet_of_same (HSe.out.len _)) | (go_at_call 19; exact Calls.quiet_of_same (HSe.out.bytes _)) | (go_at_call 27; exact Calls.quiet_of_same (HSe.out.left _))))
          go_wp2
          go_roundw
          case rel => exact ⟨k + 1, r2, s4, _, by omega, by go_num, HF.out.drew⟩
          case measure => simp [intOf]; omega
      · subst h
        rcases hq : dtext s.data.toList with _ | ⟨kk, n⟩
        · have hd : dtext s.data.toList = none := hq
          clear hq
          go_wp2_with fail
          refine (rText_none w1.heap.size s _ HS2.out.rd (by unfold maxLen; omega) hd).mono ?_
          rintro e w5 ⟨rfl, rfl⟩
          have HF := HS2
          go_wp2_with fail
          refine (left_any w1.heap.size s _ HF.out.rd).mono ?_
          rintro e w6 ⟨rfl, rfl⟩
          obtain ⟨nb, X, hseen, hnb⟩ := HF.out.seen
          have HNB : Hid _ := hnb
          clear hnb
          have hcut := hseen.cut
          have hnT := hseen.le
          have hgt : decide ((T.size : Int) < (nb : Int)) = false := by simp; omega
          have hrs : (s.size : Int) = (T.size : Int) - (nb : Int) := by have := hseen.rest; omega
          have hwr : IntKind.i64.wrap ((T.size : Int) - (nb : Int)) = (s.size : Int) := by rw [hrs]; exact IntWalk.i64_in _ ⟨by omega, by omega⟩
          have HSe : Hid _ := hseen
          clear hseen hrs
          go_wp2_with fail
          go_quiet ((first | (go_at_call 18; exact Calls.quiet_of_same (HSe.out.len _)) | (go_at_call 19; exact Calls.quiet_of_same (HSe.out.bytes _)) | (go_at_call 27; exact Calls.quiet_of_same (HSe.out.left _))))
          go_wp2
          go_roundw
          case rel => exact ⟨k + 1, r, s, bs, by omega, by go_num, HF.out.drew⟩
          case measure => simp [intOf]; omega
        · obtain ⟨t, hts, hll⟩ := dtext_is hq
          have HL : Hid (s.data.toList = text t.data.toList ++ s.data.toList.drop (kk + n)) := hts
          have hle : (enc t.size).length + t.size ≤ s.size := hll
          clear hts hll hq
          go_wp2_with fail
          refine (rText_read w1.heap.size t.data.toList _ s _ HS2.out.rd (by omega) HL.out).mono ?_
          rintro e w5 ⟨rfl, s4, hr4, hl4, hs4⟩
          have hw4 := HS2.out.wr4 hs4
          have hsz5 := hs4.kept.size
          simp at hsz5
          go_wp2_with fail
          refine (one_text w.heap.size (w1.heap.size + 1) _ r bs t _ _ hw4 rfl (by have := HLS.out; omega) (by omega)).mono ?_
          rintro e w6 ⟨rfl, r2, hw6, hs6⟩
          have HF : Hid _ := HS2.out.rw hr4 hs4 (by rw [hl4]; exact HL.out) hw6 hs6
          clear hr4 hl4 hs4 hw4 hw6 hs6
          obtain ⟨nb, X, hseen, hnb⟩ := HF.out.seen
          have HNB : Hid _ := hnb
          clear hnb
          have hcut := hseen.cut
          have hnT := hseen.le
          have hgt : decide ((T.size : Int) < (nb : Int)) = false := by simp; omega
          have hrs : (s4.size : Int) = (T.size : Int) - (nb : Int) := by have := hseen.rest; omega
          have hwr : IntKind.i64.wrap ((T.size : Int) - (nb : Int)) = (s4.size : Int) := by rw [hrs]; exact IntWalk.i64_in _ ⟨by omega, by omega⟩
          have HSe : Hid _ := hseen
          clear hseen hrs
          go_wp2_with fail
          go_quiet ((first | (go_at_call 18; exact Calls.quiet_of_same (HSe.out.len _)) | (go_at_call 19; exact Calls.quiet_of_same (HSe.out.bytes _)) | (go_at_call 27; exact Calls.quiet_of_same (HSe.out.left _))))
          go_wp2
          go_roundw
          case rel => exact ⟨k + 1, r2, s4, _, by omega, by go_num, HF.out.drew⟩
          case measure => simp [intOf]; omega
    · go_wp2
      go_ret
      exact ⟨rfl, HS.out.bel⟩

end Go.Proofs.Ytnhmabhcegiekaa.Pk
