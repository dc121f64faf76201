/-
  The texts BlockDecodeWalk.
-/
import Derived.Test.YtedjohkdfchocaaGreatQBlockDecode

/-
  Package block: what Decode answers, for every text.
-/
namespace Go.Proofs.YtedjohkdfchocaaGreat.Bk
open Go.RowKit Cm Mm
open Pk (WrAt RdAt Step enc enc_len fold text dnum dnum_some)
set_option linter.unusedVariables false

theorem rs_first {w X : World} {q b : Nat} {s s' : ByteArray} {base : Nat} (hX : X.heap[q]? = some (brObj b (.slice none 0 0) (.slice none 0 0))) (hr : RdAt X b s) (hB : Below base w X) : RS w base q b s [] (.slice none 0 0) (.slice none 0 0) X :=
  ⟨hX, World.ownsRow_nil _ _ _ _, World.ownsRow_nil _ _ _ _, hr, hB⟩
set_option maxRecDepth 100000 in
set_option maxHeartbeats 2000000 in
theorem decode_any (T : ByteArray) (w : World) (hT : T.size ≤ 1000000000) :
    Calls Tryz.prog 58 #[.string T] w fun e w' => DecAns w (bs T) e w' := by
  have hTl : (bs T).length ≤ 1000000000 := by rw [bs_len]; exact hT
  go_enter Tryz.func58, Tryz.ntmps58
  go_wp2_with fail
  refine (Pk.read_any T _).mono ?_
  rintro e w1 ⟨rfl, rfl⟩
  obtain ⟨w2, hw2⟩ : ∃ w2, w2 = (w.alloc (.cells #[.string T] 136)).alloc (.cells #[.pointer (some ⟨w.heap.size, 0, none⟩), .slice none 0 0, .slice none 0 0] 142) := ⟨_, rfl⟩
  have hR2 : RS w w.heap.size (w.heap.size + 1) w.heap.size T [] (.slice none 0 0) (.slice none 0 0) w2 := by
    rw [hw2]
    refine rs_first (s' := T) ?_ ((Pk.read_at w T).alloc _) (((Below.refl _ _).alloc (Nat.le_refl _) _).alloc (by simp) _)
    have := heap_alloc_new (w.alloc (.cells #[.string T] 136)) (brObj w.heap.size (.slice none 0 0) (.slice none 0 0))
    simpa [brObj] using this
  have HR2 : Hid _ := hR2
  clear hR2
  go_wp2_with fail
  rw [← hw2]
  clear hw2
  refine (num_ans _ T _ HR2.out.rd (by omega)).mono ?_
  rintro e w3 (⟨n, s3, hn, hl3, rfl, hr3, hs3⟩ | ⟨hno, rfl, ⟨s3, hr3, hz3⟩, hs3⟩)
  · have HR3 : Hid _ := HR2.out.step hs3 hr3 HR2.out.size (Nat.le_refl _)
    have HK3 : Hid _ := Known.start hl3 hn
    clear hs3 hr3 hl3 HR2
    go_wp2
    go_loopw [25] (fun i wr => ∃ (k : Nat) (s : ByteArray) (es : List En) (v1 v2 : Value), i = .int .u64 k ∧ k ≤ n ∧ Hid (es.length = k) ∧ Hid (RS w w.heap.size (w.heap.size + 1) w.heap.size s es v1 v2 wr) ∧ Hid (Known (bs T) n es (bs s))) (fun i _ => n - (intOf i).toNat)
    case atStart => exact ⟨0, s3, [], _, _, rfl, by omega, hid_rfl, HR3, HK3⟩
    case round =>
      obtain ⟨k, s, es, v1, v2, rfl, hkn, HL, HR, HK⟩ := hrel
      have hfew := HK.out.few
      have hkey := HK.out.key
      rw [bs_len] at hfew hkey
      by_cases hlt : k < n
      · have hlt' : (k : Int) < (n : Int) := by omega
        obtain ⟨a2, c2, rfl, hle2⟩ := row1 HR.out.own2
        have HV : Hid (VAns wr w.heap.size s (lastKey [] es).length = VAns wr w.heap.size s (lastKey [] es).length) := rfl
        have hv := rversion_ans (w.heap.size + 1) w.heap.size v1 a2 (lastKey [] es).length c2 s wr HR.out.hq HR.out.rd (by omega) (by omega)
        go_wp2_with fail
        refine hv.mono ?_
        rintro e w4 (⟨p, s4, hp, hl4, rfl, hr4, hs4⟩ | ⟨hno, rfl, ⟨s4, hr4, hz4⟩, hs4⟩)
        · have HR4 : Hid _ := HR.out.step hs4 hr4 HR.out.size (Nat.le_refl _)
          have HK4 : Hid (Known (bs T) n es (p.bytes ++ bs s4)) := by have := HK.out; rw [hl4] at this; exact this
          have hpl := Pc.len p
          have hsl := congrArg List.length hl4
          rw [List.length_append, bs_len] at hsl
          obtain ⟨w5, hw5⟩ : ∃ w5, w5 = w4.alloc (.cells #[.string p.rest, .int .i64 p.seq, .bool p.dead, .string p.val, .int .i64 p.share] 144) := ⟨_, rfl⟩
          have hB5 : Below w4.heap.size w4 w5 := by rw [hw5]; exact (Below.refl _ _).alloc (Nat.le_refl _) _
          have HR5 : Hid _ := HR4.out.below HR4.out.size hB5
          have HG5 : Hid (w5.heap[w4.heap.size]? = some (pcObj p)) := by rw [hw5]; exact heap_alloc_new w4 _
          have HF : Hid _ := fits_any w w.heap.size (w.heap.size + 1) w.heap.size s4 es v1 (.slice a2 (lastKey [] es).length c2) p w5 HR5.out hp.2 (by omega) (by omega) (by omega)
          have HKeep : Hid (fitsE es p = true → ∀ X, Below w5.heap.size w5 X → _) := fun hf X hX => keep_any w w.heap.size (w.heap.size + 1) w.heap.size s4 es v1 (.slice a2 (lastKey [] es).length c2) p X (HR5.out.below HR5.out.size hX) (Nat.le_refl _) (by omega) hp.2 (by omega) (by omega) (by omega) ((fitsE_iff hp.2).1 hf).1
          have HP : Hid _ := hp
          clear hv HV HR HK hl4 hr4 hs4 hpl hB5 HR4 hp
          unfold pcv at HF HKeep ⊢
          go_wp2_with fail
          rw [← hw5]
          clear hw5
          refine (show Calls _ _ _ _ _ from HF.out).mono ?_
          rintro e w6 ⟨rfl, hb6⟩
          have HR6 : Hid _ := HR5.out.below HR5.out.size hb6
          have hg6 : w6.heap[w4.heap.size]? = some (pcObj p) := (hb6.block _ (lt_of_block HG5.out)).trans HG5.out
          obtain ⟨d0, d1, d2, d3, d4, _⟩ := pc_cells hg6
          have HB6 : Hid _ := hb6
          clear hg6 hb6
          cases hf : fitsE es p
          · have HA : Hid (DecAns w (bs T) (.returned (.tuple #[.slice none 0 0, .int .i64 1])) w6) := DecAns.bad (next_led HK4.out.led (by rw [HL.out]; exact hlt) HP.out.1 HP.out.2 hf) HR6.out.bel
            clear HF HKeep HK4 HR5 HG5 HB6 HR6
            go_wp2
            go_ret2
            exact HA.out
          · have HKn : Hid _ := HK4.out.next (by rw [HL.out]; exact hlt) HP.out.1 HP.out.2 hf (by omega)
            have HKp : Hid _ := HKeep.out hf w6 HB6.out
            clear HF HKeep HK4 HR5 HG5 HB6 HR6
            go_wp2_with (go_at_call 84; refine (show Calls _ _ _ _ _ from HKp.out).mono ?_; rintro x w7 ⟨rfl, hv7⟩)
            obtain ⟨v1', v2', hv7⟩ := hv7
            go_roundw
            case rel => exact ⟨k + 1, s4, _, v1', v2', by go_num, by omega, by show _ = _; rw [List.length_append, HL.out]; rfl, hv7, HKn⟩
            case measure => simp [intOf]; omega
        · have HA : Hid (DecAns w (bs T) (.returned (.tuple #[.slice none 0 0, .int .i64 1])) (w4.alloc (.cells #[.string ⟨#[]⟩, .int .i64 0, .bool false, .string ⟨#[]⟩, .int .i64 0] 144))) := by
            have hb := (HR.out.step hs4 hr4 HR.out.size (Nat.le_refl _)).bel
            exact DecAns.bad (led_none HK.out.led (by rw [HL.out]; exact hlt) rfl hno) (hb.alloc hb.size _)
          clear hv HV HR HK hno hr4 hs4
          unfold pcv Pc.zero
          go_wp2
          go_ret2
          exact HA.out
      · obtain rfl : k = n := by omega
        obtain ⟨c0, c1, c2, _⟩ := br_cells HR.out.hq
        have hd := Pk.done_any _ s wr HR.out.rd
        by_cases hs : s.size = 0
        · have hse : bs s = [] := List.eq_nil_of_length_eq_zero (by rw [bs_len]; exact hs)
          have HI : Hid (IsBlock (bs T) es) := by have := HK.out; rw [hse] at this; exact this.done HL.out (by omega)
          obtain ⟨a1, n1, rfl, hle1, hel, _⟩ := own_pieces HR.out.own1
          have hw := whole_any a1 n1 es wr hel (by omega) (fun k => Nat.le_trans (HK.out.great k) (by omega))
          rw [decide_eq_true hs] at hd
          have HB : Hid _ := HR.out.bel
          clear HR HK hel hse hs
          go_wp2_with fail
          refine hd.mono ?_
          rintro e w5 ⟨rfl, rfl⟩
          go_wp2_with fail
          refine hw.mono ?_
          rintro e w6 ⟨v, rfl, ho, hb⟩
          have HA : Hid (DecAns w (bs T) (.returned (.tuple #[v, .int .i64 0])) w6) := DecAns.good HI.out ⟨ho.1, by
            rcases ho.2 with h | ⟨g, cap, cur, e, hB, h⟩
            · exact .inl h
            · exact .inr ⟨g, cap, cur, e, Nat.le_trans HB.out.size hB, h⟩⟩ (HB.out.trans (hb.mono HB.out.size))
          clear ho hb HI HB
          go_wp2
          go_ret2
          exact HA.out
        · have HA : Hid (DecAns w (bs T) (.returned (.tuple #[.slice none 0 0, .int .i64 1])) wr) := DecAns.bad (HK.out.more HL.out (fun e => hs (by rw [← bs_len, e]; rfl))) HR.out.bel
          rw [decide_eq_false hs] at hd
          clear HR HK hs
          go_wp2_with fail
          refine hd.mono ?_
          rintro e w5 ⟨rfl, rfl⟩
          go_wp2
          go_ret2
          exact HA.out
  · have HA : Hid (DecAns w (bs T) (.returned (.tuple #[.slice none 0 0, .int .i64 1])) w3) := DecAns.bad (fun es hb => hno _ _ (by have := hb.few; omega) hb.eq) (HR2.out.step hs3 hr3 HR2.out.size (Nat.le_refl _)).bel
    clear HR2 hno hr3 hs3
    go_wp2
    go_ret2
    exact HA.out
end Go.Proofs.YtedjohkdfchocaaGreat.Bk
