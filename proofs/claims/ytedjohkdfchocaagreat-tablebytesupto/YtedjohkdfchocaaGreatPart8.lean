/-
  The texts BlockRefDec, BlockRefDecWalk.
-/
import Derived.Test.YtedjohkdfchocaaGreatQBlockRefRead

/-
  The document's answer for layer 8: what can't be a block, and how far Decode's loop has come.
-/
namespace Go.Proofs.YtedjohkdfchocaaGreat.Bk
open Go.RowKit Cm Mm
open Pk (RfAt Step enc enc_len fold text fold_lt)
set_option linter.unusedVariables false

/-! ### What can't be a block -/
section
variable {l : List UInt8} {n : Nat} {out : List En} {s s1 s2 s3 s4 : List UInt8} {m d : Nat} {R : ByteArray} {q : Int}
theorem led_piece (h : Led l n out s) (hn : out.length < n) {es' : List En} (hb : IsBlock l es') : ∃ (p : Pc) (t : List UInt8), p.Ok ∧ p.share ≤ (lastKey [] out).length ∧ s = enc p.share ++ (text (bs p.rest) ++ (enc (fold p.seq) ++ (mark p.dead (bs p.val) ++ t))) := by
  obtain ⟨e, more, _, h3, h4, _⟩ := h.more hn hb
  refine ⟨pc (lastKey [] out) e, body (bs e.key) more, pc_ok h4, (share_le _ _).1, ?_⟩
  rw [h3]
  unfold Pc.bytes
  simp only [List.append_assoc]
theorem no1 (h : Led l n out s) (hn : out.length < n) (hno : ∀ x t, x < 18446744073709551616 → s ≠ enc x ++ t) (es' : List En) : ¬ IsBlock l es' := fun hb => by
  obtain ⟨p, t, hp, _, e⟩ := led_piece h hn hb
  exact hno _ _ (by have := hp.share; omega) e
theorem cut1 (e1 : s = enc m ++ s1) (hm : m < 18446744073709551616) {p : Pc} {t : List UInt8} (hp : p.Ok) (e : s = enc p.share ++ t) : m = p.share ∧ s1 = t := by
  rw [e1] at e
  exact enc_free hm (by have := hp.share; omega) e
theorem no2 (h : Led l n out s) (hn : out.length < n) (e1 : s = enc m ++ s1) (hm : m < 18446744073709551616) (hno : ∀ x t, OkText x → s1 ≠ text (bs x) ++ t) (es' : List En) : ¬ IsBlock l es' := fun hb => by
  obtain ⟨p, t, hp, _, e⟩ := led_piece h hn hb
  obtain ⟨_, e⟩ := cut1 e1 hm hp e
  exact hno _ _ hp.rest e
theorem cut2 (e2 : s1 = text (bs R) ++ s2) (hR : OkText R) {p : Pc} {t : List UInt8} (hp : p.Ok) (e : s1 = text (bs p.rest) ++ t) : R = p.rest ∧ s2 = t := by
  rw [e2] at e
  obtain ⟨q1, q2⟩ := text_free (by rw [bs_len]; unfold OkText at hR; omega) (by rw [bs_len]; have := hp.rest; omega) e
  exact ⟨bs_inj q1, q2⟩
theorem no3 (h : Led l n out s) (hn : out.length < n) (e1 : s = enc m ++ s1) (hm : m < 18446744073709551616) (e2 : s1 = text (bs R) ++ s2) (hR : OkText R) (hno : ∀ x t, OkInt x → s2 ≠ enc (fold x) ++ t) (es' : List En) : ¬ IsBlock l es' := fun hb => by
  obtain ⟨p, t, hp, _, e⟩ := led_piece h hn hb
  obtain ⟨_, e⟩ := cut1 e1 hm hp e
  obtain ⟨_, e⟩ := cut2 e2 hR hp e
  exact hno _ _ ⟨hp.lo, hp.hi⟩ e
theorem cut3 (e3 : s2 = enc (fold q) ++ s3) (hq : OkInt q) {p : Pc} {t : List UInt8} (hp : p.Ok) (e : s2 = enc (fold p.seq) ++ t) : s3 = t := by
  rw [e3] at e
  exact (enc_free (fold_lt hq.1 hq.2) (fold_lt hp.lo hp.hi) e).2
theorem mark_num {p : Pc} (hp : p.Ok) (t : List UInt8) : ∃ x u, x ≤ 1 ∧ mark p.dead (bs p.val) ++ t = enc x ++ u ∧ (x = 0 → u = text (bs p.val) ++ t) := by
  cases hd : p.dead with
  | false => exact ⟨0, _, by omega, (enc_zero (bs p.val) t).symm, fun _ => rfl⟩
  | true =>
    have hv := hp.dead hd
    rw [hv]
    exact ⟨1, t, by omega, (enc_one t).symm, fun h => by omega⟩
theorem no4 (h : Led l n out s) (hn : out.length < n) (e1 : s = enc m ++ s1) (hm : m < 18446744073709551616) (e2 : s1 = text (bs R) ++ s2) (hR : OkText R) (e3 : s2 = enc (fold q) ++ s3) (hq : OkInt q) (hno : ∀ x t, x < 18446744073709551616 → s3 ≠ enc x ++ t) (es' : List En) : ¬ IsBlock l es' := fun hb => by
  obtain ⟨p, t, hp, _, e⟩ := led_piece h hn hb
  obtain ⟨_, e⟩ := cut1 e1 hm hp e
  obtain ⟨_, e⟩ := cut2 e2 hR hp e
  have e := cut3 e3 hq hp e
  obtain ⟨x, u, hx, e5, _⟩ := mark_num hp t
  rw [e5] at e
  exact hno x u (by omega) e
theorem no5 (h : Led l n out s) (hn : out.length < n) (e1 : s = enc m ++ s1) (hm : m < 18446744073709551616) (hs : (lastKey [] out).length < m) (es' : List En) : ¬ IsBlock l es' := fun hb => by
  obtain ⟨p, t, hp, hl, e⟩ := led_piece h hn hb
  obtain ⟨e, _⟩ := cut1 e1 hm hp e
  omega
theorem no6 (h : Led l n out s) (hn : out.length < n) (e1 : s = enc m ++ s1) (hm : m < 18446744073709551616) (e2 : s1 = text (bs R) ++ s2) (hR : OkText R) (e3 : s2 = enc (fold q) ++ s3) (hq : OkInt q) (e4 : s3 = enc d ++ s4) (hd : d < 18446744073709551616) (h2 : 1 < d) (es' : List En) : ¬ IsBlock l es' := fun hb => by
  obtain ⟨p, t, hp, _, e⟩ := led_piece h hn hb
  obtain ⟨_, e⟩ := cut1 e1 hm hp e
  obtain ⟨_, e⟩ := cut2 e2 hR hp e
  have e := cut3 e3 hq hp e
  obtain ⟨x, u, hx, e5, _⟩ := mark_num hp t
  rw [e5, e4] at e
  have := (enc_free hd (by omega) e).1
  omega
theorem no7 (h : Led l n out s) (hn : out.length < n) (e1 : s = enc m ++ s1) (hm : m < 18446744073709551616) (e2 : s1 = text (bs R) ++ s2) (hR : OkText R) (e3 : s2 = enc (fold q) ++ s3) (hq : OkInt q) (e4 : s3 = enc 0 ++ s4) (hno : ∀ x t, OkText x → s4 ≠ text (bs x) ++ t) (es' : List En) : ¬ IsBlock l es' := fun hb => by
  obtain ⟨p, t, hp, _, e⟩ := led_piece h hn hb
  obtain ⟨_, e⟩ := cut1 e1 hm hp e
  obtain ⟨_, e⟩ := cut2 e2 hR hp e
  have e := cut3 e3 hq hp e
  obtain ⟨x, u, hx, e5, e6⟩ := mark_num hp t
  rw [e5, e4] at e
  obtain ⟨e7, e8⟩ := enc_free (by omega) (by omega) e
  rw [e6 e7.symm] at e8
  exact hno _ _ hp.val e8
theorem led_dead (h : Led l n out s) (hn : out.length < n) (e1 : s = enc m ++ s1) (e2 : s1 = text (bs R) ++ s2) (hR : OkText R) (e3 : s2 = enc (fold q) ++ s3) (hq : OkInt q) (e4 : s3 = enc 1 ++ s4) (hm : m < 9223372036854775808) : Led l n (out ++ [glue (lastKey [] out) ⟨m, R, q, true, ⟨#[]⟩⟩]) s4 := by
  refine Led.next (p := ⟨m, R, q, true, ⟨#[]⟩⟩) ?_ hn ⟨hq.1, hq.2, hm, hR, (show (0 : Nat) < 9223372036854775808 by omega), fun _ => rfl⟩
  have : s = (⟨m, R, q, true, ⟨#[]⟩⟩ : Pc).bytes ++ s4 := by
    rw [e1, e2, e3, e4, enc_one]
    unfold Pc.bytes
    simp only [List.append_assoc]
    rfl
  rw [← this]; exact h
theorem led_live {V : ByteArray} {s5 : List UInt8} (h : Led l n out s) (hn : out.length < n) (e1 : s = enc m ++ s1) (e2 : s1 = text (bs R) ++ s2) (hR : OkText R) (e3 : s2 = enc (fold q) ++ s3) (hq : OkInt q) (e4 : s3 = enc 0 ++ s4) (e5 : s4 = text (bs V) ++ s5) (hV : OkText V) (hm : m < 9223372036854775808) : Led l n (out ++ [glue (lastKey [] out) ⟨m, R, q, false, V⟩]) s5 := by
  refine Led.next (p := ⟨m, R, q, false, V⟩) ?_ hn ⟨hq.1, hq.2, hm, hR, hV, fun h => by cases h⟩
  have : s = (⟨m, R, q, false, V⟩ : Pc).bytes ++ s5 := by
    rw [e1, e2, e3, e4, e5, enc_zero]
    unfold Pc.bytes
    simp only [List.append_assoc]
  rw [← this]; exact h
theorem lens (e1 : s = enc m ++ s1) (e2 : s1 = text (bs R) ++ s2) (e3 : s2 = enc (fold q) ++ s3) (e4 : s3 = enc d ++ s4) : 3 + R.size + s4.length ≤ s.length := by
  have h1 := (enc_len m).1
  have h2 := (enc_len (fold q)).1
  have h3 := (enc_len d).1
  have h4 := (enc_len (bs R).length).1
  rw [e1, e2, e3, e4]
  unfold text
  simp only [List.length_append, bs_len] at *
  omega
end

/-- How far the loop has come. -/
def Came (T : ByteArray) (n k b : Nat) (out : List En) (ev : Int) (X : World) : Prop :=
  (ev = 0 ∧ ∃ s, RfAt X b s ∧ out.length = k ∧ Led (bs T) n out (bs s) ∧ out.length + s.size ≤ T.size ∧ (lastKey [] out).length + s.size ≤ T.size) ∨ (ev = 1 ∧ ∀ es, ¬ IsBlock (bs T) es)
theorem glue_str (L R : ByteArray) (m : Nat) (q : Int) (d : Bool) (V : ByteArray) : (⟨L.extract 0 m ++ R, q, d, V⟩ : En) = glue (bs L) ⟨m, R, q, d, V⟩ := by
  unfold glue
  congr 1
  apply bs_inj
  rw [bs_mk]
  unfold bs
  rw [Go.Joins.data_append, Lib.extract_data]
  simp
end Go.Proofs.YtedjohkdfchocaaGreat.Bk

/-
  The document's answer for layer 8: what Decode answers, for every text.
-/
namespace Go.Proofs.YtedjohkdfchocaaGreat.Bk
open Go.RowKit Cm Mm
open Pk (RfAt Step enc enc_len fold text fold_lt)
set_option linter.unusedVariables false

set_option maxRecDepth 100000 in
set_option maxHeartbeats 1000000 in
theorem decodeR_any (T : ByteArray) (w : World) (hT : T.size ≤ 1048576) :
    Calls Tryz.prog 31 #[.string T] w fun e w' => DecAns w (bs T) e w' := by
  obtain ⟨i0, hi, hz0, hz1, hz2⟩ := info_parts infoEn
  have hTl : (bs T).length ≤ 1048576 := by rw [bs_len]; exact hT
  have HT0 : Hid (RfAt (w.alloc (.cells #[.string T] 108)) w.heap.size T) := heap_alloc_new w _
  have HB0 : Hid (Below w.heap.size w (w.alloc (.cells #[.string T] 108))) := (Below.refl _ _).alloc (Nat.le_refl _) _
  go_enter Tryz.func31, Tryz.ntmps31
  go_wp2_with fail
  refine (fnum_ans _ T _ HT0.out (by omega)).mono ?_
  intro e w1 hA
  have hB1 : ∀ h : Step w.heap.size (w.alloc (.cells #[.string T] 108)) none w1 none, Below w.heap.size w w1 := fun h => HB0.out.trans (h.below HB0.out.size (Nat.le_refl _) (fun k hk => by cases hk))
  obtain ⟨n, ev, rfl, HBe, HCe⟩ : ∃ (n : Nat) (ev : Int), e = .returned (.tuple #[.int .u64 (n : Nat), .int .i64 ev]) ∧ Hid (n < 18446744073709551616 ∧ Below w.heap.size w w1) ∧ Hid (Came T n 0 w.heap.size [] ev w1) := by
    rcases hA with ⟨n, s1, hn, hl, rfl, hr, hs⟩ | ⟨hno, rfl, _, hs⟩
    · refine ⟨n, 0, rfl, ⟨hn, hB1 hs⟩, .inl ⟨rfl, s1, hr, rfl, (Known.start hl hn).led, ?_, ?_⟩⟩
      · have := rest_len hl; rw [bs_len] at this; simpa using this
      · have := rest_len hl; rw [bs_len] at this; simpa [lastKey] using this
    · exact ⟨0, 1, rfl, ⟨by omega, hB1 hs⟩, .inr ⟨rfl, fun es hb => hno _ _ (by have := hb.few; omega) hb.eq⟩⟩
  have hn := HBe.out.1
  clear hA hB1 HT0 HB0
  go_wp2
  go_loopw [6, 7, 8, 9] (fun xv ov lv iv wr => ∃ (k : Nat) (out : List En) (x : Int), iv = .int .u64 k ∧ k ≤ n ∧ xv = .int .i64 x ∧ lv = .string ⟨(lastKey [] out).toArray⟩ ∧ Hid (wr.ownsRow w.heap.size 25 4 ov out.length (enShape.vals out)) ∧ Hid (Below w.heap.size w wr) ∧ Hid (Loose T.size out) ∧ Hid (Came T n k w.heap.size out x wr)) (fun _ _ _ i _ => n - (intOf i).toNat)
  case atStart => exact ⟨0, [], ev, rfl, by omega, rfl, rfl, World.ownsRow_nil _ _ _ _, HBe.out.2, ⟨by simp, fun e he => by simp at he, fun e he => by simp at he⟩, HCe⟩
  case round =>
    obtain ⟨k, out, x, rfl, hkn, rfl, rfl, HO, HB, HLoose, HC⟩ := hrel
    clear HCe HBe
    have hfew := HLoose.out.few
    rcases HC.out with ⟨rfl, s, hr0, hlen, hled, hz5, hz6⟩ | ⟨rfl, hno⟩
    · by_cases hlt : k < n
      · subst hlen
        have hlt' : (out.length : Int) < (n : Int) := by omega
        obtain ⟨L, hL⟩ : ∃ L : ByteArray, L = ⟨(lastKey [] out).toArray⟩ := ⟨_, rfl⟩
        have hLb : bs L = lastKey [] out := by rw [hL, bs_mk]
        rw [← hL]
        rw [← hLb, bs_len] at hz6
        have HLed : Hid _ := hled
        clear hL HC hled
        have HD0 : Hid (DS w w.heap.size wr.heap.size s En.zero u7 out (wr.alloc (entObj En.zero))) := ⟨(Below.heap_alloc _ _ _ hr0.lt).trans hr0, heap_alloc_new wr _, rows_keep HO.out (fun k hk => Below.heap_alloc _ _ _ (World.ownsRow.lt HO.out k hk).2), fun e => by have := (World.ownsRow.lt HO.out _ e).2; omega, HB.out.alloc HB.out.size _, Nat.le_refl _, HB.out.size⟩
        unfold entObj En.zero at HD0
        clear hr0 HO HB
        go_wp2_with fail
        refine (fnum_ans _ s _ HD0.out.rf (by omega)).mono ?_
        rintro e w1 (⟨m, s1, hm, e1, rfl, hr, hs⟩ | ⟨hno, rfl, ⟨s1, hr, hz⟩, hs⟩)
        · have HD1 : Hid _ := HD0.out.step hs hr
          have E1 : Hid _ := e1
          have z1 : s1.size ≤ s.size := by have := rest_len e1; rwa [bs_len] at this
          clear hs hr HD0 e1
          go_wp2_with fail
          refine (ftext_ans _ s1 _ HD1.out.rf (by omega)).mono ?_
          rintro e w2 (⟨R, s2, hR, e2, rfl, hr, hs⟩ | ⟨hno, rfl, ⟨s2, hr, hz⟩, hs⟩)
          · have HD2 : Hid _ := HD1.out.step hs hr
            have E2 : Hid _ := e2
            have z2 : s2.size ≤ s1.size := by have := rest_len e2; rwa [bs_len] at this
            clear hs hr HD1 e2
            go_wp2_with fail
            refine (fint_ans _ s2 _ HD2.out.rf (by omega)).mono ?_
            rintro e w3 (⟨q, s3, hq, e3, rfl, hr, hs⟩ | ⟨hno, rfl, ⟨s3, hr, hz⟩, hs⟩)
            · have HD3 : Hid _ := HD2.out.step hs hr
              have E3 : Hid _ := e3
              have z3 : s3.size ≤ s2.size := by have := rest_len e3; rwa [bs_len] at this
              clear hs hr HD2 e3
              go_wp2_with fail
              refine (fnum_ans _ s3 _ HD3.out.rf (by omega)).mono ?_
              rintro e w4 (⟨d, s4, hd, e4, rfl, hr, hs⟩ | ⟨hno, rfl, ⟨s4, hr, hz⟩, hs⟩)
              · have HD4 : Hid _ := HD3.out.step hs hr
                have E4 : Hid _ := e4
                have z4 : s4.size ≤ s3.size := by have := rest_len e4; rwa [bs_len] at this
                have hln := lens E1.out E2.out E3.out e4
                rw [bs_len, bs_len] at hln
                clear hs hr HD3 e4
                by_cases hml : m ≤ L.size
                · have g1 : decide ((L.size : Int) < (m : Int)) = false := by simp; omega
                  have g2 : decide (L.size < m) = false := by simp; omega
                  by_cases hd1 : d ≤ 1
                  · have g3 : decide ((1 : Int) < (d : Int)) = false := by simp; omega
                    have g4 : decide (1 < d) = false := by simp; omega
                    obtain ⟨c0, c1, c2, c3, cf⟩ := HD4.out.cells
                    simp only at c0 c1 c2 c3
                    have f0 := cf 0
                    have f1 := cf 1
                    have f2 := cf 2
                    have f3 := cf 3
                    have hs0 : (0 : Int) ≤ (m : Int) := by omega
                    have hs1 : (m : Int) ≤ (L.size : Int) := by omega
                    have hxs : (L.extract 0 m).size = m := by rw [ByteArray.size_extract]; omega
                    have hKs : (L.extract 0 m ++ R).size = m + R.size := by rw [← bs_len]; unfold bs; rw [Go.Joins.data_append, List.length_append]; show (bs (L.extract 0 m)).length + (bs R).length = _; rw [bs_len, bs_len, hxs]
                    have hKs2 : (L.extract 0 m ++ R).size ≤ T.size := by omega
                    clear cf
                    rcases (show d = 1 ∨ d = 0 by omega) with rfl | rfl
                    · have HD5 : Hid _ := HD4.out.set4 (L.extract 0 m ++ R) q true ⟨#[]⟩
                      have HLd : Hid _ := led_dead HLed.out (by omega) E1.out E2.out hR E3.out hq E4.out (by omega)
                      have HGl := glue_str L R m q true ⟨#[]⟩
                      rw [hLb] at HGl
                      rw [← HGl] at HLd
                      have HLo : Hid _ := HLoose.out.snoc (e := ⟨L.extract 0 m ++ R, q, true, ⟨#[]⟩⟩) (by omega) hKs2 (Nat.zero_le _) hq
                      clear HD4 HLed HLoose E1 E2 E3 E4 HGl
                      obtain ⟨d0, d1, d2, d3, _⟩ := HD5.out.cells
                      simp only at d0 d1 d2 d3
                      have hel := elems1 (w := (((w4.setCell ⟨wr.heap.size, 0, none⟩ (.string (L.extract 0 m ++ R))).setCell ⟨wr.heap.size, 1, none⟩ (.int .i64 q)).setCell ⟨wr.heap.size, 2, none⟩ (.bool true)).setCell ⟨wr.heap.size, 3, none⟩ (.string ⟨#[]⟩)) ⟨(L.extract 0 m ++ R), q, true, ⟨#[]⟩⟩
                      have hXs : ((((w4.setCell ⟨wr.heap.size, 0, none⟩ (.string (L.extract 0 m ++ R))).setCell ⟨wr.heap.size, 1, none⟩ (.int .i64 q)).setCell ⟨wr.heap.size, 2, none⟩ (.bool true)).setCell ⟨wr.heap.size, 3, none⟩ (.string ⟨#[]⟩)).heap.size = w4.heap.size := by simp [World.setCell]
                      rw [hXs] at hel
                      unfold entObj at hel
                      have HEl : Hid _ := hel
                      clear hel hXs
                      go_wp2_with (at_builtin; refine wpList_append_rows (F := enShape) _ rfl _ _ 22 rfl w.heap.size 25 i0 _ 48 Tryz.underlying22 hi hz0 hz1 hz2 rfl u7 out.length out rfl (World.ownsRow.alloc HD5.out.own _) (some ⟨w4.heap.size, 0, none⟩) 1 1 [(⟨(L.extract 0 m ++ R), q, true, ⟨#[]⟩⟩ : En)] rfl (by simp) rfl HEl.out ?a1 ?a2 ?a3 ?_)
                      case a1 => unfold maxLen; omega
                      case a2 => omega
                      case a3 => exact (HD5.out.bel.alloc HD5.out.bel.size _).size
                      intro v9 w9 hown9 hgrow9 hat9
                      obtain ⟨q1, q2, q3, q4⟩ := HD5.out.grow hown9 hgrow9
                      simp only at q4
                      have HQ1 : Hid _ := q1
                      have HQ2 : Hid _ := q2
                      have HQ3 : Hid _ := q3
                      clear q1 q2 q3 hown9 hgrow9 hat9 HEl HD5
                      go_wp2
                      go_roundw
                      case rel =>
                        refine ⟨out.length + 1, out ++ [(⟨(L.extract 0 m ++ R), q, true, ⟨#[]⟩⟩ : En)], _, by go_num, by omega, rfl, ?_, HQ1, HQ2, HLo, ?_⟩
                        · rw [lastKey_snoc]
                          exact congrArg Value.string (str_back (L.extract 0 m ++ R)).symm
                        · exact .inl ⟨rfl, s4, HQ3.out, by rw [List.length_append]; rfl, HLd.out, by rw [List.length_append]; simp; omega, by rw [lastKey_snoc, bs_len]; show (L.extract 0 m ++ R).size + _ ≤ _; omega⟩
                      case measure => simp [intOf]; omega
                    · have HD5 : Hid _ := HD4.out.set4 (L.extract 0 m ++ R) q false ⟨#[]⟩
                      clear HD4
                      obtain ⟨d0, d1, d2, d3, _⟩ := HD5.out.cells
                      simp only at d0 d1 d2 d3
                      go_wp2_with fail
                      refine (ftext_ans _ s4 _ HD5.out.rf (by omega)).mono ?_
                      rintro e w5 (⟨V, s5, hV, e5, rfl, hr, hs⟩ | ⟨hno, rfl, ⟨s5, hr, hz⟩, hs⟩)
                      · have HD6 : Hid _ := HD5.out.step hs hr
                        obtain ⟨b0, b1, b2, b3, bf⟩ := HD6.out.cells
                        have bf3 := bf 3
                        have HD7 : Hid _ := HD6.out.set3 V
                        simp only at b0 b1 b2 b3 HD7
                        have z5 : V.size + s5.size ≤ s4.size := by
                          have := congrArg List.length e5
                          unfold text at this
                          simp only [List.length_append, bs_len] at this
                          omega
                        have HLd : Hid _ := led_live HLed.out (by omega) E1.out E2.out hR E3.out hq E4.out e5 hV (by omega)
                        have HGl := glue_str L R m q false V
                        rw [hLb] at HGl
                        rw [← HGl] at HLd
                        have HLo : Hid _ := HLoose.out.snoc (e := ⟨(L.extract 0 m ++ R), q, false, V⟩) (by omega) hKs2 (show V.size ≤ T.size by omega) hq
                        clear HD5 HD6 HLed HLoose E1 E2 E3 E4 HGl hs hr e5 bf d0 d1 d2 d3
                        have hel := elems1 (w := w5.setCell ⟨wr.heap.size, 3, none⟩ (.string V)) ⟨(L.extract 0 m ++ R), q, false, V⟩
                        have hXs : (w5.setCell ⟨wr.heap.size, 3, none⟩ (.string V)).heap.size = w5.heap.size := by simp [World.setCell]
                        rw [hXs] at hel
                        unfold entObj at hel
                        have HEl : Hid _ := hel
                        clear hel hXs
                        go_wp2_with (at_builtin; refine wpList_append_rows (F := enShape) _ rfl _ _ 22 rfl w.heap.size 25 i0 _ 48 Tryz.underlying22 hi hz0 hz1 hz2 rfl u7 out.length out rfl (World.ownsRow.alloc HD7.out.own _) (some ⟨w5.heap.size, 0, none⟩) 1 1 [(⟨(L.extract 0 m ++ R), q, false, V⟩ : En)] rfl (by simp) rfl HEl.out ?b1 ?b2 ?b3 ?_)
                        case b1 => unfold maxLen; omega
                        case b2 => omega
                        case b3 => exact (HD7.out.bel.alloc HD7.out.bel.size _).size
                        intro v9 w9 hown9 hgrow9 hat9
                        obtain ⟨q1, q2, q3, q4⟩ := HD7.out.grow hown9 hgrow9
                        simp only at q4
                        have HQ1 : Hid _ := q1
                        have HQ2 : Hid _ := q2
                        have HQ3 : Hid _ := q3
                        clear q1 q2 q3 hown9 hgrow9 hat9 HEl HD7
                        go_wp2
                        go_roundw
                        case rel =>
                          refine ⟨out.length + 1, out ++ [(⟨(L.extract 0 m ++ R), q, false, V⟩ : En)], _, by go_num, by omega, rfl, ?_, HQ1, HQ2, HLo, ?_⟩
                          · rw [lastKey_snoc]
                            exact congrArg Value.string (str_back (L.extract 0 m ++ R)).symm
                          · exact .inl ⟨rfl, s5, HQ3.out, by rw [List.length_append]; rfl, HLd.out, by rw [List.length_append]; simp; omega, by rw [lastKey_snoc, bs_len]; show (L.extract 0 m ++ R).size + _ ≤ _; omega⟩
                        case measure => simp [intOf]; omega
                      · have HD6 : Hid _ := HD5.out.step hs hr
                        obtain ⟨b0, b1, b2, b3, bf⟩ := HD6.out.cells
                        have bf3 := bf 3
                        have HD7 : Hid _ := HD6.out.set3 ⟨#[]⟩
                        simp only at b0 b1 b2 b3 HD7
                        have HN : Hid (∀ es, ¬ IsBlock (bs T) es) := no7 HLed.out (by omega) E1.out hm E2.out hR E3.out hq E4.out hno
                        have HLo : Hid _ := HLoose.out.snoc (e := ⟨(L.extract 0 m ++ R), q, false, ⟨#[]⟩⟩) (by omega) hKs2 (Nat.zero_le _) hq
                        clear HD5 HD6 HLed HLoose E1 E2 E3 E4 hs hr hno hz bf d0 d1 d2 d3
                        have hel := elems1 (w := w5.setCell ⟨wr.heap.size, 3, none⟩ (.string ⟨#[]⟩)) ⟨(L.extract 0 m ++ R), q, false, ⟨#[]⟩⟩
                        have hXs : (w5.setCell ⟨wr.heap.size, 3, none⟩ (.string ⟨#[]⟩)).heap.size = w5.heap.size := by simp [World.setCell]
                        rw [hXs] at hel
                        unfold entObj at hel
                        have HEl : Hid _ := hel
                        clear hel hXs
                        go_wp2_with (at_builtin; refine wpList_append_rows (F := enShape) _ rfl _ _ 22 rfl w.heap.size 25 i0 _ 48 Tryz.underlying22 hi hz0 hz1 hz2 rfl u7 out.length out rfl (World.ownsRow.alloc HD7.out.own _) (some ⟨w5.heap.size, 0, none⟩) 1 1 [(⟨(L.extract 0 m ++ R), q, false, ⟨#[]⟩⟩ : En)] rfl (by simp) rfl HEl.out ?c1 ?c2 ?c3 ?_)
                        case c1 => unfold maxLen; omega
                        case c2 => omega
                        case c3 => exact (HD7.out.bel.alloc HD7.out.bel.size _).size
                        intro v9 w9 hown9 hgrow9 hat9
                        obtain ⟨q1, q2, q3, q4⟩ := HD7.out.grow hown9 hgrow9
                        simp only at q4
                        have HQ1 : Hid _ := q1
                        have HQ2 : Hid _ := q2
                        have HQ3 : Hid _ := q3
                        clear q1 q2 q3 hown9 hgrow9 hat9 HEl HD7
                        go_wp2
                        go_roundw
                        case rel =>
                          refine ⟨out.length + 1, out ++ [(⟨(L.extract 0 m ++ R), q, false, ⟨#[]⟩⟩ : En)], _, by go_num, by omega, rfl, ?_, HQ1, HQ2, HLo, ?_⟩
                          · rw [lastKey_snoc]
                            exact congrArg Value.string (str_back (L.extract 0 m ++ R)).symm
                          · exact .inr ⟨rfl, HN.out⟩
                        case measure => simp [intOf]; omega
                  · have g3 : decide ((1 : Int) < (d : Int)) = true := by simp; omega
                    have g4 : decide (1 < d) = true := by simp; omega
                    have HN : Hid (∀ es, ¬ IsBlock (bs T) es) := no6 HLed.out (by omega) E1.out hm E2.out hR E3.out hq E4.out hd (by omega)
                    clear E1 E2 E3 E4 HLed HLoose
                    go_wp2
                    go_ret2
                    exact DecAns.bad HN.out HD4.out.bel
                · have g1 : decide ((L.size : Int) < (m : Int)) = true := by simp; omega
                  have g2 : decide (L.size < m) = true := by simp; omega
                  have HN : Hid (∀ es, ¬ IsBlock (bs T) es) := no5 HLed.out (by omega) E1.out hm (by rw [← hLb, bs_len]; omega)
                  clear E1 E2 E3 E4 HLed HLoose
                  go_wp2
                  go_ret2
                  exact DecAns.bad HN.out HD4.out.bel
              · have HN : Hid (∀ es, ¬ IsBlock (bs T) es) := no4 HLed.out (by omega) E1.out hm E2.out hR E3.out hq hno
                have HDb : Hid _ := HD3.out.step hs hr
                rw [bs_len] at hz
                clear hno hs hr HD3 E1 E2 E3
                go_wp2
                go_ret2
                exact DecAns.bad HN.out HDb.out.bel
            · have HN : Hid (∀ es, ¬ IsBlock (bs T) es) := no3 HLed.out (by omega) E1.out hm E2.out hR hno
              have HDb : Hid _ := HD2.out.step hs hr
              rw [bs_len] at hz
              clear hno hs hr HD2 E1 E2
              go_wp2_with fail
              refine (wnum _ s3 _ HDb.out.rf (by omega)).mono ?_
              rintro e wz1 ⟨xz1, yz1, rfl, ⟨sz1, hrz1, hzz1⟩, hsz1⟩
              have HDz1 : Hid _ := HDb.out.step hsz1 hrz1
              clear hsz1 hrz1 HDb
              go_wp2
              go_ret2
              exact DecAns.bad HN.out HDz1.out.bel
          · have HN : Hid (∀ es, ¬ IsBlock (bs T) es) := no2 HLed.out (by omega) E1.out hm hno
            have HDb : Hid _ := HD1.out.step hs hr
            rw [bs_len] at hz
            clear hno hs hr HD1 E1
            go_wp2_with fail
            refine (wint _ s2 _ HDb.out.rf (by omega)).mono ?_
            rintro e wz2 ⟨xz2, yz2, rfl, ⟨sz2, hrz2, hzz2⟩, hsz2⟩
            have HDz2 : Hid _ := HDb.out.step hsz2 hrz2
            clear hsz2 hrz2 HDb
            go_wp2_with fail
            refine (wnum _ sz2 _ HDz2.out.rf (by omega)).mono ?_
            rintro e wz3 ⟨xz3, yz3, rfl, ⟨sz3, hrz3, hzz3⟩, hsz3⟩
            have HDz3 : Hid _ := HDz2.out.step hsz3 hrz3
            clear hsz3 hrz3 HDz2
            go_wp2
            go_ret2
            exact DecAns.bad HN.out HDz3.out.bel
        · have HN : Hid (∀ es, ¬ IsBlock (bs T) es) := no1 HLed.out (by omega) hno
          have HDb : Hid _ := HD0.out.step hs hr
          rw [bs_len] at hz
          clear hno hs hr HD0 
          go_wp2_with fail
          refine (wtext _ s1 _ HDb.out.rf (by omega)).mono ?_
          rintro e wz4 ⟨xz4, yz4, rfl, ⟨sz4, hrz4, hzz4⟩, hsz4⟩
          have HDz4 : Hid _ := HDb.out.step hsz4 hrz4
          clear hsz4 hrz4 HDb
          go_wp2_with fail
          refine (wint _ sz4 _ HDz4.out.rf (by omega)).mono ?_
          rintro e wz5 ⟨xz5, yz5, rfl, ⟨sz5, hrz5, hzz5⟩, hsz5⟩
          have HDz5 : Hid _ := HDz4.out.step hsz5 hrz5
          clear hsz5 hrz5 HDz4
          go_wp2_with fail
          refine (wnum _ sz5 _ HDz5.out.rf (by omega)).mono ?_
          rintro e wz6 ⟨xz6, yz6, rfl, ⟨sz6, hrz6, hzz6⟩, hsz6⟩
          have HDz6 : Hid _ := HDz5.out.step hsz6 hrz6
          clear hsz6 hrz6 HDz5
          go_wp2
          go_ret2
          exact DecAns.bad HN.out HDz6.out.bel
      · obtain rfl : k = n := by omega
        subst hlen
        obtain ⟨ao', c', rfl, _, _, _, hel⟩ := own_rows (F := enShape) (show World.ownsRow _ _ _ _ _ _ _ from HO.out)
        have hE := encodeR_any ao' c' out wr hel HLoose.out.ok (HLoose.out.sized hT)
        unfold encV at hE
        by_cases hg : right out = true ∧ block out = bs T
        · have HIs : Hid (IsBlock (bs T) out) := by
            refine ⟨hg.1, fun e he => ?_, by omega, hg.2.symm⟩
            have h1 := HLoose.out.each e he
            obtain ⟨i, hi', rfl⟩ := List.mem_iff_getElem.1 he
            have h3 := ((right_iff out).1 hg.1 i hi').1
            rw [getD_lt _ _ _ hi'] at h3
            exact ⟨HLoose.out.ok _ he, by omega, by omega, h3⟩
          rw [if_pos hg.1, hg.2, show (⟨(bs T).toArray⟩ : ByteArray) = T from str_back T] at hE
          have hTT : (T.toList == T.toList) = true := by simp
          clear hg hel HC hled hr0
          have HE : Hid _ := hE
          clear hE
          go_wp2_with fail
          refine (show Calls _ _ _ _ _ from HE.out).mono ?_
          rintro e w9 ⟨rfl, hb9⟩
          have HB9 : Hid (Below w.heap.size w w9) := HB.out.trans (hb9.mono HB.out.size)
          have HO9 : Hid (w9.ownsRow w.heap.size 25 4 (.slice ao' out.length c') out.length (enShape.vals out)) := rows_keep HO.out (fun k hk => hb9.block k (World.ownsRow.lt HO.out k hk).2)
          clear hb9 HE HO HB HLoose
          go_wp2
          go_ret2
          exact DecAns.good HIs.out HO9.out HB9.out
        · have HN : Hid (∀ es, ¬ IsBlock (bs T) es) := fun es hb => by
            obtain ⟨rfl, _⟩ := hled.stop rfl hb
            exact hg ⟨hb.right, hb.eq.symm⟩
          by_cases hrt : right out = true
          · rw [if_pos hrt] at hE
            have hne : (⟨(block out).toArray⟩ : ByteArray) ≠ T := fun e => hg ⟨hrt, by rw [← e, bs_mk]⟩
            have hbq := beq_toList ⟨(block out).toArray⟩ T
            rw [decide_eq_false hne] at hbq
            generalize (⟨(block out).toArray⟩ : ByteArray) = S at *
            clear hg hel HC hled hr0 hne hrt
            have HE : Hid _ := hE
            clear hE
            go_wp2_with fail
            refine (show Calls _ _ _ _ _ from HE.out).mono ?_
            rintro e w9 ⟨rfl, hb9⟩
            have HB9 : Hid (Below w.heap.size w w9) := HB.out.trans (hb9.mono HB.out.size)
            clear hb9 HE HO HB HLoose
            go_wp2
            go_ret2
            exact DecAns.bad HN.out HB9.out
          · rw [if_neg hrt] at hE
            clear hg hel HC hled hr0 hrt
            have HE : Hid _ := hE
            clear hE
            go_wp2_with fail
            refine (show Calls _ _ _ _ _ from HE.out).mono ?_
            rintro e w9 ⟨rfl, hb9⟩
            have HB9 : Hid (Below w.heap.size w w9) := HB.out.trans (hb9.mono HB.out.size)
            clear hb9 HE HO HB HLoose
            go_wp2
            go_ret2
            exact DecAns.bad HN.out HB9.out
    · have HN : Hid (∀ es, ¬ IsBlock (bs T) es) := hno
      obtain ⟨ao', c', rfl, _, _, _, hel⟩ := own_rows (F := enShape) (show World.ownsRow _ _ _ _ _ _ _ from HO.out)
      have hE := encodeR_any ao' c' out wr hel HLoose.out.ok (HLoose.out.sized hT)
      unfold encV at hE
      clear hel HC hno
      by_cases hlt : k < n
      · have g1 : decide ((k : Int) < (n : Int)) = true := by simp; omega
        by_cases hrt : right out = true
        · rw [if_pos hrt] at hE
          clear hrt
          have HE : Hid _ := hE
          clear hE
          go_wp2_with fail
          refine (show Calls _ _ _ _ _ from HE.out).mono ?_
          rintro e w9 ⟨rfl, hb9⟩
          have HB9 : Hid (Below w.heap.size w w9) := HB.out.trans (hb9.mono HB.out.size)
          clear hb9 HE HO HB HLoose
          go_wp2
          go_ret2
          exact DecAns.bad HN.out HB9.out
        · rw [if_neg hrt] at hE
          clear hrt
          have HE : Hid _ := hE
          clear hE
          go_wp2_with fail
          refine (show Calls _ _ _ _ _ from HE.out).mono ?_
          rintro e w9 ⟨rfl, hb9⟩
          have HB9 : Hid (Below w.heap.size w w9) := HB.out.trans (hb9.mono HB.out.size)
          clear hb9 HE HO HB HLoose
          go_wp2
          go_ret2
          exact DecAns.bad HN.out HB9.out
      · have g1 : decide ((k : Int) < (n : Int)) = false := by simp; omega
        by_cases hrt : right out = true
        · rw [if_pos hrt] at hE
          clear hrt
          have HE : Hid _ := hE
          clear hE
          go_wp2_with fail
          refine (show Calls _ _ _ _ _ from HE.out).mono ?_
          rintro e w9 ⟨rfl, hb9⟩
          have HB9 : Hid (Below w.heap.size w w9) := HB.out.trans (hb9.mono HB.out.size)
          clear hb9 HE HO HB HLoose
          go_wp2
          go_ret2
          exact DecAns.bad HN.out HB9.out
        · rw [if_neg hrt] at hE
          clear hrt
          have HE : Hid _ := hE
          clear hE
          go_wp2_with fail
          refine (show Calls _ _ _ _ _ from HE.out).mono ?_
          rintro e w9 ⟨rfl, hb9⟩
          have HB9 : Hid (Below w.heap.size w w9) := HB.out.trans (hb9.mono HB.out.size)
          clear hb9 HE HO HB HLoose
          go_wp2
          go_ret2
          exact DecAns.bad HN.out HB9.out
end Go.Proofs.YtedjohkdfchocaaGreat.Bk
