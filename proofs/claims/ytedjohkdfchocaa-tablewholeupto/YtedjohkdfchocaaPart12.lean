/-
  The texts BlockDecodeWalk, TableDecode, TableOpen, TableKit, TableSearch, joined.
-/
import Derived.Test.YtedjohkdfchocaaPart11
import Derived.Deep.RegionHeld3
import Derived.BigQuiet

/-
  Package block: what Decode answers, for every text.
-/
namespace Go.Proofs.Ytedjohkdfchocaa.Bk
open Go.RowKit Cm Mm
open Pk (WrAt RdAt Step enc enc_len fold text dnum dnum_some)
set_option linter.unusedVariables false

theorem rs_first {w X : World} {q b : Nat} {s s' : ByteArray} {base : Nat} (hX : X.heap[q]? = some (brObj b (.slice none 0 0) (.slice none 0 0))) (hr : RdAt X b s) (hB : Below base w X) : RS w base q b s [] (.slice none 0 0) (.slice none 0 0) X :=
  ⟨hX, World.ownsRow_nil _ _ _ _, World.ownsRow_nil _ _ _ _, hr, hB⟩
set_option maxRecDepth 100000 in
set_option maxHeartbeats 2000000 in
theorem decode_any (T : ByteArray) (w : World) (hT : T.size ≤ 1000000000) :
    Calls Try.prog 72 #[.string T] w fun e w' => DecAns w (bs T) e w' := by
  have hTl : (bs T).length ≤ 1000000000 := by rw [bs_len]; exact hT
  go_enter Try.func72, Try.ntmps72
  go_wp2_with fail
  refine (Pk.read_any T _).mono ?_
  rintro e w1 ⟨rfl, rfl⟩
  obtain ⟨w2, hw2⟩ : ∃ w2, w2 = (w.alloc (.cells #[.string T] 152)).alloc (.cells #[.pointer (some ⟨w.heap.size, 0, none⟩), .slice none 0 0, .slice none 0 0] 158) := ⟨_, rfl⟩
  have hR2 : RS w w.heap.size (w.heap.size + 1) w.heap.size T [] (.slice none 0 0) (.slice none 0 0) w2 := by
    rw [hw2]
    refine rs_first (s' := T) ?_ ((Pk.read_at w T).alloc _) (((Below.refl _ _).alloc (Nat.le_refl _) _).alloc (by simp) _)
    have := heap_alloc_new (w.alloc (.cells #[.string T] 152)) (brObj w.heap.size (.slice none 0 0) (.slice none 0 0))
    simpa [brObj] using this
  have HR2 : Hid _ := hR2
  clear hR2
  go_wp2_with fail
  rw [← hw2]
  clear hw2
  refine (num_ans _ T _ HR2.out.rd (by omega)).mono ?_
  rintro e w3 (⟨n, s3, hn, hl3, rfl, hr3, hs3⟩ | ⟨hno, rfl, ⟨s3, hr3, hz3⟩, hs3⟩)
  · have HR3 : Hid _ := HR2.out.step hs3 hr3 HR2.out.size (Nat.le_refl _)
    have HK3 : Hid _ := Known.start hl3 hn
    clear hs3 hr3 hl3 HR2
    go_wp2
    go_loopw [25] (fun i wr => ∃ (k : Nat) (s : ByteArray) (es : List En) (v1 v2 : Value), i = .int .u64 k ∧ k ≤ n ∧ Hid (es.length = k) ∧ Hid (RS w w.heap.size (w.heap.size + 1) w.heap.size s es v1 v2 wr) ∧ Hid (Known (bs T) n es (bs s))) (fun i _ => n - (intOf i).toNat)
    case atStart => exact ⟨0, s3, [], _, _, rfl, by omega, hid_rfl, HR3, HK3⟩
    case round =>
      obtain ⟨k, s, es, v1, v2, rfl, hkn, HL, HR, HK⟩ := hrel
      have hfew := HK.out.few
      have hkey := HK.out.key
      rw [bs_len] at hfew hkey
      by_cases hlt : k < n
      · have hlt' : (k : Int) < (n : Int) := by omega
        obtain ⟨a2, c2, rfl, hle2⟩ := row1 HR.out.own2
        have HV : Hid (VAns wr w.heap.size s (lastKey [] es).length = VAns wr w.heap.size s (lastKey [] es).length) := rfl
        have hv := rversion_ans (w.heap.size + 1) w.heap.size v1 a2 (lastKey [] es).length c2 s wr HR.out.hq HR.out.rd (by omega) (by omega)
        go_wp2_with fail
        refine hv.mono ?_
        rintro e w4 (⟨p, s4, hp, hl4, rfl, hr4, hs4⟩ | ⟨hno, rfl, ⟨s4, hr4, hz4⟩, hs4⟩)
        · have HR4 : Hid _ := HR.out.step hs4 hr4 HR.out.size (Nat.le_refl _)
          have HK4 : Hid (Known (bs T) n es (p.bytes ++ bs s4)) := by have := HK.out; rw [hl4] at this; exact this
          have hpl := Pc.len p
          have hsl := congrArg List.length hl4
          rw [List.length_append, bs_len] at hsl
          obtain ⟨w5, hw5⟩ : ∃ w5, w5 = w4.alloc (.cells #[.string p.rest, .int .i64 p.seq, .bool p.dead, .string p.val, .int .i64 p.share] 160) := ⟨_, rfl⟩
          have hB5 : Below w4.heap.size w4 w5 := by rw [hw5]; exact (Below.refl _ _).alloc (Nat.le_refl _) _
          have HR5 : Hid _ := HR4.out.below HR4.out.size hB5
          have HG5 : Hid (w5.heap[w4.heap.size]? = some (pcObj p)) := by rw [hw5]; exact heap_alloc_new w4 _
          have HF : Hid _ := fits_any w w.heap.size (w.heap.size + 1) w.heap.size s4 es v1 (.slice a2 (lastKey [] es).length c2) p w5 HR5.out hp.2 (by omega) (by omega) (by omega)
          have HKeep : Hid (fitsE es p = true → ∀ X, Below w5.heap.size w5 X → _) := fun hf X hX => keep_any w w.heap.size (w.heap.size + 1) w.heap.size s4 es v1 (.slice a2 (lastKey [] es).length c2) p X (HR5.out.below HR5.out.size hX) (Nat.le_refl _) (by omega) hp.2 (by omega) (by omega) (by omega) ((fitsE_iff hp.2).1 hf).1
          have HP : Hid _ := hp
          clear hv HV HR HK hl4 hr4 hs4 hpl hB5 HR4 hp
          unfold pcv at HF HKeep ⊢
          go_wp2_with fail
          rw [← hw5]
          clear hw5
          refine (show Calls _ _ _ _ _ from HF.out).mono ?_
          rintro e w6 ⟨rfl, hb6⟩
          have HR6 : Hid _ := HR5.out.below HR5.out.size hb6
          have hg6 : w6.heap[w4.heap.size]? = some (pcObj p) := (hb6.block _ (lt_of_block HG5.out)).trans HG5.out
          obtain ⟨d0, d1, d2, d3, d4, _⟩ := pc_cells hg6
          have HB6 : Hid _ := hb6
          clear hg6 hb6
          cases hf : fitsE es p
          · have HA : Hid (DecAns w (bs T) (.returned (.tuple #[.slice none 0 0, .int .i64 1])) w6) := DecAns.bad (next_led HK4.out.led (by rw [HL.out]; exact hlt) HP.out.1 HP.out.2 hf) HR6.out.bel
            clear HF HKeep HK4 HR5 HG5 HB6 HR6
            go_wp2
            go_ret2
            exact HA.out
          · have HKn : Hid _ := HK4.out.next (by rw [HL.out]; exact hlt) HP.out.1 HP.out.2 hf (by omega)
            have HKp : Hid _ := HKeep.out hf w6 HB6.out
            clear HF HKeep HK4 HR5 HG5 HB6 HR6
            go_wp2_with (go_at_call 94; refine (show Calls _ _ _ _ _ from HKp.out).mono ?_; rintro x w7 ⟨rfl, hv7⟩)
            obtain ⟨v1', v2', hv7⟩ := hv7
            go_roundw
            case rel => exact ⟨k + 1, s4, _, v1', v2', by go_num, by omega, by show _ = _; rw [List.length_append, HL.out]; rfl, hv7, HKn⟩
            case measure => simp [intOf]; omega
        · have HA : Hid (DecAns w (bs T) (.returned (.tuple #[.slice none 0 0, .int .i64 1])) (w4.alloc (.cells #[.string ⟨#[]⟩, .int .i64 0, .bool false, .string ⟨#[]⟩, .int .i64 0] 160))) := by
            have hb := (HR.out.step hs4 hr4 HR.out.size (Nat.le_refl _)).bel
            exact DecAns.bad (led_none HK.out.led (by rw [HL.out]; exact hlt) rfl hno) (hb.alloc hb.size _)
          clear hv HV HR HK hno hr4 hs4
          unfold pcv Pc.zero
          go_wp2
          go_ret2
          exact HA.out
      · obtain rfl : k = n := by omega
        obtain ⟨c0, c1, c2, _⟩ := br_cells HR.out.hq
        have hd := Pk.done_any _ s wr HR.out.rd
        by_cases hs : s.size = 0
        · have hse : bs s = [] := List.eq_nil_of_length_eq_zero (by rw [bs_len]; exact hs)
          have HI : Hid (IsBlock (bs T) es) := by have := HK.out; rw [hse] at this; exact this.done HL.out (by omega)
          obtain ⟨a1, n1, rfl, hle1, hel, _⟩ := own_pieces HR.out.own1
          have hw := whole_any a1 n1 es wr hel (by omega) (fun k => Nat.le_trans (HK.out.great k) (by omega))
          rw [decide_eq_true hs] at hd
          have HB : Hid _ := HR.out.bel
          clear HR HK hel hse hs
          go_wp2_with fail
          refine hd.mono ?_
          rintro e w5 ⟨rfl, rfl⟩
          go_wp2_with fail
          refine hw.mono ?_
          rintro e w6 ⟨v, rfl, ho, hb⟩
          have HA : Hid (DecAns w (bs T) (.returned (.tuple #[v, .int .i64 0])) w6) := DecAns.good HI.out ⟨ho.1, by
            rcases ho.2 with h | ⟨g, cap, cur, e, hB, h⟩
            · exact .inl h
            · exact .inr ⟨g, cap, cur, e, Nat.le_trans HB.out.size hB, h⟩⟩ (HB.out.trans (hb.mono HB.out.size))
          clear ho hb HI HB
          go_wp2
          go_ret2
          exact HA.out
        · have HA : Hid (DecAns w (bs T) (.returned (.tuple #[.slice none 0 0, .int .i64 1])) wr) := DecAns.bad (HK.out.more HL.out (fun e => hs (by rw [← bs_len, e]; rfl))) HR.out.bel
          rw [decide_eq_false hs] at hd
          clear HR HK hs
          go_wp2_with fail
          refine hd.mono ?_
          rintro e w5 ⟨rfl, rfl⟩
          go_wp2
          go_ret2
          exact HA.out
  · have HA : Hid (DecAns w (bs T) (.returned (.tuple #[.slice none 0 0, .int .i64 1])) w3) := DecAns.bad (fun es hb => hno _ _ (by have := hb.few; omega) hb.eq) (HR2.out.step hs3 hr3 HR2.out.size (Nat.le_refl _)).bel
    clear HR2 hno hr3 hs3
    go_wp2
    go_ret2
    exact HA.out
end Go.Proofs.Ytedjohkdfchocaa.Bk

/-
  Package table: 'decode' answers the versions of the blocks, one behind the other.
-/
namespace Go.Proofs.Ytedjohkdfchocaa.Tb
open Go.RowKit Cm Mm Bk
open Pk (dnum RdAt)
set_option linter.unusedVariables false

def TDecAns (w : World) (ps : List ByteArray) (e : Ending) (w' : World) : Prop :=
  ((∃ es v, Reads ps es ∧ e = .returned (.tuple #[v, .int .i64 0]) ∧ w'.ownsRow w.heap.size 44 4 v es.length (enShape.vals es)) ∨ ((∃ i, i < ps.length ∧ ∀ es, IsBlock (bs (ps.getD i ByteArray.empty)) es → 8 < es.length) ∧ e = .returned (.tuple #[.slice none 0 0, .int .i64 10]))) ∧ Below w.heap.size w w'
theorem TDecAns.bad {w w' : World} {ps : List ByteArray} {i : Nat} (hi : i < ps.length) (h : ∀ es, IsBlock (bs (ps.getD i ByteArray.empty)) es → 8 < es.length) (hb : Below w.heap.size w w') : TDecAns w ps (.returned (.tuple #[.slice none 0 0, .int .i64 10])) w' := ⟨.inr ⟨⟨i, hi, h⟩, rfl⟩, hb⟩
theorem take_text {ps : List ByteArray} {k : Nat} (h : k < ps.length) : ps.take (k + 1) = ps.take k ++ [ps.getD k ByteArray.empty] := by
  rw [List.take_succ_eq_append_getElem h, getD_lt _ _ _ h]
theorem text_cell {w : World} {ao : Option Addr} {ps : List ByteArray} (h : CellsAt w ao (strVals ps)) {k : Nat} (hk : k < ps.length) : ∃ b off, ao = some ⟨b, off, none⟩ ∧ w.cell? ⟨b, off + k, none⟩ = some (.string (ps.getD k ByteArray.empty)) := by
  rcases h with h | ⟨b, off, e, _, hc⟩
  · simp [strVals] at h; subst h; cases hk
  · refine ⟨b, off, e, ?_⟩
    rw [hc k (by simpa [strVals] using hk), getD_lt _ _ _ hk]
    simp [strVals, hk]
theorem grown_below {w X Y : World} {B n k : Nat} {e : TypeId} {v : Value} {vs : List Value} (hb : Below B w X) (hB : B ≤ w.heap.size) (hown : X.ownsRow B e k v n vs) (hg : X.grownBy Y v.ownBlock) : Below B w Y :=
  hb.grown hg (by have := hb.size; omega) (fun j hj => (hown.lt j hj).1)
set_option maxRecDepth 100000 in
set_option maxHeartbeats 1000000 in
theorem decode_any (bo : Option Addr) (ca : Nat) (ps : List ByteArray) (w : World) (hc : CellsAt w bo (strVals ps)) (hsm : ∀ p ∈ ps, p.size ≤ 65536) (hl : ps.length ≤ 1000000000) (ht : total ps ≤ 1000000000) :
    Calls Try.prog 41 #[.slice bo ps.length ca] w fun e w' => TDecAns w ps e w' := by
  obtain ⟨i0, hi, hz0, hz1, hz2⟩ := info_parts infoEn
  have HC : Hid (∀ X, Below w.heap.size w X → CellsAt X bo (strVals ps)) := fun X hX => hc.below hX
  have HSM : Hid (∀ k, k < ps.length → (ps.getD k ByteArray.empty).size ≤ 65536) := fun k hk => by rw [getD_lt _ _ _ hk]; exact hsm _ (List.getElem_mem hk)
  have HGR : Hid (∀ k es, k ≤ ps.length → Reads (ps.take k) es → es.length ≤ 1000000000) := fun k es hk h => by
    have h1 := (h.great (fun p hp => hsm p (List.mem_of_mem_take hp))).1
    have h2 := Fr.total_take ps k
    omega
  clear hc hsm
  go_enter Try.func41, Try.ntmps41
  go_wp2
  go_loopw [4, 12] (fun v i wr => ∃ (k : Nat) (es : List En), k ≤ ps.length ∧ i = .int .i64 k ∧ Hid (Reads (ps.take k) es) ∧ Hid (wr.ownsRow w.heap.size 44 4 v es.length (enShape.vals es)) ∧ Hid (Below w.heap.size w wr)) (fun _ i _ => ps.length - (intOf i).toNat)
  case atStart => exact ⟨0, [], by omega, rfl, (by show Reads _ _; exact rfl), World.ownsRow_nil _ _ _ _, Below.refl _ _⟩
  case round =>
    obtain ⟨k, es, hk, rfl, HR, HO, HB⟩ := hrel
    by_cases hlt : k < ps.length
    · obtain ⟨b, off, rfl, c0⟩ := text_cell (HC.out wr HB.out) hlt
      have hk0 : (0 : Int) ≤ (k : Int) := by omega
      have hk1 : (k : Int) < (ps.length : Int) := by omega
      have HS : Hid _ := HSM.out k hlt
      have HLB : Hid _ := HGR.out k es hk HR.out
      have HGN : Hid (∀ a, IsBlock (bs (ps.getD k ByteArray.empty)) a → Reads (ps.take (k + 1)) (es ++ a) ∧ (es ++ a).length ≤ 1000000000) := fun a ha => by
        have h := HR.out.snoc ha
        rw [← take_text hlt] at h
        exact ⟨h, HGR.out _ _ (by omega) h⟩
      have HBAD : Hid (∀ X, (∀ a, IsBlock (bs (ps.getD k ByteArray.empty)) a → 8 < a.length) → Below w.heap.size w X → TDecAns w ps (.returned (.tuple #[.slice none 0 0, .int .i64 10])) X) := fun X h hb => TDecAns.bad hlt h hb
      generalize ps.getD k ByteArray.empty = T at *
      obtain ⟨v, hv⟩ : ∃ v, v = u4 := ⟨_, rfl⟩
      clear HC HSM HGR HR
      have HRD : Hid _ := Pk.read_any T wr
      obtain ⟨X1, hX1⟩ : ∃ X1, X1 = wr.alloc (.cells #[.string T] 152) := ⟨_, rfl⟩
      have HX1 : Hid (Below wr.heap.size wr X1 ∧ RdAt X1 wr.heap.size T) := by rw [hX1]; exact ⟨(Below.refl _ _).alloc (Nat.le_refl _) _, Pk.read_at wr T⟩
      rw [← hX1] at HRD
      clear hX1
      go_wp2_with fail
      refine (show Calls _ _ _ _ _ from HRD.out).mono ?_
      rintro e X1' ⟨rfl, rfl⟩
      rcases hd : dnum T.data.toList with _ | ⟨n, m⟩
      · have HN : Hid _ := Pk.rNum_none wr.heap.size T X1' HX1.out.2 (by have := HS.out; unfold maxLen; omega) hd
        have HNO : Hid (∀ a, IsBlock (bs T) a → 8 < a.length) := fun a ha => absurd ha (Led.none hd a)
        clear hd HRD
        go_wp2_with fail
        refine (show Calls _ _ _ _ _ from HN.out).mono ?_
        rintro e X2 ⟨rfl, rfl⟩
        go_wp2
        go_ret2
        exact HBAD.out _ HNO.out (HB.out.trans (HX1.out.1.mono HB.out.size))
      · have HN : Hid _ := Pk.rNum_some wr.heap.size T X1' HX1.out.2 (by have := HS.out; unfold maxLen; omega) n m hd
        obtain ⟨X2, hX2⟩ : ∃ X2, X2 = X1'.setCell ⟨wr.heap.size, 0, none⟩ (.string (T.extract m T.size)) := ⟨_, rfl⟩
        have HX2 : Hid (Below wr.heap.size wr X2) := by rw [hX2]; exact HX1.out.1.setCell (p := ⟨wr.heap.size, 0, none⟩) (Nat.le_refl _) _
        have HNB : Hid (8 < n → ∀ a, IsBlock (bs T) a → 8 < a.length) := fun h a ha => by
          have h1 := ha.number
          have h2 : dnum (bs T) = some (n, m) := hd
          rw [h2] at h1
          cases h1
          exact h
        have hnl := (Pk.dnum_some hd).1
        rw [← hX2] at HN
        clear hd HRD hX2
        by_cases hn8 : 8 < n
        · have HNO : Hid _ := HNB.out hn8
          have hn8' : decide (8 < (n : Int)) = true := decide_eq_true (by omega)
          clear HNB
          go_wp2_with fail
          refine (show Calls _ _ _ _ _ from HN.out).mono ?_
          rintro e X2' ⟨rfl, rfl⟩
          go_wp2
          go_ret2
          exact HBAD.out _ HNO.out (HB.out.trans (HX2.out.mono HB.out.size))
        · have hn8' : decide (8 < (n : Int)) = false := decide_eq_false (by omega)
          have hn9 : ¬ (8 : Int) < (n : Int) := by omega
          clear HNB
          have HDE : Hid (∀ X, Calls Try.prog 72 #[.string T] X fun e w' => DecAns X (bs T) e w') := fun X => Bk.decode_any T X (by have := HS.out; omega)
          go_wp2_with fail
          refine (show Calls _ _ _ _ _ from HN.out).mono ?_
          rintro e X2' ⟨rfl, rfl⟩
          clear HN
          go_wp2_with fail
          refine (show Calls _ _ _ _ _ from HDE.out _).mono ?_
          rintro e X3 (⟨a, va, hI, rfl, hoa, hb3⟩ | ⟨hno, rfl, hb3⟩)
          · obtain ⟨ga, ca', rfl, hn1, _, _, hel⟩ := own_rows (F := enShape) (show X3.ownsRow _ _ enShape.sz _ _ _ from hoa)
            have hb13 : Below wr.heap.size wr X3 := HX2.out.trans (hb3.mono HX2.out.size)
            have ho3 : X3.ownsRow w.heap.size 44 enShape.sz u4 es.length (enShape.vals es) := rows_keep HO.out (fun j hj => hb13.block j (World.ownsRow.lt HO.out j hj).2)
            have hB3 : Below w.heap.size w X3 := HB.out.trans (hb13.mono HB.out.size)
            have HO3 : Hid _ := ho3
            have HB3 : Hid _ := hB3
            obtain ⟨hg1, hg2⟩ := HGN.out a hI
            have HG1 : Hid _ := hg1
            rw [List.length_append] at hg2
            have hs3 := hB3.size
            clear hI hoa hb3 hb13 hg1 HO HB HX1 HX2 HDE HGN HBAD ho3 hB3
            go_wp2_with (at_builtin; refine wpList_append_rows (F := enShape) _ rfl _ _ 23 rfl w.heap.size 44 i0 _ 48 Try.underlying23 hi hz0 hz1 hz2 rfl u4 es.length es rfl HO3.out ga a.length ca' a rfl hn1 rfl hel ?c1 ?c2 ?c3 ?_)
            case c1 => unfold maxLen; omega
            case c2 => omega
            case c3 => omega
            intro v4 X4 hown4 hgrow4 hat4
            have HO4 : Hid (X4.ownsRow w.heap.size 44 4 v4 (es ++ a).length (enShape.vals (es ++ a))) := by rw [List.length_append]; exact hown4
            have HB4 : Hid (Below w.heap.size w X4) := grown_below HB3.out (Nat.le_refl _) HO3.out hgrow4
            clear hown4 hgrow4 hat4 HO3 HB3 hel
            go_wp2
            go_roundw
            case rel => exact ⟨k + 1, es ++ a, by omega, by go_num, HG1, HO4, HB4⟩
            case measure => simp [intOf]; omega
          · have HNO : Hid (∀ a, IsBlock (bs T) a → 8 < a.length) := fun a ha => absurd ha (hno a)
            have HB3 : Hid (Below w.heap.size w X3) := HB.out.trans ((HX2.out.trans (hb3.mono HX2.out.size)).mono HB.out.size)
            clear hno hb3
            go_wp2
            go_ret2
            exact HBAD.out _ HNO.out HB3.out
    · obtain rfl : k = ps.length := by omega
      have HR' : Hid (Reads ps es) := by have := HR.out; rw [List.take_length] at this; exact this
      clear HR HC HSM HGR
      go_wp2
      go_ret2
      exact ⟨.inl ⟨es, _, HR'.out, rfl, HO.out⟩, HB.out⟩
end Go.Proofs.Ytedjohkdfchocaa.Tb

/-
  Package table: 'Open' answers the table of a text, or that it is none's.
-/
namespace Go.Proofs.Ytedjohkdfchocaa.Tb
open Go.RowKit Cm Mm Bk
open Fr (framesB str sealed strs)
set_option linter.unusedVariables false

def tbObj (v : Value) (f : ByteArray) : Obj := .cells #[v, .string f] 40 (0, 0)
/-- Block b is the table of these versions. -/
structure TabAt (w : World) (base b : Nat) (es : List En) (X : World) : Prop where
  row : ∃ v, X.heap[b]? = some (tbObj v (str (filt (keysE es)))) ∧ X.ownsRow base 44 4 v es.length (enShape.vals es)
  lo : base ≤ b
  bel : Below base w X
def OpenAns (w : World) (l : List UInt8) (e : Ending) (w' : World) : Prop :=
  ((∃ es b, IsTable l es ∧ Small es ∧ e = .returned (.tuple #[.pointer (some ⟨b, 0, none⟩), .int .i64 0]) ∧ TabAt w w.heap.size b es w') ∨ ((∀ es, ¬ IsTable l es) ∧ e = .returned (.tuple #[.pointer none, .int .i64 10]))) ∧ Below w.heap.size w w'
theorem Reads.small {ps : List ByteArray} {es : List En} (h : Reads ps es) (hs : ∀ p ∈ ps, p.size ≤ 65536) (ht : total ps ≤ 60000000) : Small es := by
  obtain ⟨h1, h2, h3⟩ := h.great hs
  refine ⟨by omega, by omega, fun k => ?_⟩
  by_cases hk : k < es.length
  · rw [getD_lt _ _ _ hk]
    have := h3 _ (List.getElem_mem hk)
    omega
  · rw [List.getD_eq_getElem?_getD, List.getElem?_eq_none (by omega)]
    exact ⟨Nat.zero_le _, Nat.zero_le _⟩
theorem fit_ok {es : List En} (h : ∀ e ∈ es, Fit e) : AllOk es := fun e he => (h e he).ok
theorem tableV_form (es : List En) : (∃ S, tableV es = .tuple #[.string S, .int .i64 0]) ∨ tableV es = .tuple #[.string ⟨#[]⟩, .int .i64 2] ∨ tableV es = .tuple #[.string ⟨#[]⟩, .int .i64 9] := by
  unfold tableV
  rcases Bool.eq_false_or_eq_true (right es) with hr | hr
  · rw [hr, if_pos rfl]
    by_cases hs : ∀ x ∈ tpays es, x.size ≤ 65536
    · rw [Fr.sealed_ok hs]; exact .inl ⟨_, rfl⟩
    · rw [Fr.sealed_long hs]; exact .inr (.inl rfl)
  · rw [hr]; exact .inr (.inr rfl)
theorem total_frames (ps : List (List UInt8)) : total (strs ps) + 8 * ps.length = (Fr.frames ps).length := by
  have h := Fr.framesB_len (strs ps)
  have h2 : framesB (strs ps) = Fr.frames ps := by
    unfold framesB strs Fr.frames
    rw [List.flatMap_map]
    rfl
  rw [h2] at h
  have h3 : (strs ps).length = ps.length := by simp [strs]
  omega
theorem texts_take {w : World} {ao : Option Addr} {xs : List ByteArray} (h : CellsAt w ao (strVals xs)) (k : Nat) : CellsAt w ao (strVals (xs.take k)) := by
  rcases h with h | ⟨b, off, e, hb, hc⟩
  · simp [strVals] at h; subst h; exact .inl (by simp [strVals])
  · refine .inr ⟨b, off, e, hb, fun j hj => ?_⟩
    have hj' : j < min k xs.length := by simpa [strVals] using hj
    rw [hc j (by simp [strVals]; omega)]
    simp [strVals, show j < k by omega]
theorem row_cap {w : World} {B n : Nat} {v : Value} {vs : List Value} (h : w.ownsRow B 9 1 v n vs) : ∃ ao cap, v = .slice ao n cap ∧ n ≤ cap ∧ CellsAt w ao vs := by
  obtain ⟨ao, cap, e, hc⟩ := Fr.own_cells h
  refine ⟨ao, cap, e, ?_, hc⟩
  rcases h.2 with ⟨hv, h0⟩ | ⟨g, cap', cur, hv, _, _, h1, _⟩
  · rw [e] at hv; cases hv; omega
  · rw [e] at hv; cases hv; exact h1
/-! ### No table's text -/
theorem no_end {l : List UInt8} {ps : List (List UInt8)} {n : Nat} (hU : Fr.Upto l ps n) (hf : Fr.first (l.drop n) = none) (h : n < l.length ∨ ps.length < 3) (es : List En) : ¬ IsTable l es := fun ht => by
  obtain ⟨h1, h2⟩ := ht.found hU hf
  have h3 := congrArg List.length h1
  rw [tpays_len] at h3
  have h4 : (strs ps).length = ps.length := by simp [strs]
  omega
theorem no_blocks {l : List UInt8} {ps : List (List UInt8)} {n i : Nat} (hU : Fr.Upto l ps n) (hf : Fr.first (l.drop n) = none) (hi : i < ((strs ps).take (ps.length - 3)).length) (h : ∀ es, IsBlock (bs (((strs ps).take (ps.length - 3)).getD i ByteArray.empty)) es → 8 < es.length) (es : List En) : ¬ IsTable l es := fun ht => by
  obtain ⟨h1, h2⟩ := ht.found hU hf
  have h4 : (strs ps).length = ps.length := by simp [strs]
  have h3 := ht.front h1
  rw [h4] at h3
  rw [h3] at hi h
  rw [pays_len] at hi
  rw [ht.at' hi] at h
  have := h (chunk es i) (ht.block i)
  rw [chunk_len] at this
  omega
theorem no_other {l : List UInt8} {ps : List (List UInt8)} {n : Nat} {es : List En} (hU : Fr.Upto l ps n) (hf : Fr.first (l.drop n) = none) (hr : Reads ((strs ps).take (ps.length - 3)) es) (h : tableV es ≠ .tuple #[.string (str l), .int .i64 0]) (es' : List En) : ¬ IsTable l es' := fun ht => by
  obtain ⟨h1, h2⟩ := ht.found hU hf
  have h4 : (strs ps).length = ps.length := by simp [strs]
  have h3 := ht.front h1
  rw [h4] at h3
  rw [h3] at hr
  have := hr.unique ht.readsAll
  subst this
  exact h ht.open
set_option maxRecDepth 100000 in
set_option maxHeartbeats 1000000 in
theorem open_any (T : ByteArray) (w : World) (hT : T.size ≤ 60000000) :
    Calls Try.prog 11 #[.string T] w fun e w' => OpenAns w (bs T) e w' := by
  have HSC : Hid _ := Fr.scan_any T w (by omega)
  go_enter Try.func11, Try.ntmps11
  go_wp2_with fail
  refine (show Calls _ _ _ _ _ from HSC.out).mono ?_
  rintro e w1 ⟨⟨v, n, ps, rfl, hU, hf, hown⟩, hb1⟩
  obtain ⟨po, pc, rfl, hpc, hcs⟩ := row_cap hown
  have hU' : Fr.Upto (bs T) ps n := hU
  have hnT := hU'.le
  rw [bs_len] at hnT
  have HB1 : Hid _ := hb1
  clear HSC hown hb1
  by_cases hend : n < T.size ∨ ps.length < 3
  · have HNO : Hid _ := no_end hU' hf (by rw [bs_len]; exact hend)
    clear hU hU' hf hcs
    by_cases h1 : n < T.size
    · have hg : decide ((n : Int) < (T.size : Int)) = true := decide_eq_true (by omega)
      have hg' : decide (n < T.size) = true := decide_eq_true h1
      clear hend
      go_wp2
      go_ret2
      exact ⟨.inr ⟨HNO.out, rfl⟩, HB1.out⟩
    · have hg : decide ((n : Int) < (T.size : Int)) = false := decide_eq_false (by omega)
      have hg' : decide (n < T.size) = false := decide_eq_false h1
      have hg2 : decide ((ps.length : Int) < 3) = true := decide_eq_true (by omega)
      have hg3 : decide (ps.length < 3) = true := decide_eq_true (by omega)
      clear hend
      go_wp2
      go_ret2
      exact ⟨.inr ⟨HNO.out, rfl⟩, HB1.out⟩
  · have hn : n = T.size := by omega
    subst hn
    have hp3 : 3 ≤ ps.length := by omega
    have hg : decide ((ps.length : Int) < 3) = false := decide_eq_false (by omega)
    have hg' : decide (ps.length < 3) = false := decide_eq_false (by omega)
    obtain ⟨k, hk⟩ : ∃ k, k + 3 = ps.length := ⟨ps.length - 3, by omega⟩
    have hk3 : ps.length - 3 = k := by omega
    have hwk : IntKind.i64.wrap ((ps.length : Int) - 3) = (k : Int) := wrap_nat (by omega) (by have := hU'.many; omega)
    have hsl : (strs ps).length = ps.length := by simp [strs]
    have htf := total_frames ps
    rw [← hU'.at_] at htf
    have htk := Fr.total_take (strs ps) k
    have hlk : ((strs ps).take k).length = k := by rw [List.length_take]; omega
    have hsm : ∀ p ∈ (strs ps).take k, p.size ≤ 65536 := fun p hp => by
      obtain ⟨q, hq, rfl⟩ := List.mem_map.1 (List.mem_of_mem_take hp)
      rw [Fr.str_size]
      exact hU'.small q hq
    have HDE : Hid _ := decode_any po pc ((strs ps).take k) w1 (texts_take hcs k) hsm (by omega) (by omega)
    rw [hlk] at HDE
    have HNB : Hid (∀ i, i < ((strs ps).take k).length → (∀ es, IsBlock (bs (((strs ps).take k).getD i ByteArray.empty)) es → 8 < es.length) → ∀ es, ¬ IsTable (bs T) es) := fun i hi h es => no_blocks hU' hf (by rw [hk3]; exact hi) (by rw [hk3]; exact h) es
    have HNE : Hid (∀ es, Reads ((strs ps).take k) es → tableV es ≠ .tuple #[.string T, .int .i64 0] → ∀ es', ¬ IsTable (bs T) es') := fun es hr h es' => no_other hU' hf (by rw [hk3]; exact hr) (by rw [show str (bs T) = T from str_back T]; exact h) es'
    have HSMA : Hid (∀ es, Reads ((strs ps).take k) es → Small es) := fun es hr => hr.small hsm (by omega)
    have HFI : Hid (∀ es, IsTable (bs T) es → (strs ps).getD (k + 1) ByteArray.empty = str (filt (keysE es))) := fun es ht => by
      have h1 := (ht.found hU' hf).1
      have := ht.filter h1
      rwa [hsl, hk3] at this
    have HCS : Hid (∀ X, Below w1.heap.size w1 X → ∃ b off, po = some ⟨b, off, none⟩ ∧ X.cell? ⟨b, off + (k + 1), none⟩ = some (.string ((strs ps).getD (k + 1) ByteArray.empty))) := fun X hX => text_cell (hcs.below hX) (by omega)
    have hk0 : (0 : Int) ≤ (k : Int) := by omega
    have hk1 : (k : Int) ≤ (pc : Int) := by omega
    have hk2 : (k : Int) + 1 < (ps.length : Int) := by omega
    have hkb : (k : Int) ≤ 1000000000 := by have := hU'.many; omega
    clear hU hU' hf hend hcs htf htk hlk hsm hsl hk3
    go_wp2_with fail
    refine (show Calls _ _ _ _ _ from HDE.out).mono ?_
    rintro e w2 ⟨⟨es, v2, hrd, rfl, hown2⟩ | ⟨⟨i, hi, hbad⟩, rfl⟩, hb2⟩
    · obtain ⟨ao, ca, rfl, hnil, _, hca, hel⟩ := own_rows (F := enShape) (show w2.ownsRow _ _ enShape.sz _ _ _ from hown2)
      have HSM : Hid _ := HSMA.out es hrd
      have HBU : Hid _ := build_any ao ca es w2 hel (fit_ok hrd.fit) hca HSM.out
      have HO2 : Hid _ := hown2
      have HB2 : Hid (Below w.heap.size w w2) := HB1.out.trans (hb2.mono HB1.out.size)
      have HB12 : Hid _ := hb2
      have HFT : Hid (tableV es = .tuple #[.string T, .int .i64 0] → IsTable (bs T) es) := fun h => table_of (l := bs T) hrd.fit h
      have HNO : Hid (tableV es ≠ .tuple #[.string T, .int .i64 0] → ∀ es', ¬ IsTable (bs T) es') := HNE.out es hrd
      clear hrd hown2 hb2 HDE HNB HNE HSMA hel
      go_wp2_with fail
      refine (show Calls _ _ _ _ _ from HBU.out).mono ?_
      rintro e w3 ⟨rfl, hb3⟩
      have HB3 : Hid (Below w.heap.size w w3) := HB2.out.trans (hb3.mono HB2.out.size)
      have HO3 : Hid (w3.ownsRow w.heap.size 44 4 (.slice ao es.length ca) es.length (enShape.vals es)) := by
        have h := rows_keep (show w2.ownsRow _ _ _ _ _ _ from HO2.out) (fun j hj => hb3.block j (World.ownsRow.lt HO2.out j hj).2)
        exact ⟨h.1, h.2.imp id (fun ⟨g, cap, cur, a, b, c⟩ => ⟨g, cap, cur, a, Nat.le_trans HB1.out.size b, c⟩)⟩
      have HC3 : Hid _ := HCS.out w3 (HB12.out.trans (hb3.mono HB12.out.size))
      clear hb3 HBU HO2 HB12 HCS
      by_cases hv : tableV es = .tuple #[.string T, .int .i64 0]
      · have HIT : Hid _ := HFT.out hv
        have HF := HFI.out es HIT.out
        obtain ⟨b, off, rfl, c1⟩ := HC3.out
        rw [HF] at c1
        rw [hv]
        have hSS : (T.toList == T.toList) = true := by simp
        clear hv HFT HNO HF HFI HC3
        have HTA : Hid (∀ X, X = w3.alloc (tbObj (.slice ao es.length ca) (str (filt (keysE es)))) → TabAt w w.heap.size w3.heap.size es X) := fun X hX => by
          subst hX
          exact ⟨⟨_, heap_alloc_new _ _, World.ownsRow.alloc HO3.out _⟩, HB3.out.size, HB3.out.alloc HB3.out.size _⟩
        unfold tbObj at HTA
        generalize str (filt (keysE es)) = F at *
        go_wp2
        go_ret2
        exact ⟨.inl ⟨es, _, HIT.out, HSM.out, rfl, HTA.out _ rfl⟩, HB3.out.alloc HB3.out.size _⟩
      · have HNT : Hid _ := HNO.out hv
        rcases tableV_form es with ⟨S, hS⟩ | hS | hS
        · have hne : (S.toList == T.toList) = false := by
            rw [beq_eq_false_iff_ne]
            intro e
            exact hv (by rw [hS, Mm.toList_inj e])
          rw [hS]
          clear hv hS HFT HNO HFI HC3
          go_wp2
          go_ret2
          exact ⟨.inr ⟨HNT.out, rfl⟩, HB3.out⟩
        · rw [hS]
          clear hv hS HFT HNO HFI HC3
          go_wp2
          go_ret2
          exact ⟨.inr ⟨HNT.out, rfl⟩, HB3.out⟩
        · rw [hS]
          clear hv hS HFT HNO HFI HC3
          go_wp2
          go_ret2
          exact ⟨.inr ⟨HNT.out, rfl⟩, HB3.out⟩
    · have HNT : Hid _ := HNB.out i hi hbad
      have HB2 : Hid (Below w.heap.size w w2) := HB1.out.trans (hb2.mono HB1.out.size)
      clear hbad hi hb2 HDE HNB HNE HSMA HFI HCS
      go_wp2
      go_ret2
      exact ⟨.inr ⟨HNT.out, rfl⟩, HB2.out⟩
end Go.Proofs.Ytedjohkdfchocaa.Tb

/-
  Tables of versions that are no more than what the statements are asked for: their text, and that they come back from it; no beginning of a table's text is one, and nothing with a byte behind it.
-/
namespace Go.Proofs.Ytedjohkdfchocaa.Tb
open Go.RowKit Cm Mm Bk
open Pk (enc enc_len text fold fold_lt)
open Fr (framesB str sealed)
set_option linter.unusedVariables false

theorem getD_bytes (es : List En) (k : Nat) : (es.getD k En.zero).key.size ≤ bytesE es ∧ (es.getD k En.zero).val.size ≤ bytesE es := by
  by_cases hk : k < es.length
  · rw [getD_lt _ _ _ hk]
    have := mem_bytes (List.getElem_mem hk)
    omega
  · rw [List.getD_eq_getElem?_getD, List.getElem?_eq_none (by omega)]
    exact ⟨Nat.zero_le _, Nat.zero_le _⟩
theorem small_of {es : List En} (h : es.length + bytesE es ≤ 1048576) : Small es :=
  ⟨by omega, by omega, fun k => by have := getD_bytes es k; omega⟩
theorem fit_of {es : List En} (hok : AllOk es) (h : es.length + bytesE es ≤ 1048576) (hr : right es = true) : ∀ e ∈ es, Fit e := fun e he => by
  have h1 := mem_bytes he
  refine ⟨hok e he, by omega, by omega, ?_⟩
  unfold right at hr
  rw [Bool.and_eq_true, List.all_eq_true] at hr
  exact hr.1 e he
theorem tableV_right {es : List En} {T : ByteArray} (h : tableV es = .tuple #[.string T, .int .i64 0]) : right es = true ∧ T = str (framesB (tpays es)) := by
  unfold tableV at h
  rcases Bool.eq_false_or_eq_true (right es) with hr | hr
  · rw [hr, if_pos rfl] at h
    by_cases hs : ∀ x ∈ tpays es, x.size ≤ 65536
    · rw [Fr.sealed_ok hs] at h
      exact ⟨hr, by simpa using h.symm⟩
    · rw [Fr.sealed_long hs] at h
      simp at h
  · rw [hr] at h
    simp at h
theorem built {es : List En} {T : ByteArray} (hok : AllOk es) (h : es.length + bytesE es ≤ 1048576) (ht : tableV es = .tuple #[.string T, .int .i64 0]) : IsTable (bs T) es ∧ T.size ≤ 59000000 := by
  obtain ⟨hr, hT⟩ := tableV_right ht
  refine ⟨table_of (l := bs T) (fit_of hok h hr) ht, ?_⟩
  rw [hT, Fr.str_size]
  unfold tpays
  rw [Fr.framesB_append, List.length_append]
  have h1 := index_len es (nch es) (Nat.le_refl _)
  have h2 := place_len es (nch es) (Nat.le_refl _)
  have h3 := bytes_take es (8 * nch es)
  have h6 : nch es ≤ (es.length + 7) / 8 := Nat.le_refl _
  have h7 := (enc_len (place es (nch es))).2
  have h8 := (enc_len es.length).2
  have h9 : (filt (keysE es)).length ≤ (10 * es.length + 7) / 8 := by
    rw [filt_len]
    have := ks_len es es.length
    unfold keysE Bl.len
    omega
  have h10 : (framesB (pays es)).length = place es (nch es) := rfl
  rw [h10, Fr.framesB_len]
  simp only [tailB, total, footer, List.length_cons, List.length_nil, List.map_cons, List.map_nil, List.sum_cons, List.sum_nil, Fr.str_size, List.length_append]
  omega
/-- Open answers the table that Build answered. -/
theorem open_built {w w' : World} {T : ByteArray} {es : List En} {e : Ending} (h : IsTable (bs T) es) (ha : OpenAns w (bs T) e w') : ∃ b, e = .returned (.tuple #[.pointer (some ⟨b, 0, none⟩), .int .i64 0]) ∧ TabAt w w.heap.size b es w' ∧ Small es := by
  rcases ha.1 with ⟨es', b, h1, h2, h3, h4⟩ | ⟨hno, _⟩
  · obtain rfl := h1.unique h
    exact ⟨b, h3, h4, h2⟩
  · exact absurd h (hno es)
theorem open_none {w w' : World} {l : List UInt8} {e : Ending} (h : ∀ es, ¬ IsTable l es) (ha : OpenAns w l e w') : e = .returned (.tuple #[.pointer none, .int .i64 10]) ∧ Below w.heap.size w w' := by
  rcases ha.1 with ⟨es', b, h1, _⟩ | ⟨_, h1⟩
  · exact absurd h1 (h es')
  · exact ⟨h1, ha.2⟩
/-! ### Cut off -/
theorem no_more {l : List UInt8} {es : List En} (h : IsTable l es) (c : UInt8) (es' : List En) : ¬ IsTable (l ++ [c]) es' := fun h' => by
  have h1 := Fr.scanned_datas (tpays es) h.small [c] (Fr.first_short (by simp))
  rw [← h.eq] at h1
  have := (h1.unique h'.scanned).2
  cases this
theorem enc_head {a : Nat} {t : List UInt8} {d : Bool} {v B : List UInt8} (ha : a < 18446744073709551616) (h : enc a ++ t = Bk.mark d v ++ B) : a ≤ 1 := by
  unfold Bk.mark at h
  cases d with
  | true =>
    have := (enc_free ha (b := 1) (u := B) (by omega) (by rw [h]; rfl)).1
    omega
  | false =>
    have := (enc_free ha (b := 0) (u := text v ++ B) (by omega) (by rw [h]; rfl)).1
    omega
theorem empty_last {a b : En} (h : less a b = true) (hb : bs b.key = []) : bs a.key = [] := by
  have hk : b.key = ⟨#[]⟩ := bs_inj (by rw [hb]; rfl)
  unfold less En.ahead at h
  by_cases he : a.key = b.key
  · rw [he, hb]
  · rw [if_neg he, hk, lt_bs] at h
    exact absurd h (List.not_lt_nil _)
theorem place_two {es : List En} (h : 0 < nch es) : 8 ≤ place es 1 := by
  unfold place
  rw [Fr.framesB_len]
  simp
/-- An index is no block of later versions. -/
theorem index_block {es es' : List En} {k : Nat} (hsm : Small es) (hs : Sorted es) (hok : ∀ e ∈ es, Fit e) (he : es' = es.take (8 * k)) (hk : k < nch es) (hn : nch es' = k) (h : index es' (nch es') = block (chunk es k)) : False := by
  have hp := chunk_pos hk
  have hcl := chunk_len es k
  have hfew := hsm.few
  obtain ⟨y, ys, hy⟩ : ∃ y ys, chunk es k = y :: ys := by
    cases hc : chunk es k with
    | nil => rw [hc] at hcl; simp at hcl; omega
    | cons y ys => exact ⟨y, ys, rfl⟩
  have hyf : Fit y := hok y (chunk_mem (k := k) (by rw [hy]; simp))
  have hyk : y = es.getD (8 * k) En.zero := by
    have h0 : (chunk es k).getD 0 En.zero = es.getD (8 * k + 0) En.zero := chunk_get (by omega)
    rw [hy] at h0
    simpa using h0
  have hb : block (chunk es k) = enc (chunk es k).length ++ (enc 0 ++ (text (bs y.key) ++ (enc (fold y.seq) ++ (Bk.mark y.dead (bs y.val) ++ body (bs y.key) ys)))) := by
    rw [hy]
    show enc (y :: ys).length ++ (Bk.piece [] y ++ body (bs y.key) ys) = _
    unfold Bk.piece pc Pc.bytes
    simp only [share_nil, List.drop_zero]
    rw [show bs (⟨(bs y.key).toArray⟩ : ByteArray) = bs y.key from bs_mk _]
    simp only [List.append_assoc]
  rw [hb] at h
  unfold index at h
  rw [hn] at h
  obtain ⟨hkc, h⟩ := enc_free (by omega) (by omega) h
  have hlen' : es'.length = 8 * k := by rw [he, List.length_take]; omega
  have hes' : ∀ j, j < 8 * k → less (es.getD j En.zero) y = true := fun j hj => by
    unfold Sorted at hs
    rw [List.pairwise_iff_getElem] at hs
    have := hs j (8 * k) (by omega) hp hj
    rw [hyk, getD_lt _ _ _ (show j < es.length by omega), getD_lt _ _ _ hp]
    exact this
  have hlast : ∀ i, i < k → lastK es' i = (es.getD (8 * i + 7) En.zero).key := fun i hi => by
    have h1 := chunk_len es' i
    unfold lastK
    rw [chunk_get (by omega), show (chunk es' i).length - 1 = 7 by omega, he]
    rw [List.getD_eq_getElem?_getD, List.getD_eq_getElem?_getD, List.getElem?_take, if_pos (by omega)]
  obtain ⟨k', hk'⟩ : ∃ k', k = k' + 1 := ⟨k - 1, by omega⟩
  have hsz : ∀ i, (lastK es' i).size < 18446744073709551616 := fun i => by
    have h1 := chunk_bytes es' i
    have h2 : bytesE es' ≤ bytesE es := by rw [he]; exact bytes_take _ _
    have h3 := hsm.all
    unfold lastK
    have := (getD_bytes (chunk es' i) ((chunk es' i).length - 1)).1
    omega
  have hp0 : place es' 0 = 0 := rfl
  have hrng : (List.range k).flatMap (fun i => text (bs (lastK es' i)) ++ enc (place es' i)) = (text (bs (lastK es' 0)) ++ enc 0) ++ (List.range k').flatMap (fun i => text (bs (lastK es' (i + 1))) ++ enc (place es' (i + 1))) := by
    rw [hk', List.range_succ_eq_map, List.flatMap_cons, hp0, List.flatMap_map]
  rw [hrng] at h
  unfold text at h
  simp only [List.append_assoc] at h
  obtain ⟨hz, h⟩ := enc_free (by rw [bs_len]; exact hsz 0) (by omega) h
  have hl0 : bs (lastK es' 0) = [] := List.eq_nil_of_length_eq_zero hz
  rw [hl0, List.nil_append] at h
  obtain ⟨hz2, h⟩ := enc_free (by omega) (by rw [bs_len]; have := hyf.key; omega) h
  have hyn : bs y.key = [] := List.eq_nil_of_length_eq_zero hz2.symm
  rw [hyn, List.nil_append] at h
  cases k' with
  | zero =>
    have := congrArg List.length h
    have h1 := (enc_len (fold y.seq)).1
    simp at this
    omega
  | succ k'' =>
    rw [List.range_succ_eq_map, List.flatMap_cons] at h
    have h1 : bs (lastK es' (0 + 1)) = [] := by
      rw [hlast (0 + 1) (by omega)]
      exact empty_last (hes' (8 * (0 + 1) + 7) (by omega)) hyn
    rw [h1] at h
    simp only [List.append_assoc, List.length_nil, List.nil_append] at h
    have hfo := fold_lt hyf.ok.1 hyf.ok.2
    obtain ⟨_, h⟩ := enc_free (by omega) hfo h
    have hpl := place_len es' (0 + 1) (by omega)
    have hpb := bytes_take es' (8 * (0 + 1))
    have h2 : bytesE es' ≤ bytesE es := by rw [he]; exact bytes_take _ _
    have h3 := hsm.all
    have := enc_head (by omega) h
    have hpt : 8 ≤ place es' (0 + 1) := place_two (es := es') (by omega)
    omega
theorem no_begin {l : List UInt8} {es : List En} (h : IsTable l es) (hsm : Small es) {j : Nat} (hj : j < l.length) (es' : List En) : ¬ IsTable (l.take j) es' := fun h' => by
  obtain ⟨i, r, hi, e, hr⟩ := Fr.framesB_cut (tpays es) h.small j
  have e1 : l.take j = framesB ((tpays es).take i) ++ r := by rw [h.eq]; exact e
  have h1 := Fr.scanned_datas ((tpays es).take i) (fun x hx => h.small x (List.mem_of_mem_take hx)) r hr
  rw [← e1] at h1
  obtain ⟨e2, e3⟩ := h1.unique h'.scanned
  have e4 : tpays es' = (tpays es).take i := by rw [← Fr.strs_datas (tpays es'), ← e2, Fr.strs_datas]
  have hil : i < (tpays es).length := by
    rcases Nat.lt_or_ge i (tpays es).length with h2 | h2
    · exact h2
    · exfalso
      rw [List.take_of_length_le h2, e3, List.append_nil, ← h.eq] at e1
      have := congrArg List.length e1
      rw [List.length_take] at this
      omega
  have hl := congrArg List.length e4
  rw [List.length_take, tpays_len] at hl
  rw [tpays_len] at hil hl
  obtain ⟨k, hk⟩ : ∃ k, k = nch es' := ⟨_, rfl⟩
  have hik : i = k + 3 := by omega
  have hkn : k < nch es := by omega
  have hpay : pays es' = (pays es).take k := by
    have h2 := congrArg (List.take k) e4
    unfold tpays at h2
    rw [List.take_left' (by rw [pays_len, hk]), List.take_take, List.take_append_of_le_length (by rw [pays_len]; omega)] at h2
    rw [h2, Nat.min_eq_left (by omega)]
  have hidx : str (index es' (nch es')) = blk es k := by
    have h2 : (tpays es')[k]? = ((tpays es).take i)[k]? := by rw [e4]
    unfold tpays at h2
    rw [List.getElem?_append_right (by rw [pays_len]; omega), pays_len, ← hk, Nat.sub_self, List.getElem?_take, if_pos (by omega), List.getElem?_append_left (by rw [pays_len]; exact hkn)] at h2
    unfold pays at h2
    rw [List.getElem?_map, List.getElem?_range hkn] at h2
    simpa [tailB, hk] using h2
  have hes : es' = es.take (8 * k) := by
    have h2 := h'.readsAll
    rw [hpay, pays_take (by omega)] at h2
    exact h2.unique (h.reads k)
  have hib : index es' (nch es') = block (chunk es k) := by
    have := congrArg bs hidx
    exact this
  exact index_block hsm (right_sorted h.right) h.fit hes hkn hk.symm hib
end Go.Proofs.Ytedjohkdfchocaa.Tb

/-
  Package table: where a version of this key and number would stand ('place', by halving).
-/
namespace Go.Proofs.Ytedjohkdfchocaa.Tb
open Go.RowKit Cm Mm
set_option linter.unusedVariables false

theorem ahead_at {es : List En} (hs : Sorted es) (K : ByteArray) (s : Int) {m : Nat} (hm : m < es.length) : (es.getD m En.zero).ahead K s = decide (m < (pre es K s).length) := by
  have hp := pre_post es K s
  have hl : (pre es K s).length + (post es K s).length = es.length := by rw [← List.length_append, hp]
  by_cases h : m < (pre es K s).length
  · rw [decide_eq_true h]
    apply pre_ahead (vs := es)
    rw [getD_lt _ _ _ hm]
    have : es[m] = (pre es K s)[m] := by
      have e : (pre es K s ++ post es K s)[m]? = (pre es K s)[m]? := List.getElem?_append_left h
      rw [hp] at e
      rw [List.getElem?_eq_getElem hm, List.getElem?_eq_getElem h] at e
      exact Option.some.inj e
    rw [this]
    exact List.getElem_mem h
  · rw [decide_eq_false h]
    apply post_not (vs := es) hs
    rw [getD_lt _ _ _ hm]
    have h2 : m - (pre es K s).length < (post es K s).length := by omega
    have : es[m] = (post es K s)[m - (pre es K s).length] := by
      have e : (pre es K s ++ post es K s)[m]? = (post es K s)[m - (pre es K s).length]? := List.getElem?_append_right (by omega)
      rw [hp] at e
      rw [List.getElem?_eq_getElem hm, List.getElem?_eq_getElem h2] at e
      exact Option.some.inj e
    rw [this]
    exact List.getElem_mem h2
def PlaceAns (n : Nat) (e : Ending) : Prop := ∃ b, e = .returned (.tuple #[.int .i64 (n : Nat), .bool b])
/-- The box of what is looked for, beside the list. -/
structure Sought (w : World) (t : En) (X : World) : Prop where
  bel : Below w.heap.size w X
  box : X.heap[w.heap.size]? = some (entObj t)
theorem Sought.later {w X Y : World} {t : En} (h : Sought w t X) (hb : Below X.heap.size X Y) : Sought w t Y :=
  ⟨h.bel.trans (hb.mono h.bel.size), (hb.block _ (lt_of_block h.box)).trans h.box⟩
theorem Sought.new (w : World) (t : En) : Sought w t (w.alloc (entObj t)) := ⟨(Below.refl _ _).alloc (Nat.le_refl _) _, heap_alloc_new w _⟩

set_option maxRecDepth 100000 in
set_option maxHeartbeats 1000000 in
theorem search_any (ao : Option Addr) (ca : Nat) (es : List En) (K : ByteArray) (s : Int) (w : World) (hx : ElemsAt enShape w ao es) (hs : Sorted es) (hl : es.length ≤ 100000000000) :
    Calls Try.prog 73 #[.slice ao es.length ca, env ⟨K, s, false, ⟨#[]⟩⟩, .func (Fn.func 55) #[] #[]] w fun e w' => PlaceAns (pre es K s).length e ∧ Below w.heap.size w w' := by
  obtain ⟨t, ht⟩ : ∃ t : En, t = ⟨K, s, false, ⟨#[]⟩⟩ := ⟨_, rfl⟩
  obtain ⟨P, hP⟩ : ∃ P, P = (pre es K s).length := ⟨_, rfl⟩
  have HA : Hid (∀ m, m < es.length → decide (cE (es.getD m En.zero) t < 0) = decide (m < P)) := fun m hm => by
    rw [cE_lt, hP, ← ahead_at hs K s hm, ht]; rfl
  have hPl : P ≤ es.length := by
    rw [hP]
    have := congrArg List.length (pre_post es K s)
    rw [List.length_append] at this
    omega
  rw [← ht, ← hP]
  have HX : Hid (∀ wr, Below w.heap.size w wr → ElemsAt enShape wr ao es) := fun wr hb => hx.later hb
  have HN : Hid (Sought w t (w.alloc (entObj t))) := Sought.new w t
  clear hx hs ht hP
  unfold env entObj at *
  go_enter Try.func73, Try.ntmps73
  go_wp2
  go_loopw [9, 10] (fun i j wr => ∃ a b : Nat, a ≤ P ∧ P ≤ b ∧ b ≤ es.length ∧ i = .int .i64 a ∧ j = .int .i64 b ∧ Hid (Sought w t wr)) (fun i j _ => (intOf j).toNat - (intOf i).toNat)
  case atStart => exact ⟨0, es.length, by omega, by omega, by omega, rfl, rfl, HN⟩
  case round =>
    obtain ⟨a, b, h1, h2, h3, rfl, rfl, HS⟩ := hrel
    obtain ⟨t0, t1, t2, t3, _⟩ := ent_cells HS.out.box
    by_cases hlt : a < b
    · obtain ⟨m, hm⟩ : ∃ m, m = (a + b) / 2 := ⟨_, rfl⟩
      have hml : m < es.length := by omega
      obtain ⟨pb, off, rfl, c0, c1, c2, c3⟩ := elem_cells (HX.out wr HS.out.bel) hml
      have HD := HA.out m hml
      have HQ : Hid (∀ X, Below wr.drew.heap.size wr.drew X → Sought w t X) := fun X hX => HS.out.later ((Below.refl _ wr).drew.trans hX)
      have HE : Hid (∀ X, Below w.heap.size w X → ∃ pb' off', some (⟨pb, off, none⟩ : Addr) = some ⟨pb', off', none⟩ ∧ X.cell? ⟨pb', off' + m * 4, none⟩ = some (.string (es.getD m En.zero).key) ∧ X.cell? ⟨pb', off' + m * 4 + 1, none⟩ = some (.int .i64 (es.getD m En.zero).seq) ∧ X.cell? ⟨pb', off' + m * 4 + 2, none⟩ = some (.bool (es.getD m En.zero).dead) ∧ X.cell? ⟨pb', off' + m * 4 + 3, none⟩ = some (.string (es.getD m En.zero).val)) := fun X hX => elem_cells (HX.out X hX) hml
      have hmi : ((a : Int) + (b : Int)) / 2 = (m : Int) := by omega
      have hk0 : (0 : Int) ≤ (m : Int) := by omega
      have hk1 : (m : Int) < (es.length : Int) := by omega
      have HD' : Hid _ := HD
      have HM : Hid (m = (a + b) / 2) := hm
      have HMI : Hid _ := hmi
      clear HD hm HX HA HN hmi
      generalize es.getD m En.zero = y at *
      go_wp2_with fail
      rw [HMI.out]
      go_region_held3 (fun w' => w'.cell? ⟨w.heap.size, 0, none⟩ = some (.string t.key) ∧ w'.cell? ⟨w.heap.size, 1, none⟩ = some (.int .i64 t.seq) ∧ w'.cell? ⟨w.heap.size, 2, none⟩ = some (.bool t.dead) ∧ w'.cell? ⟨w.heap.size, 3, none⟩ = some (.string t.val) ∧ w'.cell? ⟨pb, off + m * 4, none⟩ = some (.string y.key) ∧ w'.cell? ⟨pb, off + m * 4 + 1, none⟩ = some (.int .i64 y.seq) ∧ w'.cell? ⟨pb, off + m * 4 + 2, none⟩ = some (.bool y.dead) ∧ w'.cell? ⟨pb, off + m * 4 + 3, none⟩ = some (.string y.val)) (first | exact ⟨t0, t1, t2, t3, c0, c1, c2, c3⟩ | exact ⟨m0, m1, m2, m3, d0, d1, d2, d3⟩)
        ((go_at_call 55; refine (cmpE_any y t _).mono ?_; rintro e w6 ⟨rfl, hb6⟩; have hq6 := HQ.out w6 hb6; obtain ⟨m0, m1, m2, m3, _⟩ := ent_cells hq6.box; obtain ⟨_, _, eq6, d0, d1, d2, d3⟩ := HE.out w6 hq6.bel; cases eq6))
      have HQ6 : Hid _ := hq6
      clear hq6 hb6 HQ HE t0 t1 t2 t3 c0 c1 c2 c3 m0 m1 m2 m3 d0 d1 d2 d3 HMI
      have HD2 := HD'.out
      generalize cE y t = c at *
      by_cases hmP : m < P
      · have hc : decide (c < 0) = true := by rw [HD2]; exact decide_eq_true hmP
        have hc' : c < 0 := of_decide_eq_true hc
        clear HD2 HD'
        go_wp2
        go_roundw
        case rel => exact ⟨m + 1, b, by omega, h2, h3, by go_num, rfl, HQ6⟩
        case measure => have := HM.out; simp [intOf]; omega
      · have hc : decide (c < 0) = false := by rw [HD2]; exact decide_eq_false hmP
        have hc' : ¬ c < 0 := of_decide_eq_false hc
        clear HD2 HD'
        go_wp2
        go_roundw
        case rel => exact ⟨a, m, h1, by omega, by omega, rfl, rfl, HQ6⟩
        case measure => have := HM.out; simp [intOf]; omega
    · obtain rfl : a = P := by omega
      obtain rfl : b = a := by omega
      clear HA HN
      by_cases hb : b < es.length
      · obtain ⟨pb, off, rfl, c0, c1, c2, c3⟩ := elem_cells (HX.out wr HS.out.bel) hb
        have HQ : Hid (∀ X, Below wr.drew.heap.size wr.drew X → Sought w t X) := fun X hX => HS.out.later ((Below.refl _ wr).drew.trans hX)
        have HE : Hid (∀ X, Below w.heap.size w X → ∃ pb' off', some (⟨pb, off, none⟩ : Addr) = some ⟨pb', off', none⟩ ∧ X.cell? ⟨pb', off' + b * 4, none⟩ = some (.string (es.getD b En.zero).key) ∧ X.cell? ⟨pb', off' + b * 4 + 1, none⟩ = some (.int .i64 (es.getD b En.zero).seq) ∧ X.cell? ⟨pb', off' + b * 4 + 2, none⟩ = some (.bool (es.getD b En.zero).dead) ∧ X.cell? ⟨pb', off' + b * 4 + 3, none⟩ = some (.string (es.getD b En.zero).val)) := fun X hX => elem_cells (HX.out X hX) hb
        have hk0 : (0 : Int) ≤ (b : Int) := by omega
        have hk1 : (b : Int) < (es.length : Int) := by omega
        have hk2 : decide ((b : Int) < (es.length : Int)) = true := decide_eq_true hk1
        clear HX
        generalize es.getD b En.zero = y at *
        go_wp2_with fail
        go_region_held3 (fun w' => w'.cell? ⟨w.heap.size, 0, none⟩ = some (.string t.key) ∧ w'.cell? ⟨w.heap.size, 1, none⟩ = some (.int .i64 t.seq) ∧ w'.cell? ⟨w.heap.size, 2, none⟩ = some (.bool t.dead) ∧ w'.cell? ⟨w.heap.size, 3, none⟩ = some (.string t.val) ∧ w'.cell? ⟨pb, off + b * 4, none⟩ = some (.string y.key) ∧ w'.cell? ⟨pb, off + b * 4 + 1, none⟩ = some (.int .i64 y.seq) ∧ w'.cell? ⟨pb, off + b * 4 + 2, none⟩ = some (.bool y.dead) ∧ w'.cell? ⟨pb, off + b * 4 + 3, none⟩ = some (.string y.val)) (first | exact ⟨t0, t1, t2, t3, c0, c1, c2, c3⟩ | exact ⟨m0, m1, m2, m3, d0, d1, d2, d3⟩)
          ((go_at_call 55; refine (cmpE_any y t _).mono ?_; rintro e w6 ⟨rfl, hb6⟩; have hq6 := HQ.out w6 hb6; obtain ⟨m0, m1, m2, m3, _⟩ := ent_cells hq6.box; obtain ⟨_, _, eq6, d0, d1, d2, d3⟩ := HE.out w6 hq6.bel; cases eq6))
        go_wp2
        go_ret2
        exact ⟨⟨_, rfl⟩, hq6.bel⟩
      · have hk2 : decide ((b : Int) < (es.length : Int)) = false := decide_eq_false (by omega)
        have HB : Hid (Below w.heap.size w wr) := HS.out.bel
        clear HX HS
        go_wp2_with fail
        go_quiet (fail)
        go_wp2
        go_ret2
        exact ⟨⟨_, rfl⟩, ⟨HB.out.os, HB.out.tape, HB.out.output, HB.out.size, HB.out.block⟩⟩
end Go.Proofs.Ytedjohkdfchocaa.Tb
