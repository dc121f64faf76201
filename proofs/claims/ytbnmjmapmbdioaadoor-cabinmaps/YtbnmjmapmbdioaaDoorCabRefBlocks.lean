/-
  The document's cabin: the blocks of a map.
-/
import Derived.Test.YtbnmjmapmbdioaaDoorCabBlocks
import Derived.Test.YtbnmjmapmbdioaaDoorCabRefSpots
namespace Go.Proofs.YtbnmjmapmbdioaaDoor.Cb
open Go.RowKit Cm
attribute [local go_sem ↓] Go.wp_at_zero Go.wp_at_succ
set_option linter.unusedVariables false

set_option maxRecDepth 100000 in
set_option maxHeartbeats 4000000 in
theorem blocksR_any (ao : Option Addr) (ca : Nat) (rows : List Rw) (w : World) (hx : ElemsAt rwShape w ao rows) (hok : ∀ r ∈ rows, r.ok) (hl : rows.length ≤ 4611686018427387904) :
    Calls Tryd.prog 13 #[.slice ao rows.length ca] w fun e w' => ∃ v, e = .returned v ∧ BlksAt w' w.heap.size v (blocksOf (spots rows)) ∧ Below w.heap.size w w' := by
  obtain ⟨i0, hi, hz0, hz1, hz2⟩ := info_parts infoBk
  obtain ⟨j0, gi, gz0, gz1, gz2⟩ := info_parts infoSe
  have HC : Hid _ := spotsR_any ao ca rows w hx hok hl
  have hch := ch_spots rows
  have hle := spots_le rows
  generalize spots rows = sps at *
  clear hx hok
  generalize rows.length = rl at *
  obtain ⟨m, hm⟩ : ∃ m, m = sps.length := ⟨_, rfl⟩
  have HM : Hid _ := hm
  have hm36 : m ≤ 36 := by omega
  have HCH : Hid _ := hch
  clear hm hch hle hl
  go_enter Tryd.func13, Tryd.ntmps13
  go_wp2_with fail
  refine (show Calls _ _ _ _ _ from HC.out).mono ?_
  rintro e w1 ⟨vS, rfl, hS, hb1⟩
  obtain ⟨aS, cS, rfl, _, haS, hleS, hxS⟩ := own_rows hS
  have HX : Hid (∀ X, Below w1.heap.size w1 X → ElemsAt spShape X aS sps) := fun X hX => hxS.later hX
  have HB1 : Hid (Below w.heap.size w w1) := hb1
  have hmS : sps.length = m := HM.out.symm
  rw [hmS] at hleS ⊢
  clear hmS hS haS hxS hb1 HC
  go_wp2_with fail
  go_loopw [3, 10] (fun vv vi wr => ∃ (i : Nat) (V : Value) (bs : List Bk), V = vv ∧ vi = .int .i64 i ∧ i ≤ m ∧ Hid (BlksAt wr w1.heap.size V bs) ∧ Hid (blocksOf sps = (sps.drop i).foldl step bs) ∧ Hid (∃ c u x, Ch bs.length c u x (sps.drop i)) ∧ bs.length ≤ i ∧ Hid (∀ q, (bs.getD q Bk.zero).seats.length ≤ i) ∧ Hid (Below w1.heap.size w1 wr)) (fun _ vi _ => m - (intOf vi).toNat)
  case atStart => exact ⟨0, _, [], rfl, rfl, by omega, BlksAt.none _ _, rfl, ⟨_, _, _, HCH.out⟩, by simp, fun q => by simp [Bk.zero], Below.refl _ _⟩
  case round =>
    obtain ⟨i, V, bs, rfl, rfl, him, HV, HF, HH, hbl, HLN, HB⟩ := hrel
    by_cases hlt : i < m
    · have hle : i < sps.length := by have := HM.out; omega
      have hlt' : (i : Int) < (m : Int) := by omega
      have hk0 : (0 : Int) ≤ (i : Int) := by omega
      obtain ⟨pb, off, rfl, hpb, k0, k1, k2, k3, k4, k5, k6⟩ := spot_cells (HX.out wr HB.out) hle
      have hf := HF.out
      have hh := HH.out
      rw [drop_sp _ _ hle] at hf hh
      rw [List.foldl_cons] at hf
      generalize sps.getD i Sp.zero = s at *
      clear HF HH
      obtain ⟨c, u, x, hc1, hc2, hc3⟩ := hh
      obtain ⟨num, ltr, cab, zone, blk, exit, bld⟩ := s
      simp only at hc1 hc2 hc3 k0 k1 k2 k3 k4 k5 k6
      have hws := HB.out.size
      have hbox : (wr.alloc (spObj ⟨num, ltr, cab, zone, blk, exit, bld⟩)).heap[wr.heap.size]? = some (spObj ⟨num, ltr, cab, zone, blk, exit, bld⟩) := heap_alloc_new wr _
      have hbX : Below wr.heap.size wr (wr.alloc (spObj ⟨num, ltr, cab, zone, blk, exit, bld⟩)) := (Below.refl _ _).alloc (Nat.le_refl _) _
      have HVX : Hid (BlksAt (wr.alloc (spObj ⟨num, ltr, cab, zone, blk, exit, bld⟩)) w1.heap.size V bs ∧ Below w1.heap.size w1 (wr.alloc (spObj ⟨num, ltr, cab, zone, blk, exit, bld⟩))) := ⟨HV.out.below hbX, HB.out.trans (hbX.mono hws)⟩
      replace hc1 := hc1.imp_right And.left
      rcases hc1 with hA | hA
      · subst hA
        have hst : opened bs ⟨num, ltr, cab, zone, (bs.length : Int), exit, bld⟩ = bs ++ [⟨cab, num, exit, []⟩] := opened_new rfl
        obtain ⟨aV, cV, rfl, _⟩ := HV.out.size_eq
        obtain ⟨xs, hxs⟩ := HVX.out.1
        obtain ⟨X1, hX1⟩ : ∃ X1, X1 = (wr.alloc (spObj ⟨num, ltr, cab, zone, bs.length, exit, bld⟩)).alloc (bvObj cab num exit) := ⟨_, rfl⟩
        have hb1X : Below (wr.alloc (spObj ⟨num, ltr, cab, zone, bs.length, exit, bld⟩)).heap.size (wr.alloc (spObj ⟨num, ltr, cab, zone, bs.length, exit, bld⟩)) X1 := by rw [hX1]; exact (Below.refl _ _).alloc (Nat.le_refl _) _
        have hxs1 : BlksX X1 w1.heap.size (.slice aV bs.length cV) xs bs := by
          obtain ⟨q1, q2, q3, q4⟩ := hxs
          exact ⟨q1, rows_keep q2 fun k q => hb1X.block _ (q2.lt k q).2, fun i hi => (q3 i hi).keep fun k q => hb1X.block _ ((q3 i hi).own.lt k q).2, q4⟩
        have hbox1 : X1.heap[wr.heap.size]? = some (spObj ⟨num, ltr, cab, zone, bs.length, exit, bld⟩) := (hb1X.block _ (lt_of_block hbox)).trans hbox
        have hsX : w1.heap.size ≤ X1.heap.size := Nat.le_trans (Nat.le_trans hws hbX.size) hb1X.size
        have hbw : Below w1.heap.size w1 X1 := HVX.out.2.trans (hb1X.mono (Nat.le_trans hws hbX.size))
        have HO : Hid (∀ g cap Y, Y.ownsRow w1.heap.size 43 4 (.slice (some ⟨g, 0, none⟩) (bs.length + 1) cap) (bs.length + 1) (bvShape.vals xs ++ bvShape.enc ⟨cab, num, exit, none, 0, 0⟩) → X1.grownBy Y (Value.slice aV bs.length cV).ownBlock → BlksAt Y w1.heap.size (.slice (some ⟨g, 0, none⟩) (bs.length + 1) cap) (bs ++ [⟨cab, num, exit, []⟩]) ∧ Y.heap[wr.heap.size]? = some (spObj ⟨num, ltr, cab, zone, bs.length, exit, bld⟩) ∧ Below w1.heap.size w1 Y ∧ w1.heap.size ≤ Y.heap.size) := fun g cap Y ho hg => open_step hxs1 hsX hbox1 hbw ho hg
        have HA1 : Hid (X1.ownsRow w1.heap.size 43 4 (.slice aV bs.length cV) bs.length (bvShape.vals xs)) := by have := hxs1.2.1; rw [hxs1.1] at this; exact this
        have HNA : Hid (∀ j u, (bvShape.enc ⟨cab, num, exit, none, 0, 0⟩)[j]? = some u → X1.cell? ((⟨wr.heap.size + 1, 0, none⟩ : Addr).add j) = some u) := by
          rw [hX1]
          have := World.news_of_block (heap_alloc_new (wr.alloc (spObj ⟨num, ltr, cab, zone, bs.length, exit, bld⟩)) (bvObj cab num exit))
          rw [World.size_alloc] at this
          exact this
        have HHX : Hid (X1.heap.size = wr.heap.size + 1 + 1) := by show _ = _; rw [hX1]; simp
        have h63a : bs.length + 1 ≤ maxLen := by unfold maxLen; omega
        have hbya : (bs.length + 1) * 48 ≤ 140737488355328 := by omega
        have HLo : Hid (∀ q, ((bs ++ [(⟨cab, num, exit, []⟩ : Bk)]).getD q Bk.zero).seats.length ≤ i) := fun q => by
          simp only [List.getD_eq_getElem?_getD, List.getElem?_append]
          split
          · have := HLN.out q; simpa [List.getD_eq_getElem?_getD] using this
          · rcases Nat.eq_zero_or_pos (q - bs.length) with e | e
            · rw [e]; simp
            · rw [List.getElem?_eq_none (by simp; omega)]; simp [Bk.zero]
        have HC2 : Hid (∃ c u x, Ch (bs ++ [(⟨cab, num, exit, []⟩ : Bk)]).length c u x (sps.drop (i + 1))) := by
          rw [if_pos rfl] at hc3
          refine ⟨cab, num, exit, ?_⟩
          rw [List.length_append]; exact hc3
        have hfb : bld = true → blocksOf sps = (sps.drop (i + 1)).foldl step (bs ++ [⟨cab, num, exit, []⟩]) := fun hb => by rw [hf, step_bld hb, hst]
        have hff : bld = false → blocksOf sps = (sps.drop (i + 1)).foldl step ((bs ++ [(⟨cab, num, exit, []⟩ : Bk)]).set bs.length (((bs ++ [(⟨cab, num, exit, []⟩ : Bk)]).getD bs.length Bk.zero).add (num, ltr))) := fun hb => by rw [hf, step_free hb rfl (by rw [hst]; simp), hst]; rfl
        have HFB : Hid _ := hfb
        have HFF : Hid _ := hff
        have hbe : (((bs.length : Nat) : Int) == ((bs.length : Nat) : Int)) = true := by simp
        clear hxs hxs1 hbox hbX hb1X hbox1 hbw hst hf hc2 hc3 hfb hff HV HVX HB HLN
        unfold spObj bvObj at hX1
        have HSX : Hid (w1.heap.size ≤ X1.heap.size) := hsX
        clear hsX
        cases bld
        · go_wp2_with (at_builtin; rw [← hX1]; refine wpList_append_lies _ (by rfl) (.tmp 19) (.tmp 28) 32 (by rfl) w1.heap.size 43 i0 (.agg #[.int .i64 0, .int .i64 0, .bool false, .slice none 0 0]) 4 48 Tryd.underlying32 hi hz0 hz1 hz2 rfl (by decide) (.slice aV bs.length cV) bs.length (bvShape.vals xs) (by rfl) HA1.out ⟨wr.heap.size + 1, 0, none⟩ 1 1 (bvShape.enc ⟨cab, num, exit, none, 0, 0⟩) (by rfl) rfl HNA.out (bvShape.one _) (by decide) h63a hbya HSX.out (wr.heap.size + 1 + 1) HHX.out ?_; intro g6 cap6 w6 hown6 hgrow6 hat6 hlt6; have hk6 := HO.out g6 cap6 w6 hown6 hgrow6; obtain ⟨d0, d1, d2, d3, d4, d5, d6⟩ := spo_cells hk6.2.1)
          obtain ⟨g, cap, ao, ca, hV2, hle2, c3, cf0, hown, hst⟩ := add_step (a := num) (b := ltr) (k := bs.length) hk6.1 (by simp) hk6.2.2.2 hk6.2.1 hk6.2.2.1
          have HOWN : Hid _ := hown
          have cf := cf0 (bs.length * 4 + 3)
          clear cf0 hown
          simp only [Value.slice.injEq, Option.some.injEq, Addr.mk.injEq, and_true, true_and, List.length_append, List.length_singleton] at hV2
          obtain ⟨rfl, rfl⟩ := hV2
          have hk2 : bs.length < (bs ++ [(⟨cab, num, exit, []⟩ : Bk)]).length := by simp
          have HF2 : Hid _ := (HFF.out (by trivial))
          have HL2 : Hid ((bs ++ [(⟨cab, num, exit, []⟩ : Bk)]).length ≤ i + 1) := by show _ ≤ _; simp; omega
          have HLZ : Hid _ := HLo.out
          have hz6 := hk6.2.2.2
          clear hk6 hown6 hgrow6 hat6 hlt6 d2 d3 d4 d5 d6 HFF HFB HO HA1 HNA HLo hX1 k0 k1 k2 k3 k4 k5 k6
          obtain ⟨N, hN⟩ : ∃ N, N = ((bs ++ [(⟨cab, num, exit, []⟩ : Bk)]).getD bs.length Bk.zero).seats.length := ⟨_, rfl⟩
          have hNi : N ≤ i := by rw [hN]; exact HLZ.out _
          obtain ⟨L, hL⟩ : ∃ L, L = seShape.vals ((bs ++ [(⟨cab, num, exit, []⟩ : Bk)]).getD bs.length Bk.zero).seats := ⟨_, rfl⟩
          obtain ⟨bs3, hbs3⟩ : ∃ bs3, bs3 = (bs ++ [(⟨cab, num, exit, []⟩ : Bk)]).set bs.length (((bs ++ [(⟨cab, num, exit, []⟩ : Bk)]).getD bs.length Bk.zero).add (num, ltr)) := ⟨_, rfl⟩
          rw [← hN, ← hL, ← hbs3] at hst
          rw [← hN] at c3
          rw [← hN, ← hL] at HOWN
          have HST : Hid _ := hst
          have HR3 : Hid (blocksOf sps = (sps.drop (i + 1)).foldl step bs3 ∧ (∃ c u x, Ch bs3.length c u x (sps.drop (i + 1))) ∧ bs3.length ≤ i + 1 ∧ ∀ q, (bs3.getD q Bk.zero).seats.length ≤ i + 1) := by
            have hl3 : bs3.length = (bs ++ [(⟨cab, num, exit, []⟩ : Bk)]).length := by rw [hbs3, List.length_set]
            refine ⟨by rw [hbs3]; exact HF2.out, ?_, by rw [hl3]; exact HL2.out, fun q => ?_⟩
            · rw [hl3]; exact HC2.out
            · rw [hbs3, getD_set _ _ _ _ _ hk2]
              split
              · have := HLZ.out bs.length
                show (((bs ++ [(⟨cab, num, exit, []⟩ : Bk)]).getD bs.length Bk.zero).seats ++ [(num, ltr)]).length ≤ i + 1
                rw [List.length_append, List.length_singleton]; omega
              · have := HLZ.out q; omega
          clear hst hN hL hbs3 HF2 HC2 HL2 HLZ
          have HN2 : Hid (∀ j u, (seShape.enc (num, ltr))[j]? = some u → (w6.alloc (seObj num ltr)).drew.cell? ((⟨w6.heap.size, 0, none⟩ : Addr).add j) = some u) := World.news_of_block (heap_alloc_new w6 (seObj num ltr))
          have hbase : w1.heap.size ≤ (w6.alloc (seObj num ltr)).drew.heap.size := by show w1.heap.size ≤ (w6.alloc (seObj num ltr)).heap.size; simp; omega
          have hH : (w6.alloc (seObj num ltr)).drew.heap.size = w6.heap.size + 1 := by show (w6.alloc (seObj num ltr)).heap.size = _; simp
          have h63 : N + 1 ≤ maxLen := by unfold maxLen; omega
          have hby : (N + 1) * 16 ≤ 140737488355328 := by omega
          have y1 : (w6.alloc (seObj num ltr)).cell? ⟨g6, bs.length * 4 + 3, none⟩ = some (.slice ao N ca) := (World.cell?_of_block (((Below.refl w6.heap.size w6).alloc (Nat.le_refl _) (seObj num ltr)).block _ (World.block_lt_of_cell? w6 _ c3))).trans c3
          unfold seObj at HN2 hbase hH HOWN HST y1
          go_region_law ((refine step_append_lies _ (by rfl) (.tmp 41) (.tmp 44) 41 (by rfl) w1.heap.size 38 j0 (.agg #[.int .i64 0, .int .u8 0]) 2 16 Tryd.underlying41 gi gz0 gz1 gz2 rfl (by decide) (.slice ao N ca) N L (by rfl) HOWN.out ⟨w6.heap.size, 0, none⟩ 1 1 (seShape.enc (num, ltr)) (by rfl) rfl HN2.out (seShape.one _) (by decide) h63 hby hbase (w6.heap.size + 1) hH ?_; intro g5 cap5 w7 hown7 hgrow7 hat7 hlt7; obtain ⟨f1, f2, f3, f4, f5, f6⟩ := HST.out g5 cap5 w7 hown7 hgrow7 hat7; have f2' := f2 (bs.length * 4 + 3)))
          all_goals
            have HK7 : Hid _ := And.intro f5 f6
            clear f1 f2 f2' f3 f4 f5 f6 hown7 hgrow7 hat7 hlt7 HST HOWN HN2 hbase hH c3 cf y1
            go_wp2
            go_roundw
            case rel => exact ⟨i + 1, _, bs3, rfl, by go_num, by omega, HK7.out.1, HR3.out.1, HR3.out.2.1, HR3.out.2.2.1, HR3.out.2.2.2, HK7.out.2⟩
            case measure => simp [intOf]; omega
        · go_wp2_with (at_builtin; rw [← hX1]; refine wpList_append_lies _ (by rfl) (.tmp 19) (.tmp 28) 32 (by rfl) w1.heap.size 43 i0 (.agg #[.int .i64 0, .int .i64 0, .bool false, .slice none 0 0]) 4 48 Tryd.underlying32 hi hz0 hz1 hz2 rfl (by decide) (.slice aV bs.length cV) bs.length (bvShape.vals xs) (by rfl) HA1.out ⟨wr.heap.size + 1, 0, none⟩ 1 1 (bvShape.enc ⟨cab, num, exit, none, 0, 0⟩) (by rfl) rfl HNA.out (bvShape.one _) (by decide) h63a hbya HSX.out (wr.heap.size + 1 + 1) HHX.out ?_; intro g6 cap6 w6 hown6 hgrow6 hat6 hlt6; have hk6 := HO.out g6 cap6 w6 hown6 hgrow6; obtain ⟨d0, d1, d2, d3, d4, d5, d6⟩ := spo_cells hk6.2.1)
          have HK6 : Hid _ := hk6
          go_roundw
          case rel => exact ⟨i + 1, _, bs ++ [(⟨cab, num, exit, []⟩ : Bk)], rfl, by go_num, by omega, HK6.out.1, HFB.out rfl, HC2.out, by simp; omega, fun q => by have := HLo.out q; omega, HK6.out.2.2.1⟩
          case measure => simp [intOf]; omega
      · obtain ⟨k, hk1⟩ : ∃ k : Nat, blk = (k : Int) := ⟨blk.toNat, by omega⟩
        subst hk1
        have hk2 : k < bs.length := by omega
        have hk3 : (k : Int) < (bs.length : Int) := by omega
        have hk4 : ((k : Int) == (bs.length : Int)) = false := by rw [beq_eq_false_iff_ne]; omega
        have hne : (k : Int) ≠ (bs.length : Int) := by omega
        have hst0 : opened bs ⟨num, ltr, cab, zone, (k : Int), exit, bld⟩ = bs := opened_old hne
        rw [if_neg hne] at hc3
        have hfb : bld = true → blocksOf sps = (sps.drop (i + 1)).foldl step bs := fun hb => by rw [hf, step_bld hb, hst0]
        have hff : bld = false → blocksOf sps = (sps.drop (i + 1)).foldl step (bs.set k ((bs.getD k Bk.zero).add (num, ltr))) := fun hb => by rw [hf, step_free hb rfl (by rw [hst0]; exact hk2), hst0]; rfl
        have HFB : Hid _ := hfb
        have HFF : Hid _ := hff
        have HC2 : Hid (∃ c u x, Ch bs.length c u x (sps.drop (i + 1))) := ⟨_, _, _, hc3⟩
        clear hfb hff hf hst0 hne hA
        cases bld
        · obtain ⟨W, hW⟩ : ∃ W, W = wr.alloc (spObj ⟨num, ltr, cab, zone, (k : Int), exit, false⟩) := ⟨_, rfl⟩
          have HVW : Hid _ := HVX.out
          have hzW : W.heap.size = wr.heap.size + 1 := by rw [hW]; simp
          rw [← hW] at hbox HVW
          obtain ⟨g, cap, ao, ca, hV2, hle2, c3, cf0, hown, hst⟩ := add_step (a := num) (b := ltr) (k := k) HVW.out.1 hk2 (by omega) hbox HVW.out.2
          subst hV2
          have HOWN : Hid _ := hown
          have cf := cf0 (k * 4 + 3)
          have HF2 : Hid _ := HFF.out rfl
          have HL2 : Hid (bs.length ≤ i + 1) := by show _ ≤ _; omega
          have HLZ : Hid _ := HLN.out
          have hz6 : w1.heap.size ≤ W.heap.size := by omega
          obtain ⟨d0, d1, _⟩ := spo_cells hbox
          clear cf0 hown HFF HFB hbox hbX HVX HV HB HLN HVW hzW
          obtain ⟨N, hN⟩ : ∃ N, N = ((bs).getD k Bk.zero).seats.length := ⟨_, rfl⟩
          have hNi : N ≤ i := by rw [hN]; exact HLZ.out _
          obtain ⟨L, hL⟩ : ∃ L, L = seShape.vals ((bs).getD k Bk.zero).seats := ⟨_, rfl⟩
          obtain ⟨bs3, hbs3⟩ : ∃ bs3, bs3 = (bs).set k (((bs).getD k Bk.zero).add (num, ltr)) := ⟨_, rfl⟩
          rw [← hN, ← hL, ← hbs3] at hst
          rw [← hN] at c3
          rw [← hN, ← hL] at HOWN
          have HST : Hid _ := hst
          have HR3 : Hid (blocksOf sps = (sps.drop (i + 1)).foldl step bs3 ∧ (∃ c u x, Ch bs3.length c u x (sps.drop (i + 1))) ∧ bs3.length ≤ i + 1 ∧ ∀ q, (bs3.getD q Bk.zero).seats.length ≤ i + 1) := by
            have hl3 : bs3.length = (bs).length := by rw [hbs3, List.length_set]
            refine ⟨by rw [hbs3]; exact HF2.out, ?_, by rw [hl3]; exact HL2.out, fun q => ?_⟩
            · rw [hl3]; exact HC2.out
            · rw [hbs3, getD_set _ _ _ _ _ hk2]
              split
              · have := HLZ.out k
                show (((bs).getD k Bk.zero).seats ++ [(num, ltr)]).length ≤ i + 1
                rw [List.length_append, List.length_singleton]; omega
              · have := HLZ.out q; omega
          clear hst hN hL hbs3 HF2 HC2 HL2 HLZ
          have HN2 : Hid (∀ j u, (seShape.enc (num, ltr))[j]? = some u → (W.alloc (seObj num ltr)).drew.cell? ((⟨W.heap.size, 0, none⟩ : Addr).add j) = some u) := World.news_of_block (heap_alloc_new W (seObj num ltr))
          have hbase : w1.heap.size ≤ (W.alloc (seObj num ltr)).drew.heap.size := by show w1.heap.size ≤ (W.alloc (seObj num ltr)).heap.size; simp; omega
          have hH : (W.alloc (seObj num ltr)).drew.heap.size = W.heap.size + 1 := by show (W.alloc (seObj num ltr)).heap.size = _; simp
          have h63 : N + 1 ≤ maxLen := by unfold maxLen; omega
          have hby : (N + 1) * 16 ≤ 140737488355328 := by omega
          have y1 : (W.alloc (seObj num ltr)).cell? ⟨g, k * 4 + 3, none⟩ = some (.slice ao N ca) := (World.cell?_of_block (((Below.refl W.heap.size W).alloc (Nat.le_refl _) (seObj num ltr)).block _ (World.block_lt_of_cell? W _ c3))).trans c3
          unfold seObj at HN2 hbase hH HOWN HST y1
          unfold spObj at hW
          have HWW : Hid _ := hW
          clear hW
          go_wp2_with fail
          rw [← HWW.out]
          clear HWW
          go_region_law ((refine step_append_lies _ (by rfl) (.tmp 41) (.tmp 44) 41 (by rfl) w1.heap.size 38 j0 (.agg #[.int .i64 0, .int .u8 0]) 2 16 Tryd.underlying41 gi gz0 gz1 gz2 rfl (by decide) (.slice ao N ca) N L (by rfl) HOWN.out ⟨W.heap.size, 0, none⟩ 1 1 (seShape.enc (num, ltr)) (by rfl) rfl HN2.out (seShape.one _) (by decide) h63 hby hbase (W.heap.size + 1) hH ?_; intro g5 cap5 w7 hown7 hgrow7 hat7 hlt7; obtain ⟨f1, f2, f3, f4, f5, f6⟩ := HST.out g5 cap5 w7 hown7 hgrow7 hat7; have f2' := f2 (k * 4 + 3)))
          all_goals
            have HK7 : Hid _ := And.intro f5 f6
            clear f1 f2 f2' f3 f4 f5 f6 hown7 hgrow7 hat7 hlt7 HST HOWN HN2 hbase hH c3 cf y1
            go_wp2
            go_roundw
            case rel => exact ⟨i + 1, _, bs3, rfl, by go_num, by omega, HK7.out.1, HR3.out.1, HR3.out.2.1, HR3.out.2.2.1, HR3.out.2.2.2, HK7.out.2⟩
            case measure => simp [intOf]; omega
        · obtain ⟨aV, cV, rfl, _⟩ := HV.out.size_eq
          have HVX2 : Hid _ := HVX.out
          clear hbox hbX HVX HV HB
          unfold spObj at HVX2
          go_wp2
          go_roundw
          case rel => exact ⟨i + 1, _, bs, rfl, by go_num, by omega, HVX2.out.1, (by first | exact HFB.out rfl | exact HFB.out trivial), HC2.out, by omega, fun q => by have := HLN.out q; omega, HVX2.out.2⟩
          case measure => simp [intOf]; omega
    · have hf := HF.out
      rw [List.drop_of_length_le (by have := HM.out; omega), List.foldl_nil] at hf
      have HE : Hid (BlksAt wr w.heap.size V (blocksOf sps)) := by
        show BlksAt _ _ _ _
        rw [hf]; exact HV.out.mono HB1.out.size
      clear hf HF HH HV
      go_wp2
      go_ret
      exact ⟨_, rfl, HE.out, HB1.out.trans (HB.out.mono HB1.out.size)⟩
end Go.Proofs.YtbnmjmapmbdioaaDoor.Cb
