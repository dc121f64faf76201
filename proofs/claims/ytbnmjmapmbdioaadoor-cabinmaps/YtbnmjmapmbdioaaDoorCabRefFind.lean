/-
  The document's cabin: a seat found; seats side by side.
-/
import Derived.Test.YtbnmjmapmbdioaaDoorCabNear
import Derived.Test.YtbnmjmapmbdioaaDoorCabRefSpots
namespace Go.Proofs.YtbnmjmapmbdioaaDoor.Cb
open Go.RowKit Cm
attribute [local go_sem ↓] Go.wp_at_zero Go.wp_at_succ
set_option linter.unusedVariables false

set_option maxRecDepth 100000 in
set_option maxHeartbeats 2000000 in
theorem findR_any (a : Int × Int) (ao : Option Addr) (ca : Nat) (rows : List Rw) (w : World) (hx : ElemsAt rwShape w ao rows) (hok : ∀ r ∈ rows, r.ok) (hl : rows.length ≤ 4611686018427387904) :
    Calls Tryd.prog 18 #[sev a, .slice ao rows.length ca] w fun e w' => e = .returned (foundV (foundL a (spots rows))) ∧ Below w.heap.size w w' := by
  obtain ⟨X, hX⟩ : ∃ X, X = (w.alloc (seObj a.1 a.2)).alloc (spObj Sp.zero) := ⟨_, rfl⟩
  have hbX : Below w.heap.size w X := by rw [hX]; exact ((Below.refl _ _).alloc (Nat.le_refl _) _).alloc (by simp) _
  have HC : Hid _ := spotsR_any ao ca rows X (hx.later hbX) hok hl
  have g0 : X.heap[w.heap.size]? = some (seObj a.1 a.2) := by rw [hX, Below.heap_alloc _ _ _ (by simp)]; exact heap_alloc_new w _
  have g1 : X.heap[w.heap.size + 1]? = some (spObj Sp.zero) := by
    rw [hX]
    have := heap_alloc_new (w.alloc (seObj a.1 a.2)) (spObj Sp.zero)
    rw [World.size_alloc] at this
    exact this
  have hle := spots_le rows
  generalize spots rows = sps at *
  generalize rows.length = rl at *
  clear hx hok hl
  have HBX : Hid _ := hbX
  have hgd := guardSe
  have hes := fun s : Sp => eql_seat s.seat a
  unfold Sp.seat at hes
  obtain ⟨a1, a2⟩ := a
  unfold sev seObj spObj Sp.zero at *
  simp only at *
  have HX : Hid _ := hX
  obtain ⟨m, hm⟩ : ∃ m, m = sps.length := ⟨_, rfl⟩
  have HM : Hid _ := hm
  have HES : Hid _ := hes
  clear hX hbX hes
  go_enter Tryd.func18, Tryd.ntmps18
  go_wp2_with fail
  rw [← HX.out]
  clear HX
  refine (show Calls _ _ _ _ _ from HC.out).mono ?_
  rintro e w1 ⟨vS, rfl, hS, hb1⟩
  obtain ⟨aS, cS, rfl, hcS, hxS⟩ := hS.slice
  have hs1 := hb1.size
  have HG : Hid (w1.heap[w.heap.size]? = some (seObj a1 a2) ∧ w1.heap[w.heap.size + 1]? = some (spObj Sp.zero)) := ⟨(hb1.block _ (lt_of_block g0)).trans g0, (hb1.block _ (lt_of_block g1)).trans g1⟩
  have HXS : Hid (∀ Y, Below w1.heap.size w1 Y → ElemsAt spShape Y aS sps) := fun Y hY => hxS.later hY
  have HB1 : Hid (Below w.heap.size w w1) := HBX.out.trans (hb1.mono HBX.out.size)
  have hz1 : w.heap.size + 1 < w1.heap.size := by have := lt_of_block g1; omega
  rw [← hm]
  clear hS hxS hb1 HC g0 g1 hs1 HBX hm
  go_wp2_with fail
  go_loopw [11] (fun vi wr => ∃ i : Nat, vi = .int .i64 i ∧ i ≤ m ∧ Hid (∀ j, j < i → (sps.getD j Sp.zero).seat ≠ (a1, a2)) ∧ Hid (Below w1.heap.size w1 wr)) (fun vi _ => m - (intOf vi).toNat)
  case atStart => exact ⟨0, rfl, by omega, fun j hj => by omega, Below.refl _ _⟩
  case round =>
    obtain ⟨i, rfl, him, HJ, HB⟩ := hrel
    have hws := HB.out.size
    have hg1 : wr.heap[w.heap.size + 1]? = some (spObj Sp.zero) := (HB.out.block _ hz1).trans HG.out.2
    have HBW : Hid (Below w.heap.size w wr) := HB1.out.trans (HB.out.mono HB1.out.size)
    obtain ⟨d0, d1, d2, d3, d4, d5, d6⟩ := spo_cells hg1
    have df := spo_frozen hg1
    have df0 := df 0
    have df1 := df 1
    have df2 := df 2
    have df3 := df 3
    have df4 := df 4
    have df5 := df 5
    have df6 := df 6
    unfold Sp.zero at d0 d1 d2 d3 d4 d5 d6
    simp only at d0 d1 d2 d3 d4 d5 d6
    by_cases hlt : i < m
    · have hle2 : i < sps.length := by have := HM.out; omega
      have hlt' : (i : Int) < (m : Int) := by omega
      have hk0 : (0 : Int) ≤ (i : Int) := by omega
      obtain ⟨pb, off, rfl, hpb, k0, k1, k2, k3, k4, k5, k6⟩ := spot_cells (HXS.out wr HB.out) hle2
      have hg0 : wr.heap[w.heap.size]? = some (seObj a1 a2) := (HB.out.block _ (by omega)).trans HG.out.1
      obtain ⟨c0, c1⟩ := seo_cells hg0
      have hes := HES.out (sps.getD i Sp.zero)
      have HJn : Hid (decide ((sps.getD i Sp.zero).seat = (a1, a2)) = false → ∀ j, j < i + 1 → (sps.getD j Sp.zero).seat ≠ (a1, a2)) := fun h j hj => by
        by_cases e : j = i
        · rw [e]; exact of_decide_eq_false h
        · exact HJ.out j (by omega)
      have HJd : Hid (decide ((sps.getD i Sp.zero).seat = (a1, a2)) = true → foundL (a1, a2) sps = some (sps.getD i Sp.zero)) := fun h => by
        unfold foundL
        rw [plc_here hle2 HJ.out (of_decide_eq_true h), if_neg (by omega), Int.toNat_natCast]
      unfold Sp.seat at HJn HJd
      generalize sps.getD i Sp.zero = s at *
      obtain ⟨num, ltr, cab, zone, blk, exit, bld⟩ := s
      simp only at k0 k1 k2 k3 k4 k5 k6 hes HJn HJd
      have hne0 : w.heap.size < wr.heap.size := by omega
      have hne1 : w.heap.size + 1 < wr.heap.size := by omega
      have HBX : Hid (Below w1.heap.size w1 (wr.alloc (spObj ⟨num, ltr, cab, zone, blk, exit, bld⟩))) := HB.out.alloc hws _
      unfold spObj at HBX
      generalize hpp : decide ((num, ltr) = (a1, a2)) = pp at *
      cases pp
      · have HN : Hid _ := HJn.out rfl
        clear hpp HJn HJd d0 d1 d2 d3 d4 d5 d6 df df0 df1 df2 df3 df4 df5 df6 hg0 hg1 HJ
        go_wp2
        go_roundw
        case rel => exact ⟨i + 1, by go_num, by omega, HN.out, HBX⟩
        case measure => simp [intOf]; omega
      · have HN : Hid _ := HJd.out rfl
        obtain ⟨W, hW⟩ : ∃ W, W = wr.alloc (spObj ⟨num, ltr, cab, zone, blk, exit, bld⟩) := ⟨_, rfl⟩
        have hbn : Below wr.heap.size wr W := by rw [hW]; exact (Below.refl _ _).alloc (Nat.le_refl _) _
        have hgW : W.heap[w.heap.size + 1]? = some (spObj Sp.zero) := (hbn.block _ (lt_of_block hg1)).trans hg1
        have hbW : W.heap[wr.heap.size]? = some (spObj ⟨num, ltr, cab, zone, blk, exit, bld⟩) := by rw [hW]; exact heap_alloc_new wr _
        have HWF : Hid _ := And.intro (And.intro (spo_cells hbW) (spo_cells hgW)) (And.intro (spot_set hgW ⟨num, ltr, cab, zone, blk, exit, bld⟩) (spo_frozen hgW))
        have HWB : Hid (Below w.heap.size w W) := HBW.out.trans (hbn.mono HBW.out.size)
        unfold spObj at hW
        have HW : Hid _ := hW
        clear hpp HJn HJd df hg0 hg1 HJ hbn hW hgW hbW d0 d1 d2 d3 d4 d5 d6 df0 df1 df2 df3 df4 df5 df6
        go_upto_region 5 with fail
        rw [← HW.out]
        clear HW
        obtain ⟨⟨⟨b0, b1, b2, b3, b4, b5, b6⟩, ⟨d0, d1, d2, d3, d4, d5, d6⟩⟩, ⟨⟨e0, e1, e2, e3, e4, e5, e6⟩, df⟩⟩ := HWF.out
        have df0 := df 0
        have df1 := df 1
        have df2 := df 2
        have df3 := df 3
        have df4 := df 4
        have df5 := df 5
        have df6 := df 6
        unfold Sp.zero at d0 d1 d2 d3 d4 d5 d6
        simp only at b0 b1 b2 b3 b4 b5 b6 d0 d1 d2 d3 d4 d5 d6 e0 e1 e2 e3 e4 e5 e6
        clear HWF df k0 k1 k2 k3 k4 k5 k6 c0 c1 hes
        go_wp2
        refine bodyPost_ret (v := .tuple #[.agg #[.int .i64 num, .int .u8 ltr, .int .i64 cab, .int .i64 zone, .int .i64 blk, .bool exit, .bool bld], .bool true]) (by simp [results, Tryd.results18, go_sem, e0, e1, e2, e3, e4, e5, e6]) rfl ?_
        refine ⟨by rw [HN.out]; rfl, ?_⟩
        repeat (refine Below.setCell ?_ (by simp) _)
        exact HWB.out
    · have HN : Hid (foundL (a1, a2) sps = none) := by
        show _ = _
        unfold foundL
        rw [plc_nowhere fun j hj => HJ.out j (by have := HM.out; omega), if_pos (by omega)]
      obtain ⟨e0, e1, e2, e3, e4, e5, e6⟩ := spot_set hg1 Sp.zero
      unfold Sp.zero at e0 e1 e2 e3 e4 e5 e6
      simp only at e0 e1 e2 e3 e4 e5 e6
      clear df hg1 HJ
      go_wp2
      refine bodyPost_ret (v := .tuple #[.agg #[.int .i64 0, .int .u8 0, .int .i64 0, .int .i64 0, .int .i64 0, .bool false, .bool false], .bool false]) (by simp [results, Tryd.results18, go_sem, e0, e1, e2, e3, e4, e5, e6]) rfl ?_
      refine ⟨by rw [HN.out]; rfl, ?_⟩
      repeat (refine Below.setCell ?_ (by simp) _)
      exact HBW.out
end Go.Proofs.YtbnmjmapmbdioaaDoor.Cb
