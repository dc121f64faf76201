/-
  The statement CabinFinds, walked: seats are found, and told to be side by side, as the document says.
-/
import Derived.Test.YtbnmjmapmbdioaaDoorCabLives
import Derived.Test.YtbnmjmapmbdioaaDoorCabRefNear
namespace Go.Proofs.YtbnmjmapmbdioaaDoor.Cb
open Go.RowKit Cm Go.Shelf
attribute [local go_sem ↓] Go.wp_at_zero Go.wp_at_succ
set_option linter.unusedVariables false

set_option maxRecDepth 100000 in
set_option maxHeartbeats 4000000 in
theorem finds_walk (ao : Option Addr) (ca : Nat) (rows : List Rw) (a b : Int × Int) (w : World) (hx : ElemsAt rwShape w ao rows) (hok : ∀ r ∈ rows, r.ok) (hl : rows.length ≤ 4611686018427387904) (hp : Pow w) :
    Calls Tryd.prog 4 #[.slice ao rows.length ca, sev a, sev b] w fun e w' => e = .returned (.bool true) ∧ Below w.heap.size w w' := by
  obtain ⟨X, hX⟩ : ∃ X, X = (w.alloc (seObj a.1 a.2)).alloc (seObj b.1 b.2) := ⟨_, rfl⟩
  have hbX : Below w.heap.size w X := by rw [hX]; exact ((Below.refl _ _).alloc (Nat.le_refl _) _).alloc (by simp) _
  have g0 : X.heap[w.heap.size]? = some (seObj a.1 a.2) := by rw [hX, Below.heap_alloc _ _ _ (by simp)]; exact heap_alloc_new w _
  have g1 : X.heap[w.heap.size + 1]? = some (seObj b.1 b.2) := by
    rw [hX]
    have := heap_alloc_new (w.alloc (seObj a.1 a.2)) (seObj b.1 b.2)
    rw [World.size_alloc] at this
    exact this
  have HT : Hid (∀ Y Z, Below X.heap.size X Y → Below Y.heap.size Y Z → Below X.heap.size X Z) := fun Y Z h1 h2 => h1.trans (h2.mono h1.size)
  have HW : Hid (∀ Y, Below X.heap.size X Y → Below w.heap.size w Y) := fun Y hY => hbX.trans (hY.mono hbX.size)
  have hlt1 := lt_of_block g1
  have HBox : Hid (∀ Y, Below X.heap.size X Y → (Y.cell? ⟨w.heap.size, 0, none⟩ = some (.int .i64 a.1) ∧ Y.cell? ⟨w.heap.size, 1, none⟩ = some (.int .u8 a.2)) ∧ (Y.cell? ⟨w.heap.size + 1, 0, none⟩ = some (.int .i64 b.1) ∧ Y.cell? ⟨w.heap.size + 1, 1, none⟩ = some (.int .u8 b.2))) := fun Y hY => ⟨seo_cells ((hY.block _ (lt_of_block g0)).trans g0), seo_cells ((hY.block _ hlt1).trans g1)⟩
  have HL : Hid _ := lives_any X (hp.below hbX)
  have HF : Hid (∀ Y, Below X.heap.size X Y → _) := fun Y hY => find_any a ao ca rows Y (hx.later (HW.out Y hY)) hok hl
  have HFR : Hid (∀ Y, Below X.heap.size X Y → _) := fun Y hY => findR_any a ao ca rows Y (hx.later (HW.out Y hY)) hok hl
  have HN : Hid (∀ Y, Below X.heap.size X Y → _) := fun Y hY => near_any a b ao ca rows Y (hx.later (HW.out Y hY)) hok hl
  have HNR : Hid (∀ Y, Below X.heap.size X Y → _) := fun Y hY => nearR_any a b ao ca rows Y (hx.later (HW.out Y hY)) hok hl
  obtain ⟨s, q, hs⟩ : ∃ s q, foundV (foundL a (spots rows)) = .tuple #[spv s, .bool q] := by
    cases foundL a (spots rows) with
    | none => exact ⟨_, _, rfl⟩
    | some s => exact ⟨s, true, rfl⟩
  rw [hs] at HF HFR
  generalize nearL (spots rows) a b = r at *
  generalize rows.length = rl at *
  obtain ⟨a1, a2⟩ := a
  obtain ⟨b1, b2⟩ := b
  obtain ⟨num, ltr, cab, zone, blk, exit, bld⟩ := s
  have hgd := guardSp
  have heq := eql_spot ⟨num, ltr, cab, zone, blk, exit, bld⟩
  unfold sev at *
  unfold spv at *
  unfold seObj at hX
  simp only at *
  have HX : Hid _ := hX
  clear hX hbX g0 g1 hx hok hp hs hl
  go_enter Tryd.func4, Tryd.ntmps4
  go_upto_region 1 with fail
  rw [← HX.out]
  clear HX
  go_wp2_with fail
  refine (show Calls _ _ _ _ _ from HL.out).mono ?_
  rintro e w1 ⟨rfl, hb1⟩
  have HB1 : Hid (Below X.heap.size X w1) := hb1
  obtain ⟨⟨c0, c1⟩, _⟩ := HBox.out w1 hb1
  clear hb1 HL
  go_wp2_with fail
  refine (show Calls _ _ _ _ _ from HF.out w1 HB1.out).mono ?_
  rintro e w2 ⟨rfl, hb2⟩
  obtain ⟨Y2, hY2⟩ : ∃ Y2, Y2 = w2.alloc (spObj ⟨num, ltr, cab, zone, blk, exit, bld⟩) := ⟨_, rfl⟩
  have h2Y : Below w2.heap.size w2 Y2 := by rw [hY2]; exact (Below.refl _ _).alloc (Nat.le_refl _) _
  have HB2 : Hid (Below X.heap.size X Y2) := HT.out _ _ (HT.out _ _ HB1.out hb2) h2Y
  have HG2 : Hid (Y2.heap[w2.heap.size]? = some (spObj ⟨num, ltr, cab, zone, blk, exit, bld⟩)) := by show _ = _; rw [hY2]; exact heap_alloc_new w2 _
  unfold spObj at hY2
  have HY2 : Hid _ := hY2
  clear hY2 h2Y hb2 HF HB1 c0 c1
  go_upto_region 4 with fail
  rw [← HY2.out]
  clear HY2
  obtain ⟨⟨c0, c1⟩, _⟩ := HBox.out Y2 HB2.out
  have hlt2 := lt_of_block HG2.out
  go_wp2_with fail
  refine (show Calls _ _ _ _ _ from HFR.out Y2 HB2.out).mono ?_
  rintro e w3 ⟨rfl, hb3⟩
  obtain ⟨Y3, hY3⟩ : ∃ Y3, Y3 = w3.alloc (spObj ⟨num, ltr, cab, zone, blk, exit, bld⟩) := ⟨_, rfl⟩
  have h3Y : Below w3.heap.size w3 Y3 := by rw [hY3]; exact (Below.refl _ _).alloc (Nat.le_refl _) _
  have HB3 : Hid (Below X.heap.size X Y3) := HT.out _ _ (HT.out _ _ HB2.out hb3) h3Y
  have HG3 : Hid (Y3.heap[w2.heap.size]? = some (spObj ⟨num, ltr, cab, zone, blk, exit, bld⟩) ∧ Y3.heap[w3.heap.size]? = some (spObj ⟨num, ltr, cab, zone, blk, exit, bld⟩)) :=
    ⟨(h3Y.block _ (by have := hb3.size; omega)).trans ((hb3.block _ hlt2).trans HG2.out), by rw [hY3]; exact heap_alloc_new w3 _⟩
  unfold spObj at hY3
  have HY3 : Hid _ := hY3
  clear hY3 h3Y hb3 HFR HB2 c0 c1 HG2 hlt2
  go_upto_region 5 with fail
  rw [← HY3.out]
  clear HY3
  obtain ⟨⟨c0, c1⟩, ⟨c2, c3⟩⟩ := HBox.out Y3 HB3.out
  obtain ⟨x0, x1, x2, x3, x4, x5, x6⟩ := spo_cells HG3.out.1
  obtain ⟨y0, y1, y2, y3, y4, y5, y6⟩ := spo_cells HG3.out.2
  simp only at x0 x1 x2 x3 x4 x5 x6 y0 y1 y2 y3 y4 y5 y6
  have hqq : (q == q) = true := by simp
  have hrr : (r == r) = true := by simp
  have HD : Hid (Below X.heap.size X Y3.drew) := HT.out _ _ HB3.out (Below.refl _ _).drew
  have HC3 : Hid (∀ Y, Below Y3.drew.heap.size Y3.drew Y → (Y.cell? ⟨w2.heap.size, 0, none⟩ = some (.int .i64 num) ∧ Y.cell? ⟨w2.heap.size, 1, none⟩ = some (.int .u8 ltr) ∧ Y.cell? ⟨w2.heap.size, 2, none⟩ = some (.int .i64 cab) ∧ Y.cell? ⟨w2.heap.size, 3, none⟩ = some (.int .i64 zone) ∧ Y.cell? ⟨w2.heap.size, 4, none⟩ = some (.int .i64 blk) ∧ Y.cell? ⟨w2.heap.size, 5, none⟩ = some (.bool exit) ∧ Y.cell? ⟨w2.heap.size, 6, none⟩ = some (.bool bld)) ∧ (Y.cell? ⟨w3.heap.size, 0, none⟩ = some (.int .i64 num) ∧ Y.cell? ⟨w3.heap.size, 1, none⟩ = some (.int .u8 ltr) ∧ Y.cell? ⟨w3.heap.size, 2, none⟩ = some (.int .i64 cab) ∧ Y.cell? ⟨w3.heap.size, 3, none⟩ = some (.int .i64 zone) ∧ Y.cell? ⟨w3.heap.size, 4, none⟩ = some (.int .i64 blk) ∧ Y.cell? ⟨w3.heap.size, 5, none⟩ = some (.bool exit) ∧ Y.cell? ⟨w3.heap.size, 6, none⟩ = some (.bool bld))) := fun Y hY => ⟨spo_cells ((hY.block _ (lt_of_block HG3.out.1)).trans HG3.out.1), spo_cells ((hY.block _ (lt_of_block HG3.out.2)).trans HG3.out.2)⟩
  have HTd : Hid (∀ Y Z, Below Y3.drew.heap.size Y3.drew Y → Below Y.heap.size Y Z → Below Y3.drew.heap.size Y3.drew Z) := fun Y Z h1 h2 => h1.trans (h2.mono h1.size)
  clear HG3 HB3
  go_region_held3 (fun w' => w'.cell? ⟨w2.heap.size, 0, none⟩ = some (.int .i64 num) ∧ w'.cell? ⟨w2.heap.size, 1, none⟩ = some (.int .u8 ltr) ∧ w'.cell? ⟨w2.heap.size, 2, none⟩ = some (.int .i64 cab) ∧ w'.cell? ⟨w2.heap.size, 3, none⟩ = some (.int .i64 zone) ∧ w'.cell? ⟨w2.heap.size, 4, none⟩ = some (.int .i64 blk) ∧ w'.cell? ⟨w2.heap.size, 5, none⟩ = some (.bool exit) ∧ w'.cell? ⟨w2.heap.size, 6, none⟩ = some (.bool bld) ∧ w'.cell? ⟨w3.heap.size, 0, none⟩ = some (.int .i64 num) ∧ w'.cell? ⟨w3.heap.size, 1, none⟩ = some (.int .u8 ltr) ∧ w'.cell? ⟨w3.heap.size, 2, none⟩ = some (.int .i64 cab) ∧ w'.cell? ⟨w3.heap.size, 3, none⟩ = some (.int .i64 zone) ∧ w'.cell? ⟨w3.heap.size, 4, none⟩ = some (.int .i64 blk) ∧ w'.cell? ⟨w3.heap.size, 5, none⟩ = some (.bool exit) ∧ w'.cell? ⟨w3.heap.size, 6, none⟩ = some (.bool bld) ∧ w'.cell? ⟨w.heap.size, 0, none⟩ = some (.int .i64 a1) ∧ w'.cell? ⟨w.heap.size, 1, none⟩ = some (.int .u8 a2) ∧ w'.cell? ⟨w.heap.size + 1, 0, none⟩ = some (.int .i64 b1) ∧ w'.cell? ⟨w.heap.size + 1, 1, none⟩ = some (.int .u8 b2)) (first | go_keep | trivial)
    ((first
      | (go_at_call 19; refine (show Calls _ _ _ _ _ from HN.out Y3.drew HD.out).mono ?_; rintro e w5 ⟨rfl, hb5⟩; obtain ⟨⟨d0, d1⟩, ⟨d2, d3⟩⟩ := HBox.out w5 (HT.out _ _ HD.out hb5); obtain ⟨⟨px0, px1, px2, px3, px4, px5, px6⟩, ⟨py0, py1, py2, py3, py4, py5, py6⟩⟩ := HC3.out w5 hb5)
      | (go_at_call 20; refine (show Calls _ _ _ _ _ from HNR.out Y3.drew HD.out).mono ?_; rintro e w6 ⟨rfl, hb6⟩; obtain ⟨⟨d0, d1⟩, ⟨d2, d3⟩⟩ := HBox.out w6 (HT.out _ _ HD.out hb6); obtain ⟨⟨px0, px1, px2, px3, px4, px5, px6⟩, ⟨py0, py1, py2, py3, py4, py5, py6⟩⟩ := HC3.out w6 hb6)
      | (go_at_call 20; refine (show Calls _ _ _ _ _ from HNR.out w5 (HT.out _ _ HD.out hb5)).mono ?_; rintro e wz ⟨rfl, hbz⟩; have hbw := HT.out _ _ (HT.out _ _ HD.out hb5) hbz; obtain ⟨⟨f0, f1⟩, ⟨f2, f3⟩⟩ := HBox.out wz hbw; obtain ⟨⟨rx0, rx1, rx2, rx3, rx4, rx5, rx6⟩, ⟨ry0, ry1, ry2, ry3, ry4, ry5, ry6⟩⟩ := HC3.out wz (HTd.out _ _ hb5 hbz))
      | (go_at_call 19; refine (show Calls _ _ _ _ _ from HN.out w6 (HT.out _ _ HD.out hb6)).mono ?_; rintro e wz ⟨rfl, hbz⟩; have hbw := HT.out _ _ (HT.out _ _ HD.out hb6) hbz; obtain ⟨⟨f0, f1⟩, ⟨f2, f3⟩⟩ := HBox.out wz hbw; obtain ⟨⟨rx0, rx1, rx2, rx3, rx4, rx5, rx6⟩, ⟨ry0, ry1, ry2, ry3, ry4, ry5, ry6⟩⟩ := HC3.out wz (HTd.out _ _ hb6 hbz))
      | fail))
  all_goals
    go_wp2
    go_ret
    exact ⟨by first | rfl | simp, HW.out _ hbw⟩
end Go.Proofs.YtbnmjmapmbdioaaDoor.Cb
