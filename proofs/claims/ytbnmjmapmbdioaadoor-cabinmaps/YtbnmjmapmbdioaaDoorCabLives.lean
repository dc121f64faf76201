/-
  Package cabin: the chapter's map.
-/
import Derived.Test.YtbnmjmapmbdioaaDoorCabLabel
import Derived.Test.YtbnmjmapmbdioaaDoorCabSameB
import Derived.Test.YtbnmjmapmbdioaaDoorCabFind
namespace Go.Proofs.YtbnmjmapmbdioaaDoor.Cb
open Go.RowKit Cm Go.Shelf
attribute [local go_sem ↓] Go.wp_at_zero Go.wp_at_succ
set_option linter.unusedVariables false

def rowA : Rw := ⟨1, 1, 0, false, ⟨#[65, 46, 67]⟩⟩
def rowB : Rw := ⟨12, 2, 1, true, ⟨#[65, 66, 67, 46, 100, 69, 70]⟩⟩
def theMap : List Rw := [rowA, rowB]
theorem map_ok : mapOK theMap = true := by decide +kernel
theorem map_spots : (spots theMap).length = 8 := by decide +kernel
theorem map_blocks : (blocksOf (spots theMap)).length = 4 := by decide +kernel
theorem map_seats : ((blocksOf (spots theMap)).getD 3 Bk.zero).seats.length = 2 := by decide +kernel
theorem map_label : lbl (12, 67) = ⟨#[49, 50, 67]⟩ := by decide +kernel
theorem map_right : ∀ r ∈ theMap, r.ok := by
  intro r hr
  simp only [theMap, List.mem_cons, List.not_mem_nil, or_false] at hr
  rcases hr with rfl | rfl <;> exact ⟨by decide, by decide, by decide⟩
def mapObj : Obj := .cells #[.int .i64 1, .int .i64 1, .int .i64 0, .bool false, .string ⟨#[65, 46, 67]⟩, .int .i64 12, .int .i64 2, .int .i64 1, .bool true, .string ⟨#[65, 66, 67, 46, 100, 69, 70]⟩] 25 (0, 0)
theorem map_elems {w : World} {g : Nat} (h : w.heap[g]? = some mapObj) : ElemsAt rwShape w (some ⟨g, 0, none⟩) theMap := by
  refine .inr ⟨g, 0, rfl, lt_of_block h, fun i hi j u hu => ?_⟩
  rw [Joins.cell_of_block h]
  have hi2 : i < 2 := hi
  match i, hi2 with
  | 0, _ =>
    match j, hu with
    | 0, hu => exact hu
    | 1, hu => exact hu
    | 2, hu => exact hu
    | 3, hu => exact hu
    | 4, hu => exact hu
    | (n + 5), hu => simp [theMap, rwShape] at hu
  | 1, _ =>
    match j, hu with
    | 0, hu => exact hu
    | 1, hu => exact hu
    | 2, hu => exact hu
    | 3, hu => exact hu
    | 4, hu => exact hu
    | (n + 5), hu => simp [theMap, rwShape] at hu
set_option maxRecDepth 100000 in
set_option maxHeartbeats 2000000 in
theorem lives_any (w : World) (hp : Pow w) : Calls Tryd.prog 7 #[] w fun e w' => e = .returned (.bool true) ∧ Below w.heap.size w w' := by
  obtain ⟨X, hX⟩ : ∃ X, X = w.alloc mapObj := ⟨_, rfl⟩
  have hbX : Below w.heap.size w X := by rw [hX]; exact (Below.refl _ _).alloc (Nat.le_refl _) _
  have hg : X.heap[w.heap.size]? = some mapObj := by rw [hX]; exact heap_alloc_new w _
  have HE : Hid (∀ Y, Below X.heap.size X Y → ElemsAt rwShape Y (some ⟨w.heap.size, 0, none⟩) theMap) := fun Y hY => (map_elems hg).later hY
  have HT : Hid (∀ Y Z, Below X.heap.size X Y → Below Y.heap.size Y Z → Below X.heap.size X Z) := fun Y Z h1 h2 => h1.trans (h2.mono h1.size)
  have HW : Hid (∀ Y, Below X.heap.size X Y → Below w.heap.size w Y) := fun Y hY => hbX.trans (hY.mono hbX.size)
  have HP : Hid (∀ Y, Below X.heap.size X Y → Pow Y) := fun Y hY => hp.below (HW.out Y hY)
  have HB0 : Hid (Below X.heap.size X X) := Below.refl _ _
  have HBk : Hid (∀ Y, Below X.heap.size X Y → Calls Tryd.prog 12 #[.slice (some ⟨w.heap.size, 0, none⟩) 2 2] Y fun e w' => ∃ v, e = .returned v ∧ BlksAt w' Y.heap.size v (blocksOf (spots theMap)) ∧ Below Y.heap.size Y w') := fun Y hY => blocks_any _ 2 theMap Y (HE.out Y hY) map_right (by decide)
  have HCk : Hid (∀ Y, Below X.heap.size X Y → Calls Tryd.prog 8 #[.slice (some ⟨w.heap.size, 0, none⟩) 2 2] Y fun e w' => e = .returned (.int .i64 0) ∧ Below Y.heap.size Y w') := fun Y hY => by
    have := check_any _ 2 theMap Y (HE.out Y hY) map_right (by decide)
    rw [map_ok] at this
    exact this
  have HSp : Hid (∀ Y, Below X.heap.size X Y → Calls Tryd.prog 10 #[.slice (some ⟨w.heap.size, 0, none⟩) 2 2] Y fun e w' => ∃ ao ca, e = .returned (.slice ao 8 ca) ∧ Below Y.heap.size Y w') := fun Y hY => (spots_any _ 2 theMap Y (HE.out Y hY) map_right (by decide)).mono fun e w' ⟨v, h1, h2, h3⟩ => by
    obtain ⟨ao, ca, h4, _⟩ := h2.slice
    rw [map_spots] at h4
    exact ⟨ao, ca, by rw [h1, h4], h3⟩
  have HLa : Hid (∀ Y, Below X.heap.size X Y → Calls Tryd.prog 21 #[.agg #[.int .i64 12, .int .u8 67]] Y fun e w' => e = .returned (.string ⟨#[49, 50, 67]⟩) ∧ Below Y.heap.size Y w') := fun Y hY => by
    have := label_any (12, 67) Y (HP.out Y hY)
    rw [map_label] at this
    exact this
  unfold mapObj at hX
  have HX : Hid _ := hX
  clear hX hbX hg hp HE HP
  go_enter Tryd.func7, Tryd.ntmps7
  go_wp2_with fail
  rw [← HX.out]
  clear HX
  refine (show Calls _ _ _ _ _ from HBk.out X HB0.out).mono ?_
  rintro e w1 ⟨v, rfl, hv, hb1⟩
  have HB1 : Hid (Below X.heap.size X w1) := hb1
  have HV : Hid (∀ Y, Below w1.heap.size w1 Y → ∃ g cap ao ca, v = .slice (some ⟨g, 0, none⟩) 4 cap ∧ 4 ≤ cap ∧ Y.cell? ⟨g, 15, none⟩ = some (.slice ao 2 ca)) := fun Y hY => by
    obtain ⟨g, cap, ao, ca, h1, h2, _, _, _, h3, _⟩ := BlksAt.read (k := 3) (hv.below hY) (by rw [map_blocks]; omega)
    rw [map_blocks] at h1 h2
    rw [map_seats] at h3
    exact ⟨g, cap, ao, ca, h1, h2, h3⟩
  obtain ⟨g, cap, _, _, rfl, hc4, _⟩ := HV.out w1 (Below.refl _ _)
  clear hv hb1 HBk
  go_wp2_with fail
  refine (show Calls _ _ _ _ _ from HCk.out w1 HB1.out).mono ?_
  rintro e w2 ⟨rfl, hb2⟩
  have HB2 : Hid (Below X.heap.size X w2) := HT.out _ _ HB1.out hb2
  have HB12 : Hid (Below w1.heap.size w1 w2) := hb2
  clear hb2 HCk
  go_wp2_with fail
  refine (show Calls _ _ _ _ _ from HSp.out w2 HB2.out).mono ?_
  rintro e w3 ⟨ao, ca, rfl, hb3⟩
  have HB3 : Hid (Below X.heap.size X w3) := HT.out _ _ HB2.out hb3
  obtain ⟨g', cap', ao', ca', e1, _, hcell⟩ := HV.out w3 (HB12.out.trans (hb3.mono HB12.out.size))
  cases e1
  clear hb3 HSp HV
  go_wp2_with fail
  refine (show Calls _ _ _ _ _ from HLa.out w3 HB3.out).mono ?_
  rintro e w4 ⟨rfl, hb4⟩
  have HB4 : Hid (Below w.heap.size w w4) := HW.out _ (HT.out _ _ HB3.out hb4)
  clear hb4
  go_wp2
  go_ret
  exact ⟨rfl, HB4.out⟩
end Go.Proofs.YtbnmjmapmbdioaaDoor.Cb
