/-
  The statements of layer 3 begin with an example; it comes out as the document says.
-/
import Derived.Test.YtceghgbkiafklaaDoorOrderInts
import Derived.Test.YtceghgbkiafklaaDoorOrderEnd
namespace Go.Proofs.YtceghgbkiafklaaDoor.Od
open Go.RowKit
open Go.Proofs.YtceghgbkiafklaaDoor.Cm
attribute [local go_sem ↓] Go.wp_at_zero Go.wp_at_succ
set_option linter.unusedVariables false

def ex1 : List Pt := [⟨1, -1, ⟨#[]⟩⟩, ⟨2, 0, ⟨#[97]⟩⟩]
theorem ex1_key : keyAns ex1 = .tuple #[.string ⟨#[1, 127, 255, 255, 255, 255, 255, 255, 255, 2, 97, 0, 0]⟩, .int .i64 0] := by
  rw [keyAns_right (by decide)]
  have : keyOf ex1 = [1, 127, 255, 255, 255, 255, 255, 255, 255, 2, 97, 0, 0] := by decide
  rw [this]
theorem ex1_at (w : World) : PartsAt (w.alloc (.cells #[.int .i64 1, .int .i64 (-1), .string ⟨#[]⟩, .int .i64 2, .int .i64 0, .string ⟨#[97]⟩] 25)) (some ⟨w.heap.size, 0, none⟩) ex1 := by
  refine .inr ⟨w.heap.size, 0, rfl, by simp, fun j hj => ?_⟩
  have e := heap_alloc_new w (.cells #[.int .i64 1, .int .i64 (-1), .string ⟨#[]⟩, .int .i64 2, .int .i64 0, .string ⟨#[97]⟩] 25)
  rw [Joins.cell_of_block e, Joins.cell_of_block e, Joins.cell_of_block e]
  have hj : j < 2 := hj
  rcases (show j = 0 ∨ j = 1 by omega) with rfl | rfl
  · exact ⟨rfl, rfl, rfl⟩
  · exact ⟨rfl, rfl, rfl⟩
theorem ints_at (w : World) (t : TypeId) : CellsAt (w.alloc (.cells #[.int .i64 1, .int .i64 2] t)) (some ⟨w.heap.size, 0, none⟩) (intVals [1, 2]) := by
  refine .inr ⟨w.heap.size, 0, rfl, by simp, fun j hj => ?_⟩
  have e := heap_alloc_new w (.cells #[.int .i64 1, .int .i64 2] t)
  rw [Joins.cell_of_block e]
  have hj : j < 2 := hj
  rcases (show j = 0 ∨ j = 1 by omega) with rfl | rfl <;> rfl

set_option maxRecDepth 100000 in
set_option maxHeartbeats 500000 in
theorem lives_any (w : World) (hm : MaxOk w) :
    Calls Tryd.prog 9 #[] w fun e w' => e = .returned (.bool true) ∧ Below w.heap.size w w' := by
  have HK : Hid _ := ex1_key
  have HE : Hid ((⟨(endOf (⟨#[97, 98]⟩ : ByteArray).data.toList).toArray⟩ : ByteArray) = ⟨#[97, 99]⟩) := by show _ = _; decide
  have hoks : oks ex1 := by
    intro p hp
    simp only [ex1, List.mem_cons, List.not_mem_nil, or_false] at hp
    rcases hp with rfl | rfl <;> exact ⟨⟨by decide, by decide⟩, ⟨by decide, by decide⟩⟩
  go_enter Tryd.func9, Tryd.ntmps9
  go_wp2_with fail
  refine (Key_any _ 2 ex1 _ (ex1_at w) hoks (hm.below ((Below.refl _ _).alloc (Nat.le_refl _) _)) (by unfold room; decide)).mono ?_
  rintro e w1 ⟨rfl, hb1⟩
  have HB1 : Hid (Below w.heap.size w w1) := ((Below.refl _ _).alloc (Nat.le_refl _) _).trans (hb1.mono (by simp))
  rw [HK.out]
  have hs1 := HB1.out.size
  clear hb1
  go_wp2_with fail
  refine (End_any ⟨#[97, 98]⟩ _ (by decide)).mono ?_
  rintro e w2 ⟨rfl, hb2⟩
  rw [HE.out]
  have hs2 := hb2.size
  go_wp2_with fail
  refine (Int_any _ 2 [1, 2] _ (ints_at w2 _) (by decide)).mono ?_
  rintro e w3 ⟨v3, rfl, hown3, hb3⟩
  obtain ⟨go, c, rfl⟩ := own_slice3 hown3
  have HB3 : Hid (Below w.heap.size w w3) := ((HB1.out.trans (hb2.mono hs1)).alloc (by omega) _).trans (hb3.mono (by simp; omega))
  clear hown3 hb2 hb3
  go_wp2
  go_ret
  exact ⟨rfl, HB3.out⟩
end Go.Proofs.YtceghgbkiafklaaDoor.Od
