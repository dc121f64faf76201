/-
  The statements' first question: the document's example 1 of layer 4 comes out.
-/
import Derived.Test.YthiagcialidfjaaVfsCalm
namespace Go.Proofs.Ythiagcialidfjaa.Vf
open Go.RowKit Cm
set_option linter.unusedVariables false

theorem cellsI1 {w : World} (k : Int) : CellsAt (w.alloc (.cells #[.int .i64 k] 3)) (some ⟨w.heap.size, 0, none⟩) ([k].map I64) := .inr ⟨w.heap.size, 0, rfl, by simp, fun j hj => by
    obtain rfl : j = 0 := (by simpa using hj)
    rw [Joins.cell_of_block (heap_alloc_new w _)]; rfl⟩

set_option maxRecDepth 100000 in
set_option maxHeartbeats 1000000 in
theorem lives_any (w : World) : Calls Try.prog 7 #[] w fun e w' => e = .returned (.bool true) ∧ Below w.heap.size w w' := by
  go_enter Try.func7, Try.ntmps7
  go_wp2_with fail
  refine (newCalm w).mono ?_
  rintro e w1 ⟨rfl, HC1, hb1⟩
  have HC1 : Hid _ := HC1
  have hs1 := hb1.size
  go_wp2_with fail
  refine (Calm.append2 HC1.out hs1 ⟨#[97]⟩ ⟨#[120]⟩ ⟨#[121]⟩ (by decide) (by decide) (by decide) (by decide)).mono ?_
  rintro e w2 ⟨rfl, HC2, hb2⟩
  have HC2 : Hid _ := HC2
  have hB2 : Below w.heap.size w w2 := hb1.trans hb2
  have hs2 := hB2.size
  clear hb1 hb2 HC1
  go_wp2_with fail
  refine (Calm.sync HC2.out hs2 ⟨#[97]⟩ ⟨[120, 121], 0⟩ rfl (by decide) (by decide) (by decide)).mono ?_
  rintro e w3 ⟨rfl, HC3, hb3⟩
  have HC3 : Hid _ := HC3
  have hB3 : Below w.heap.size w w3 := hB2.trans hb3
  have hs3 := hB3.size
  clear hB2 hb3 HC2
  go_wp2_with fail
  refine (Calm.append HC3.out hs3 ⟨#[97]⟩ ⟨#[122]⟩ (by decide) (by decide) (by decide) (by decide)).mono ?_
  rintro e w4 ⟨rfl, HC4, hb4⟩
  have hB4 : Below w.heap.size w w4 := hB3.trans hb4
  have hs4 := hB4.size
  have HC4' : Hid (Calm w4 w.heap.size (w.heap.size + 1) (fun y => if y = [97] then some ⟨[120, 121, 122], 2⟩ else none) 3 3) := by
    have : (setF (setF (setF (fun _ => none) [97] (some ⟨[120, 121], 0⟩)) [97] (some (File.sync ⟨[120, 121], 0⟩))) [97] (some ⟨[120, 121, 122], 2⟩)) = fun y => if y = [97] then some ⟨[120, 121, 122], 2⟩ else none := by
      funext y; unfold setF; split <;> rfl
    rw [← this]; exact HC4
  clear hB3 hb4 HC3 HC4
  go_wp2_with fail
  have hcr := Calm.crash (w := w4.alloc (.cells #[.int .i64 0] 3)) (HC4'.out.below ((Below.refl _ _).alloc (Nat.le_refl _) _)) (some ⟨w4.heap.size, 0, none⟩) 1 [0] (cellsI1 0) (by decide) (by decide) (fun x f hf => by split at hf <;> cases hf; decide)
  refine (show Calls _ _ _ _ _ from hcr).mono ?_
  rintro e w5 ⟨b', ks, rfl, hN, HC5, hb5⟩
  obtain rfl : ks = [[97]] := hN.unique (names_one (fun y => rfl))
  have hB5 : Below w4.heap.size w4 w5 := ((Below.refl _ _).alloc (Nat.le_refl _) _).trans (hb5.mono (by simp))
  have HC5' : Hid _ := HC5
  have HC6 : Hid _ := HC4'.out.below hB5
  have hBw : Below w.heap.size w w5 := hB4.trans (hB5.mono hs4)
  have hs5 := hBw.size
  clear hcr hN HC5 hb5 hB5 hB4 HC4'
  go_wp2_with fail
  refine (Calm.read HC5'.out ⟨#[97]⟩ (by decide)).mono ?_
  have er : (oldM (fun x => crashed (fun y => if y = [97] then some ⟨[120, 121, 122], 2⟩ else none) [0] x [[97]]) (⟨#[97]⟩ : ByteArray).data.toList).bytes = [120, 121] := by decide
  have en : (if (crashed (fun y => if y = [97] then some ⟨[120, 121, 122], 2⟩ else none) [0] (⟨#[97]⟩ : ByteArray).data.toList [[97]]).isNone then (5 : Int) else 0) = 0 := by decide
  rintro e w6 ⟨rfl, hb6⟩
  rw [er, en]
  have HC7 : Hid _ := Calm.below HC6.out hb6
  have HC8 : Hid _ := Calm.below HC5'.out hb6
  have hB6 : Below w.heap.size w w6 := hBw.trans (hb6.mono hs5)
  clear hb6 er en HC5' HC6 hBw
  go_wp2_with fail
  refine (Calm.acts HC7.out).mono ?_
  rintro e w7 ⟨rfl, rfl⟩
  go_wp2_with fail
  refine (Calm.acts HC8.out).mono ?_
  rintro e w8 ⟨rfl, rfl⟩
  go_wp2
  go_ret
  exact ⟨rfl, hB6⟩
end Go.Proofs.Ythiagcialidfjaa.Vf
