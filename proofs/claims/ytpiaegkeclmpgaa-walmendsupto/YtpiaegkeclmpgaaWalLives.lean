/-
  The statements' first question: the document's example 1 of layer 5 comes out.
-/
import Derived.Test.YtpiaegkeclmpgaaWalHeld
import Derived.Test.YtpiaegkeclmpgaaCmSame
import Derived.Test.YtpiaegkeclmpgaaCmTexts
namespace Go.Proofs.Ytpiaegkeclmpgaa.Wl
open Go.RowKit Cm Vf
set_option linter.unusedVariables false

/-- The name of the statements' log. -/
def LN : ByteArray := ⟨#[108, 111, 103]⟩
theorem isLN : isName LN.data.toList = true := by decide
theorem LN_mk : (⟨#[108, 111, 103]⟩ : ByteArray) = LN := rfl
set_option maxRecDepth 100000 in
set_option maxHeartbeats 1000000 in
theorem lives_any (w : World) : Calls Try.prog 7 #[] w fun e w' => e = .returned (.bool true) ∧ Below w.heap.size w w' := by
  go_enter Try.func7, Try.ntmps7
  go_wp2_with fail
  refine (newHeld LN w).mono ?_
  rintro e w1 ⟨rfl, H1, hb1⟩
  have H1 : Hid (Held w1 (fun k => w.heap.size ≤ k) (w.heap.size + 1) LN [] [] 0) := H1
  have hs1 := hb1.size
  go_wp2_with fail
  refine (H1.out.open isLN (by decide)).mono ?_
  rintro e w2 ⟨lb, ao, cap, rfl, ho2, L2, hl2, hb2⟩
  have hs2 := hb2.size
  have HB2 : Hid (Below w.heap.size w w2) := hb1.trans (hb2.mono hs1)
  have hlt2 := L2.lt
  have L2 : Hid (LogAt w2 lb 0 (w.heap.size + 1) LN false) := L2
  have H2 : Hid (Held w2 (Cut (fun k => w.heap.size ≤ k) w1 w2) (w.heap.size + 1) LN [] [] 0) := H1.out.cutTo hb2
  have hn2 : ¬ Cut (fun k => w.heap.size ≤ k) w1 w2 lb := Cut.out hl2 hlt2
  have hc2 : ∀ k, w2.heap.size ≤ k → Cut (fun k => w.heap.size ≤ k) w1 w2 k := fun k e => .inr e
  have hlo : ∀ k, Cut (fun k => w.heap.size ≤ k) w1 w2 k → w.heap.size ≤ k := fun k e => Cut.lo (fun k e => e) (by omega) e
  generalize Cut (fun k => w.heap.size ≤ k) w1 w2 = S at *
  clear ho2 hb1 hb2 H1
  have HAp : Hid _ := Held.append (xs := [⟨#[97]⟩, ⟨#[98]⟩]) (H2.out.alloc (.cells #[.string ⟨#[97]⟩, .string ⟨#[98]⟩] 9)) (fun k e => hc2 k (by simp at e; omega)) (L2.out.below ((Below.refl _ _).alloc (Nat.le_refl _) _)) hn2 isLN (some ⟨w2.heap.size, 0, none⟩) 2 (Fr.cells2' _ _) (by decide) (by decide) (fun y hy => by simp at hy; rcases hy with rfl | rfl <;> decide) (by decide) (by decide) (by decide)
  go_wp2_with fail
  refine (show Calls _ _ _ _ _ from HAp.out).mono ?_
  rintro e w3 ⟨rfl, H3, L3, hc3⟩
  have H3 : Hid (Held w3 S (w.heap.size + 1) LN [⟨#[97]⟩, ⟨#[98]⟩] [] 2) := H3
  have hB3 : Below w.heap.size (w2.alloc (.cells #[.string ⟨#[97]⟩, .string ⟨#[98]⟩] 9)) w3 := hc3.below (fun k e => e.elim (hlo k) (fun e => by omega)) (by simp; omega)
  have HB3 : Hid (Below w.heap.size w w3) := (HB2.out.alloc (by omega) _).trans hB3
  have hs3 := HB3.out.size
  clear HAp HB2 H2 L2 hc3 L3 hB3
  go_wp2_with fail
  refine H3.out.acts.mono ?_
  rintro e w4 ⟨rfl, rfl⟩
  go_wp2_with fail
  refine (H3.out.open isLN (by decide)).mono ?_
  rintro e w5 ⟨lb5, ao5, cap5, rfl, ho5, L5, hl5, hb5⟩
  have HB5 : Hid (Below w.heap.size w w5) := HB3.out.trans (hb5.mono hs3)
  have hs5 := HB5.out.size
  have L5 : Hid (LogAt w5 lb5 2 (w.heap.size + 1) LN false) := L5
  have HC5 : Hid (CellsAt w5 ao5 (strVals [⟨#[97]⟩, ⟨#[98]⟩])) := (own_slice ho5).1
  clear ho5 hb5 H3 HB3
  go_wp2_with fail
  refine (same_any ao5 (some ⟨w5.heap.size, 0, none⟩) cap5 2 [⟨#[97]⟩, ⟨#[98]⟩] _ (HC5.out.alloc _) (Fr.cells2' _ _) (by decide)).mono ?_
  rintro e w6 ⟨rfl, n6, rfl⟩
  have L6 : Hid (LogAt ((w5.alloc (.cells #[.string ⟨#[97]⟩, .string ⟨#[98]⟩] 9)).drewN n6) lb5 2 (w.heap.size + 1) LN false) := L5.out.below (Fr.below_drew ((Below.refl _ _).alloc (Nat.le_refl _) _))
  have HB6 : Hid (Below w.heap.size w ((w5.alloc (.cells #[.string ⟨#[97]⟩, .string ⟨#[98]⟩] 9)).drewN n6)) := Fr.below_drew (HB5.out.alloc hs5 _)
  generalize (w5.alloc (.cells #[.string ⟨#[97]⟩, .string ⟨#[98]⟩] 9)).drewN n6 = w6 at *
  clear HC5 L5 HB5
  go_wp2_with fail
  refine (torn_any _ _ _ _ _ _ L6.out).mono ?_
  rintro e w7 ⟨rfl, rfl⟩
  go_wp2_with fail
  refine (count_any _ _ _ _ _ _ L6.out).mono ?_
  rintro e w8 ⟨rfl, rfl⟩
  go_wp2
  go_ret
  exact ⟨rfl, HB6.out⟩
end Go.Proofs.Ytpiaegkeclmpgaa.Wl
