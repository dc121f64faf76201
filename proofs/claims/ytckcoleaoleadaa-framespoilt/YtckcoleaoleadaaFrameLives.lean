/-
  The statements' first question: the document's examples 1 and 2 of layer 2 come out.
-/
import Derived.Test.YtckcoleaoleadaaFrameScan
namespace Go.Proofs.Ytckcoleaoleadaa.Fr
open Go.RowKit Cm
set_option linter.unusedVariables false

theorem Upto.unique {l : List UInt8} {ps qs : List (List UInt8)} {n : Nat} {r : List UInt8} (h : Upto l ps n) (hf : first (l.drop n) = none) (k : Scanned l qs r) : ps = qs ∧ n = (frames qs).length := by
  obtain ⟨rfl, _⟩ := (h.stop hf).unique k
  exact ⟨rfl, h.at_⟩

def emptyFrame : List UInt8 := [0, 0, 0, 0, 33, 68, 223, 28]
theorem frame_nil : frame [] = emptyFrame := by decide +kernel
theorem sum_check : sum [49, 50, 51, 52, 53, 54, 55, 56, 57] = 3421780262 := by decide +kernel
theorem sealed_nil : sealed [⟨#[]⟩] = .tuple #[.string ⟨#[0, 0, 0, 0, 33, 68, 223, 28]⟩, .int .i64 0] := by
  unfold sealed
  rw [if_pos (by intro x hx; simp at hx; subst hx; decide)]
  have : framesB [⟨#[]⟩] = emptyFrame := by
    simp only [framesB, List.flatMap_cons, List.flatMap_nil, List.append_nil]
    exact frame_nil
  rw [this]
  rfl
theorem scanned_lives : Scanned [0, 0, 0, 0, 33, 68, 223, 28, 120] [[]] [120] :=
  ⟨by simp only [frames, List.flatMap_cons, List.flatMap_nil, List.append_nil, frame_nil]; rfl, by simp, first_short (by decide)⟩

set_option maxRecDepth 100000 in
set_option maxHeartbeats 1000000 in
theorem lives_any (w : World) : Calls Try.prog 9 #[] w fun e w' => e = .returned (.bool true) ∧ Below w.heap.size w w' := by
  go_enter Try.func9, Try.ntmps9
  go_wp2_with fail
  refine (seal_any (some ⟨w.heap.size, 0, none⟩) 1 [⟨#[]⟩] _ (cells1' _) (by simp) (by intro x hx; simp at hx; subst hx; decide) ?c1).mono ?_
  case c1 =>
    intro k hk _
    have h1 : framesB [⟨#[]⟩] = emptyFrame := by
      simp only [framesB, List.flatMap_cons, List.flatMap_nil, List.append_nil]
      exact frame_nil
    match k, hk with
    | 0, _ => simp [framesB]
    | 1, _ => show (framesB [⟨#[]⟩]).length ≤ _; rw [h1]; decide
  rintro e w1 ⟨rfl, hb1⟩
  rw [sealed_nil]
  have hB1 : Below w.heap.size w w1 := ((Below.refl _ _).alloc (Nat.le_refl _) _).trans (hb1.mono (by simp))
  have hs1 := hB1.size
  clear hb1
  go_wp2_with fail
  obtain ⟨T, hT⟩ : ∃ T : ByteArray, T = ⟨#[0, 0, 0, 0, 33, 68, 223, 28]⟩ ++ ⟨#[120]⟩ := ⟨_, rfl⟩
  have HT : Hid (T.data.toList = [0, 0, 0, 0, 33, 68, 223, 28, 120]) := by rw [hT]; rfl
  rw [← hT]
  clear hT
  refine (scan_any T _ (by rw [Lib.size_eq, HT.out]; decide)).mono ?_
  rintro e w2 ⟨⟨v, n, ps, rfl, hU, hf, hown⟩, hb2⟩
  obtain ⟨rfl, hn⟩ := hU.unique hf (by rw [HT.out]; exact scanned_lives)
  have hn8 : n = 8 := by rw [hn]; simp only [frames, List.flatMap_cons, List.flatMap_nil, List.append_nil, frame_nil]; rfl
  subst hn8
  obtain ⟨g, cap, rfl, _, _⟩ := hown.form (by simp)
  have hB2 : Below w.heap.size w w2 := hB1.trans (hb2.mono hs1)
  have hs2 := hB2.size
  clear hU hf hn hown hb2 HT
  go_wp2_with fail
  refine (sum_any (some ⟨w2.heap.size, 0, none⟩) 2 [⟨#[49, 50, 51, 52]⟩, ⟨#[53, 54, 55, 56, 57]⟩] _ (cells2' _ _) (by simp) (by intro x hx; simp at hx; rcases hx with rfl | rfl <;> decide)).mono ?_
  rintro e w3 ⟨rfl, rfl⟩
  have hsum : sum (cat [⟨#[49, 50, 51, 52]⟩, ⟨#[53, 54, 55, 56, 57]⟩]) = 3421780262 := sum_check
  rw [hsum]
  go_wp2
  go_ret
  exact ⟨rfl, hB2.alloc hs2 _⟩

end Go.Proofs.Ytckcoleaoleadaa.Fr
