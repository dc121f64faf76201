/-
  The document's Same says that equal lists of texts are the same, and only reads.
-/
import Derived.Test.YtcnlipomealojaaCmHeap
import Derived.BigQuiet
namespace Go.Proofs.Ytcnlipomealojaa.Cm
open Go.RowKit
set_option linter.unusedVariables false

set_option maxRecDepth 100000 in
set_option maxHeartbeats 2000000 in
theorem same_any (ao bo : Option Addr) (ca cb : Nat) (xs : List ByteArray) (w : World) (ha : CellsAt w ao (strVals xs)) (hb : CellsAt w bo (strVals xs)) (hlen : xs.length ≤ 140737488351232) :
    Calls Try.prog 9 #[.slice ao xs.length ca, .slice bo xs.length cb] w fun e w' => e = .returned (.bool true) ∧ ∃ n, w' = w.drewN n := by
  go_enter Try.func9, Try.ntmps9
  go_wp2
  go_loopw [13] (fun i wr => ∃ k m : Nat, k ≤ xs.length ∧ i = .int .i64 k ∧ Hid (wr = w.drewN m)) (fun i _ => xs.length - (intOf i).toNat)
  case atStart => exact ⟨0, 0, by omega, rfl, rfl⟩
  case round =>
    obtain ⟨k, m, hk, rfl, HW⟩ := hrel
    by_cases hlt : k < xs.length
    · have hwr := HW.out
      subst hwr
      clear HW
      have hl : k < (strVals xs).length := by simpa [strVals] using hlt
      have hx : (strVals xs)[k]? = some (.string (xs.getD k ByteArray.empty)) := by simp [strVals, hlt]
      rcases ha with h0 | ⟨b1, o1, rfl, _, hc1⟩
      · rw [h0] at hl; simp at hl
      rcases hb with h0 | ⟨b2, o2, rfl, _, hc2⟩
      · rw [h0] at hl; simp at hl
      have hd1 := hc1 k hl
      have hd2 := hc2 k hl
      rw [hx] at hd1 hd2
      generalize xs.getD k ByteArray.empty = x at *
      have hk0 : (0 : Int) ≤ (k : Int) := by omega
      have hk1 : (k : Int) < (xs.length : Int) := by omega
      clear hc1 hc2 hx hl
      go_wp2
      go_quiet (fail)
      go_wp2
      go_roundw
      case rel => exact ⟨k + 1, _, by omega, by go_num, hid_rfl⟩
      case measure => simp [intOf]; omega
    · go_wp2
      go_ret
      exact ⟨rfl, m, HW.out⟩

end Go.Proofs.Ytcnlipomealojaa.Cm
