/-
  The reference's comparison of lists of parts answers true for equal lists.
-/
import Derived.Test.YtceghgbkiafklaaDoorOrderRows
import Derived.Laws.StructEq
namespace Go.Proofs.YtceghgbkiafklaaDoor.Od
open Go.RowKit
open Go.Proofs.YtceghgbkiafklaaDoor.Cm
attribute [local go_sem ↓] Go.wp_at_zero Go.wp_at_succ
set_option linter.unusedVariables false

theorem guardPart : Tryd.prog.eqGuardType Tryd.prog.depth 25 = false := by kernel_rfl
theorem neq_self (k n : Int) (s : ByteArray) (w : World) : (binOp .neq 25 (.agg #[.int .i64 k, .int .i64 n, .string s]) (.agg #[.int .i64 k, .int .i64 n, .string s])).run Tryd.prog w = .ok (.bool false) w := by
  have u3 := Tryd.underlying3
  have a3 := Tryd.isAgg3
  have z3 := Tryd.sizeOf3
  have u9 := Tryd.underlying9
  have a9 := Tryd.isAgg9
  have z9 := Tryd.sizeOf9
  have hS : Tryd.prog.underlying 25 = some (.struct (Tryd.prog.fieldsOf 25)) := by kernel_rfl
  have hp : Tryd.prog.stoodInHeld 25 = false := by kernel_rfl
  rw [run_neq_struct, show (10000 : Nat) = 9999 + 1 from rfl, run_equalIn_agg w 9999 25 _ _ hS hp]
  simp only [Program.fieldsOf, Tryd.underlying25]
  go_simp

set_option maxRecDepth 100000 in
set_option maxHeartbeats 500000 in
theorem same_any (ao bo : Option Addr) (ca cb : Nat) (ps : List Pt) (w : World) (ha : PartsAt w ao ps) (hb : PartsAt w bo ps) (hlen : ps.length ≤ 140737488351232) :
    Calls Tryd.prog 12 #[.slice ao ps.length ca, .slice bo ps.length cb] w fun e w' => e = .returned (.bool true) ∧ Below w.heap.size w w' := by
  have hgd := guardPart
  have hns := neq_self
  go_enter Tryd.func12, Tryd.ntmps12
  go_wp2
  go_loopw [13] (fun i wr => ∃ k : Nat, k ≤ ps.length ∧ i = .int .i64 k ∧ Hid (Below w.heap.size w wr)) (fun i _ => ps.length - (intOf i).toNat)
  case atStart => exact ⟨0, by omega, rfl, Below.refl _ _⟩
  case round =>
    obtain ⟨k, hk, rfl, HB⟩ := hrel
    by_cases hlt : k < ps.length
    · rcases ha.below HB.out with h0 | ⟨b1, o1, rfl, _, hc1⟩
      · simp [h0] at hlt
      rcases hb.below HB.out with h0 | ⟨b2, o2, rfl, _, hc2⟩
      · simp [h0] at hlt
      obtain ⟨d0, d1, d2⟩ := hc1 k hlt
      obtain ⟨f0, f1, f2⟩ := hc2 k hlt
      generalize ps.getD k Pt.zero = p at *
      have HBd : ∀ n, Hid (Below w.heap.size w (wr.drewN n)) := fun n => show Below w.heap.size w (wr.drewN n) from ⟨HB.out.os, HB.out.tape, HB.out.output, HB.out.size, HB.out.block⟩
      clear hc1 hc2 ha hb
      go_wp2_with fail
      go_quiet (fail)
      go_wp2
      go_roundw
      case rel => exact ⟨k + 1, by omega, by go_num, HBd _⟩
      case measure => simp [intOf]; omega
    · go_wp2
      go_ret
      exact ⟨rfl, HB.out⟩
end Go.Proofs.YtceghgbkiafklaaDoor.Od
