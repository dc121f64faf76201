/-
  For all layers: slices of numbers that came in, opened into plain lists; the bound on their bulk.
-/
import Derived.Test.YtjfanbemihheiaaDoorQCmOpen
namespace Go.Proofs.YtjfanbemihheiaaDoor.Cm
open Go.ChangeShapes Go.WideShapes Go.ChangeAt Go.RowKit Go.Deep
set_option linter.unusedVariables false

theorem cellsInt' : Tryd.prog.cellsOf 3 = 1 := by kernel_rfl
section
variable {H : Type} {enc : TypeId × Value → H} {w : World} {base : Nat} {spare : Nat → Bool} {held : Bool}
def intData (n : Int) : DataW H := .lit (.int .i64 n)
theorem open_intl {ao : Option Addr} {len cap fuel : Nat} {x : DataW H × List MemPlace} (h : DataW.trod enc Tryd.prog w base spare held fuel 34 [.slice ao len cap] = some x) :
    ∃ xs : List Int, xs.length = len ∧ CellsAt w ao (xs.map (Value.int .i64)) ∧ (∀ i ∈ xs, -9223372036854775808 ≤ i ∧ i ≤ 9223372036854775807) ∧ ((len = 0 ∧ x.1 = .nil) ∨ ∃ rest, x.1 = .slice (xs.map intData) rest) ∧ (ao = none → cap = 0) := by
  refine open_list (Value.int .i64) intData (fun i => -9223372036854775808 ≤ i ∧ i ≤ 9223372036854775807) Tryd.underlying34 cellsInt' (fun n v d pl ht => ?_) h
  obtain ⟨u, e1, e2, w1⟩ := DataW.trod_int Tryd.underlying3 ht
  simp at e1 e2
  have b1 : -9223372036854775808 ≤ u ∧ u ≤ 9223372036854775807 := by simpa [Lit.wf, IntKind.min, IntKind.max, IntKind.signed, IntKind.bits] using w1
  exact ⟨u, e1, e2.1, b1⟩
end
theorem bulk_ints {H : Type} (xs : List Int) : xs.length ≤ Rows.uptoBulkAll (xs.map intData : List (DataW H)) := by
  induction xs with
  | nil => simp
  | cons x r ih =>
    have hb : Rows.uptoBulk (intData x : DataW H) = 1 := by simp [intData, Rows.uptoBulk]
    rw [List.map_cons, List.length_cons]
    simp only [Rows.uptoBulkAll, hb]
    omega
end Go.Proofs.YtjfanbemihheiaaDoor.Cm
