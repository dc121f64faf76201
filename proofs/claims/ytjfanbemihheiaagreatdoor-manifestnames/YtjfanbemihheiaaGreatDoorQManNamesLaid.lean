/-
  ManifestNames: what its row lays: the table of powers of ten, the two errors; a world that has laid them.
-/
import Derived.Test.YtjfanbemihheiaaGreatDoorQManParseR
import Derived.Test.YtjfanbemihheiaaGreatDoorQManOpen
import Derived.Stop.LaidErr
import Derived.LaidSub
import Derived.Lib.LaidTab
import Derived.Deep.DeepHandedRow
namespace Go.Proofs.YtjfanbemihheiaaGreatDoor.Ma
open Go.RowKit
set_option linter.unusedVariables false

/-- The name that the errors' own type goes by. -/
def esName : String := match (Rows.laid_strconv_ErrRange (H := Unit)) with
  | .iface nm _ => nm
  | _ => ""
theorem rowES (u : TypeId) (h : Tryz.prog.typeName? 3 u = some esName) : u = 187 :=
  typeName_ptr_named (nm := "errors.errorString") (by kernel_rfl) (by kernel_rfl) (by decide) u (h.trans (congrArg some (by kernel_rfl)))
theorem met_of {W : World} (h : laidMetH Tryz.prog Rows.manifestNamesUptoRow.laid W) : Pow W ∧ Errs W := by
  have h1 : laidMet Tryz.prog Rows.manifestNamesUptoRow.laid W := by
    have := (laidMetH_iff.1 h).1
    exact this
  have hp := laidMet.tail (laidMet.tail h1)
  have hr := hp.tail
  obtain ⟨a1, s1, q1, _, _, _⟩ := laid_sentinel hr (g := 1) (by kernel_rfl) (by kernel_rfl) Tryz.underlying94 rowES Tryz.underlying187 Tryz.underlying189 rfl rfl Tryz.underlying9 (by kernel_rfl) (by kernel_rfl)
  obtain ⟨a2, s2, q2, _, _, _⟩ := laid_sentinel hr.tail (g := 0) (by kernel_rfl) (by kernel_rfl) Tryz.underlying94 rowES Tryz.underlying187 Tryz.underlying189 rfl rfl Tryz.underlying9 (by kernel_rfl) (by kernel_rfl)
  refine ⟨?_, ⟨_, _, q2⟩, ⟨_, _, q1⟩⟩
  exact Lib.tabIs_of_head (k := .u64) (zs := Lib.pow10Tab) (g := 2) (by kernel_rfl) (by kernel_rfl) Tryz.underlying184 Tryz.underlying62 (by kernel_rfl) (by kernel_rfl) hp
def errText (t : List UInt8) : Obj := .cells #[.string ⟨t.toArray⟩] 189 (0, 0)
def putErr (b : Nat) : Obj → Obj
  | .cells _ t frozen => .cells #[.iface 187 (.pointer (some ⟨b, 0, none⟩))] t frozen
  | o => o
def errAt (v b : Nat) (w : World) : World := { w with heap := w.heap.modify v (putErr b) }
/-- The three tables and the two errors, in two blocks more. -/
def laidN (w : World) : World :=
  errAt 1 w.heap.size (errAt 0 (w.heap.size + 1) (laid ((w.alloc (errText [118, 97, 108, 117, 101, 32, 111, 117, 116, 32, 111, 102, 32, 114, 97, 110, 103, 101])).alloc (errText [105, 110, 118, 97, 108, 105, 100, 32, 115, 121, 110, 116, 97, 120]))))
end Go.Proofs.YtjfanbemihheiaaGreatDoor.Ma
