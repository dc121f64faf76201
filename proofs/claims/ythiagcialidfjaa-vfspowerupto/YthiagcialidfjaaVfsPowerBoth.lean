/-
  The walk of the statement VfsPower, for both kinds of fate.
-/
import Derived.Test.YthiagcialidfjaaVfsPowerWalk
namespace Go.Proofs.Ythiagcialidfjaa.Vf
open Go.RowKit Cm
theorem power_walk (ax : Option Addr) (cx : Nat) (xs : List ByteArray) (x : Int) (aft : Bool) (w : World) (hx : CellsAt w ax (strVals xs)) (hb : xs.length + total xs ≤ 2199023255552) :
    Calls Try.prog 4 #[.slice ax xs.length cx, .int .i64 x, .bool aft] w fun e w' => e = .returned (.bool true) ∧ Below w.heap.size w w' := by
  cases aft
  · exact power_walk_false ax cx xs x w hx hb
  · exact power_walk_true ax cx xs x w hx hb
end Go.Proofs.Ythiagcialidfjaa.Vf
