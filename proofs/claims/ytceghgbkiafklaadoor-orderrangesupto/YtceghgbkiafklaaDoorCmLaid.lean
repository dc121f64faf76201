/-
  A world for the witness: the two tables of package utf8 (blocks 1 and 2 of this translation) hold what their initialisers lay.
-/
import Derived.Test.YtceghgbkiafklaaDoorRows
import Derived.Deep.DeepHandedRow
import Derived.Lib.LaidTab
namespace Go.Proofs.YtceghgbkiafklaaDoor.Cm

def litVal : DataW Unit → Value
  | .lit (.int k n) => .int k n
  | _ => .int .u8 0
def flatVals : DataW Unit → List Value
  | .agg l => l.map litVal
  | _ => []
def flatVals2 : DataW Unit → List Value
  | .agg l => l.flatMap flatVals
  | _ => []
def layFirst : Obj → Obj
  | .cells _ t frozen => .cells (flatVals Rows.laid_unicode_utf8_first).toArray t frozen
  | o => o
def layRanges : Obj → Obj
  | .cells _ t frozen => .cells (flatVals2 Rows.laid_unicode_utf8_acceptRanges).toArray t frozen
  | o => o
def laid (w : World) : World := { w with heap := (w.heap.modify 1 layFirst).modify 2 layRanges }
end Go.Proofs.YtceghgbkiafklaaDoor.Cm
