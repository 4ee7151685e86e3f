/- A slice of bytes of the call's own. -/
import Derived.Test.YtkmiijmoejcjgaaGreatProg
import Derived.Test.YtkmiijmoejcjgaaGreatMath
import Derived.Lib.Hide
import Derived.OwnWalk
import Derived.Maps.AppendAt
namespace Go.Proofs.YtkmiijmoejcjgaaGreat
open Go.RowKit
set_option linter.unusedVariables false

theorem Tryz.info5 : (Tryz.prog.info? 5).map (fun i => (i.zero, i.size, i.bytes)) = some (some (.int .u8 0), 1, 1) := by kernel_rfl

/-- A slice of the call's own that holds bytes. -/
def ownsBytes (w : World) (base : Nat) (s : Value) (l : List Int) : Prop := w.ownsRow base 5 1 s l.length (l.map (Value.int .u8))

end Go.Proofs.YtkmiijmoejcjgaaGreat
