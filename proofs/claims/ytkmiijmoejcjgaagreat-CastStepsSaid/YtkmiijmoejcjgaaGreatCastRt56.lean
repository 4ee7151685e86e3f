/- A send: the kernel reckons each turn. -/
import Derived.Test.YtkmiijmoejcjgaaGreatCastDefs
namespace Go.Proofs.YtkmiijmoejcjgaaGreat.castSteps
open Go.X Go.Proofs.YtkmiijmoejcjgaaGreat.rk

theorem stop_t56 : those (segStop true) 56 1 = true := by kernel_rfl
end Go.Proofs.YtkmiijmoejcjgaaGreat.castSteps
