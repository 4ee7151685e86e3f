/- A send: the kernel reckons each turn. -/
import Derived.Test.YtkmiijmoejcjgaaGreatCastDefs
namespace Go.Proofs.YtkmiijmoejcjgaaGreat.castSteps
open Go.X Go.Proofs.YtkmiijmoejcjgaaGreat.rk

theorem more_f56 : those (segMore false) 56 1 = true := by kernel_rfl
theorem stop_f56 : those (segStop false) 56 2 = true := by kernel_rfl
theorem last_f56 : those (segLast false) 56 1 = true := by kernel_rfl
theorem ta_f56 : those (segTa false) 56 1 = true := by kernel_rfl
end Go.Proofs.YtkmiijmoejcjgaaGreat.castSteps
