/- A rotation: the kernel reckons each turn of the loop. -/
import Derived.Test.YtmcelbemhklhaaaRotDefs
namespace Go.Proofs.Ytmcelbemhklhaaa.rotateSteps
open Go.X Go.Proofs.Ytmcelbemhklhaaa.rk

theorem seg2_5 : those seg2 5 5 = true := by kernel_rfl
theorem seg3_5 : those seg3 5 5 = true := by kernel_rfl
end Go.Proofs.Ytmcelbemhklhaaa.rotateSteps
