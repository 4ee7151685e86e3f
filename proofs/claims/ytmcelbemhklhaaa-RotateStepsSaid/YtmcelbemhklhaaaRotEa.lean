/- A rotation: the kernel reckons each turn of the loop. -/
import Derived.Test.YtmcelbemhklhaaaRotDefs
namespace Go.Proofs.Ytmcelbemhklhaaa.rotateSteps
open Go.X Go.Proofs.Ytmcelbemhklhaaa.rk

theorem seg2_15 : those seg2 15 5 = true := by kernel_rfl
theorem seg3_15 : those seg3 15 5 = true := by kernel_rfl
end Go.Proofs.Ytmcelbemhklhaaa.rotateSteps
