/- A rotation: the kernel reckons each turn of the loop. -/
import Derived.Test.YtmcelbemhklhaaaRotDefs
namespace Go.Proofs.Ytmcelbemhklhaaa.rotateSteps
open Go.X Go.Proofs.Ytmcelbemhklhaaa.rk

theorem seg6a_10 : those seg6a 10 5 = true := by kernel_rfl
theorem seg6b_10 : those seg6b 10 5 = true := by kernel_rfl
end Go.Proofs.Ytmcelbemhklhaaa.rotateSteps
