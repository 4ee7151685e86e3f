/- A rotation: the kernel reckons each turn of the loop. -/
import Derived.Test.YtmcelbemhklhaaaRotDefs
namespace Go.Proofs.Ytmcelbemhklhaaa.rotateSteps
open Go.X Go.Proofs.Ytmcelbemhklhaaa.rk

theorem seg4a_15 : those seg4a 15 5 = true := by kernel_rfl
theorem seg4b_15 : those seg4b 15 5 = true := by kernel_rfl
end Go.Proofs.Ytmcelbemhklhaaa.rotateSteps
