/- A rotation: the kernel reckons each turn of the loop. -/
import Derived.Test.YtmcelbemhklhaaaRotDefs
namespace Go.Proofs.Ytmcelbemhklhaaa.rotateSteps
open Go.X Go.Proofs.Ytmcelbemhklhaaa.rk

theorem seg4a_5 : those seg4a 5 5 = true := by kernel_rfl
theorem seg4b_5 : those seg4b 5 5 = true := by kernel_rfl
end Go.Proofs.Ytmcelbemhklhaaa.rotateSteps
