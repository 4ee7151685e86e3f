/- A rotation: the kernel reckons each turn of the loop. -/
import Derived.Test.YtmcelbemhklhaaaRotDefs
namespace Go.Proofs.Ytmcelbemhklhaaa.rotateSteps
open Go.X Go.Proofs.Ytmcelbemhklhaaa.rk

theorem seg6a_15x : those seg6a 15 2 = true := by kernel_rfl
theorem seg6a_17x : seg6a 17 = true := by kernel_rfl
theorem seg6a_18x : seg6a 18 = true := by kernel_rfl
theorem seg6a_19x : seg6a 19 = true := by kernel_rfl
theorem seg6a_15 : those seg6a 15 5 = true :=
  show band (band (band (those seg6a 15 2) (seg6a 17)) (seg6a 18)) (seg6a 19) = true from band_true.2 ⟨band_true.2 ⟨band_true.2 ⟨seg6a_15x, seg6a_17x⟩, seg6a_18x⟩, seg6a_19x⟩
end Go.Proofs.Ytmcelbemhklhaaa.rotateSteps
