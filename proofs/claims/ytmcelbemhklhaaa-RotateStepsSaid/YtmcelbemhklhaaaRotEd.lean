/- A rotation: the kernel reckons each turn of the loop. -/
import Derived.Test.YtmcelbemhklhaaaRotDefs
namespace Go.Proofs.Ytmcelbemhklhaaa.rotateSteps
open Go.X Go.Proofs.Ytmcelbemhklhaaa.rk

theorem seg6b_15x : those seg6b 15 2 = true := by kernel_rfl
theorem seg6b_17x : seg6b 17 = true := by kernel_rfl
theorem seg6b_18x : seg6b 18 = true := by kernel_rfl
theorem seg6b_19x : seg6b 19 = true := by kernel_rfl
theorem seg6b_15 : those seg6b 15 5 = true :=
  show band (band (band (those seg6b 15 2) (seg6b 17)) (seg6b 18)) (seg6b 19) = true from band_true.2 ⟨band_true.2 ⟨band_true.2 ⟨seg6b_15x, seg6b_17x⟩, seg6b_18x⟩, seg6b_19x⟩
end Go.Proofs.Ytmcelbemhklhaaa.rotateSteps
