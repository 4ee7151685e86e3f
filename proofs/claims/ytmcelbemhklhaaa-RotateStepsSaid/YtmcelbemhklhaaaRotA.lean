/- A rotation: the kernel reckons each turn of the loop. -/
import Derived.Test.YtmcelbemhklhaaaRotDefs
namespace Go.Proofs.Ytmcelbemhklhaaa.rotateSteps
open Go.X Go.Proofs.Ytmcelbemhklhaaa.rk

theorem s1 : seg1 = true := by kernel_rfl
theorem s5 : seg5 = true := by kernel_rfl
theorem sM : segM = true := by kernel_rfl
theorem bT : segB true = true := by kernel_rfl
theorem bF : segB false = true := by kernel_rfl
theorem oT : segO true = true := by kernel_rfl
theorem oF : segO false = true := by kernel_rfl
theorem zT : segZ true = true := by kernel_rfl
theorem zF : segZ false = true := by kernel_rfl
theorem pT : segP true treeT = true := by kernel_rfl
theorem pF : segP false treeF = true := by kernel_rfl
end Go.Proofs.Ytmcelbemhklhaaa.rotateSteps
