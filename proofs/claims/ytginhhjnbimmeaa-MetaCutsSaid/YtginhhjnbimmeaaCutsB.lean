/- Messages that are cut 16 to 22 times, reckoned by the kernel. -/
import Derived.Test.YtginhhjnbimmeaaCutsDefs
namespace Go.Proofs.Ytginhhjnbimmeaa.cuts
open Go.X Go.RowKit Go.Proofs.Ytginhhjnbimmeaa.rk
set_option linter.unusedVariables false

theorem t16 : cutOk 16 true := by unfold cutOk; kernel_rfl
theorem f16 : cutOk 16 false := by unfold cutOk; kernel_rfl
theorem t17 : cutOk 17 true := by unfold cutOk; kernel_rfl
theorem f17 : cutOk 17 false := by unfold cutOk; kernel_rfl
theorem t18 : cutOk 18 true := by unfold cutOk; kernel_rfl
theorem f18 : cutOk 18 false := by unfold cutOk; kernel_rfl
theorem t19 : cutOk 19 true := by unfold cutOk; kernel_rfl
theorem f19 : cutOk 19 false := by unfold cutOk; kernel_rfl
theorem t20 : cutOk 20 true := by unfold cutOk; kernel_rfl
theorem f20 : cutOk 20 false := by unfold cutOk; kernel_rfl
theorem t21 : cutOk 21 true := by unfold cutOk; kernel_rfl
theorem f21 : cutOk 21 false := by unfold cutOk; kernel_rfl
theorem t22 : cutOk 22 true := by unfold cutOk; kernel_rfl
theorem f22 : cutOk 22 false := by unfold cutOk; kernel_rfl

end Go.Proofs.Ytginhhjnbimmeaa.cuts
