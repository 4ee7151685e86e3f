/- Messages that are cut 23 to 27 times, reckoned by the kernel. -/
import Derived.Test.YtginhhjnbimmeaaCutsDefs
namespace Go.Proofs.Ytginhhjnbimmeaa.cuts
open Go.X Go.RowKit Go.Proofs.Ytginhhjnbimmeaa.rk
set_option linter.unusedVariables false

theorem t23 : cutOk 23 true := by unfold cutOk; kernel_rfl
theorem f23 : cutOk 23 false := by unfold cutOk; kernel_rfl
theorem t24 : cutOk 24 true := by unfold cutOk; kernel_rfl
theorem f24 : cutOk 24 false := by unfold cutOk; kernel_rfl
theorem t25 : cutOk 25 true := by unfold cutOk; kernel_rfl
theorem f25 : cutOk 25 false := by unfold cutOk; kernel_rfl
theorem t26 : cutOk 26 true := by unfold cutOk; kernel_rfl
theorem f26 : cutOk 26 false := by unfold cutOk; kernel_rfl
theorem t27 : cutOk 27 true := by unfold cutOk; kernel_rfl
theorem f27 : cutOk 27 false := by unfold cutOk; kernel_rfl

end Go.Proofs.Ytginhhjnbimmeaa.cuts
