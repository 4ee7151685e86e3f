/- Messages that are cut 28 to 31 times, reckoned by the kernel. -/
import Derived.Test.YtginhhjnbimmeaaCutsDefs
namespace Go.Proofs.Ytginhhjnbimmeaa.cuts
open Go.X Go.RowKit Go.Proofs.Ytginhhjnbimmeaa.rk
set_option linter.unusedVariables false

theorem t28 : cutOk 28 true := by unfold cutOk; kernel_rfl
theorem f28 : cutOk 28 false := by unfold cutOk; kernel_rfl
theorem t29 : cutOk 29 true := by unfold cutOk; kernel_rfl
theorem f29 : cutOk 29 false := by unfold cutOk; kernel_rfl
theorem t30 : cutOk 30 true := by unfold cutOk; kernel_rfl
theorem f30 : cutOk 30 false := by unfold cutOk; kernel_rfl
theorem t31 : cutOk 31 true := by unfold cutOk; kernel_rfl
theorem f31 : cutOk 31 false := by unfold cutOk; kernel_rfl

end Go.Proofs.Ytginhhjnbimmeaa.cuts
