/- Messages that are cut 0 to 15 times, reckoned by the kernel. -/
import Derived.Test.YtginhhjnbimmeaaCutsDefs
namespace Go.Proofs.Ytginhhjnbimmeaa.cuts
open Go.X Go.RowKit Go.Proofs.Ytginhhjnbimmeaa.rk
set_option linter.unusedVariables false

theorem t0 : cutOk 0 true := by unfold cutOk; kernel_rfl
theorem f0 : cutOk 0 false := by unfold cutOk; kernel_rfl
theorem t1 : cutOk 1 true := by unfold cutOk; kernel_rfl
theorem f1 : cutOk 1 false := by unfold cutOk; kernel_rfl
theorem t2 : cutOk 2 true := by unfold cutOk; kernel_rfl
theorem f2 : cutOk 2 false := by unfold cutOk; kernel_rfl
theorem t3 : cutOk 3 true := by unfold cutOk; kernel_rfl
theorem f3 : cutOk 3 false := by unfold cutOk; kernel_rfl
theorem t4 : cutOk 4 true := by unfold cutOk; kernel_rfl
theorem f4 : cutOk 4 false := by unfold cutOk; kernel_rfl
theorem t5 : cutOk 5 true := by unfold cutOk; kernel_rfl
theorem f5 : cutOk 5 false := by unfold cutOk; kernel_rfl
theorem t6 : cutOk 6 true := by unfold cutOk; kernel_rfl
theorem f6 : cutOk 6 false := by unfold cutOk; kernel_rfl
theorem t7 : cutOk 7 true := by unfold cutOk; kernel_rfl
theorem f7 : cutOk 7 false := by unfold cutOk; kernel_rfl
theorem t8 : cutOk 8 true := by unfold cutOk; kernel_rfl
theorem f8 : cutOk 8 false := by unfold cutOk; kernel_rfl
theorem t9 : cutOk 9 true := by unfold cutOk; kernel_rfl
theorem f9 : cutOk 9 false := by unfold cutOk; kernel_rfl
theorem t10 : cutOk 10 true := by unfold cutOk; kernel_rfl
theorem f10 : cutOk 10 false := by unfold cutOk; kernel_rfl
theorem t11 : cutOk 11 true := by unfold cutOk; kernel_rfl
theorem f11 : cutOk 11 false := by unfold cutOk; kernel_rfl
theorem t12 : cutOk 12 true := by unfold cutOk; kernel_rfl
theorem f12 : cutOk 12 false := by unfold cutOk; kernel_rfl
theorem t13 : cutOk 13 true := by unfold cutOk; kernel_rfl
theorem f13 : cutOk 13 false := by unfold cutOk; kernel_rfl
theorem t14 : cutOk 14 true := by unfold cutOk; kernel_rfl
theorem f14 : cutOk 14 false := by unfold cutOk; kernel_rfl
theorem t15 : cutOk 15 true := by unfold cutOk; kernel_rfl
theorem f15 : cutOk 15 false := by unfold cutOk; kernel_rfl

end Go.Proofs.Ytginhhjnbimmeaa.cuts
