/- An access's own bytes: the kernel reckons each piece. -/
import Derived.Test.YtlfahlalpgolcaaOwnDefs
namespace Go.Proofs.Ytlfahlalpgolcaa.membufOwn
open Go.X Go.Proofs.Ytlfahlalpgolcaa.rk

theorem k5_0 : segK 5 0 = true := by kernel_rfl
theorem k5_1 : segK 5 1 = true := by kernel_rfl
theorem k5_2 : segK 5 2 = true := by kernel_rfl
theorem k5_3 : segK 5 3 = true := by kernel_rfl
theorem k5_4 : segK 5 4 = true := by kernel_rfl
end Go.Proofs.Ytlfahlalpgolcaa.membufOwn
