/- An access's own bytes: the kernel reckons each piece. -/
import Derived.Test.YtlfahlalpgolcaaOwnDefs
namespace Go.Proofs.Ytlfahlalpgolcaa.membufOwn
open Go.X Go.Proofs.Ytlfahlalpgolcaa.rk

theorem k5_5 : segK 5 5 = true := by kernel_rfl
theorem k5_6 : segK 5 6 = true := by kernel_rfl
theorem k5_7 : segK 5 7 = true := by kernel_rfl
theorem k5_8 : segK 5 8 = true := by kernel_rfl
end Go.Proofs.Ytlfahlalpgolcaa.membufOwn
