/- An access's own bytes: the kernel reckons each piece. -/
import Derived.Test.YtlfahlalpgolcaaOwnDefs
namespace Go.Proofs.Ytlfahlalpgolcaa.membufOwn
open Go.X Go.Proofs.Ytlfahlalpgolcaa.rk

theorem w5 : segW 5 = true := by kernel_rfl
theorem w6 : segW 6 = true := by kernel_rfl
theorem w7 : segW 7 = true := by kernel_rfl
theorem w8 : segW 8 = true := by kernel_rfl
end Go.Proofs.Ytlfahlalpgolcaa.membufOwn
