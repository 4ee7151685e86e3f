/- An access's own bytes: the kernel reckons each piece. -/
import Derived.Test.YtlfahlalpgolcaaOwnDefs
namespace Go.Proofs.Ytlfahlalpgolcaa.membufOwn
open Go.X Go.Proofs.Ytlfahlalpgolcaa.rk

theorem w1 : segW 1 = true := by kernel_rfl
theorem w2 : segW 2 = true := by kernel_rfl
theorem w3 : segW 3 = true := by kernel_rfl
theorem w4 : segW 4 = true := by kernel_rfl
end Go.Proofs.Ytlfahlalpgolcaa.membufOwn
