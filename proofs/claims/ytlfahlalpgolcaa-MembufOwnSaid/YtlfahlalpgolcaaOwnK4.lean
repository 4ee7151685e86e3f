/- An access's own bytes: the kernel reckons each piece. -/
import Derived.Test.YtlfahlalpgolcaaOwnDefsB
namespace Go.Proofs.Ytlfahlalpgolcaa.membufOwn
open Go.X Go.Proofs.Ytlfahlalpgolcaa.rk

theorem k4_4 : segK2 4 4 = true := by kernel_rfl
theorem k4_8 : segK2 4 8 = true := by kernel_rfl
end Go.Proofs.Ytlfahlalpgolcaa.membufOwn
