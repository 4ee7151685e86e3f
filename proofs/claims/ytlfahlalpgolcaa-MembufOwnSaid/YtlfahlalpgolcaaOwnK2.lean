/- An access's own bytes: the kernel reckons each piece. -/
import Derived.Test.YtlfahlalpgolcaaOwnDefsB
namespace Go.Proofs.Ytlfahlalpgolcaa.membufOwn
open Go.X Go.Proofs.Ytlfahlalpgolcaa.rk

theorem k2_4 : segK2 2 4 = true := by kernel_rfl
theorem k2_8 : segK2 2 8 = true := by kernel_rfl
end Go.Proofs.Ytlfahlalpgolcaa.membufOwn
