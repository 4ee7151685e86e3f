/- An access's own bytes: the kernel reckons each piece. -/
import Derived.Test.YtlfahlalpgolcaaOwnDefs
namespace Go.Proofs.Ytlfahlalpgolcaa.membufOwn
open Go.X Go.Proofs.Ytlfahlalpgolcaa.rk

theorem rx0 : segRX 0 = true := by kernel_rfl
theorem rx1 : segRX 1 = true := by kernel_rfl
theorem rx2 : segRX 2 = true := by kernel_rfl
theorem rx3 : segRX 3 = true := by kernel_rfl
theorem rx4 : segRX 4 = true := by kernel_rfl
end Go.Proofs.Ytlfahlalpgolcaa.membufOwn
