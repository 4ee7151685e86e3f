/- An access's own bytes: the kernel reckons each piece. -/
import Derived.Test.YtlfahlalpgolcaaOwnDefs
namespace Go.Proofs.Ytlfahlalpgolcaa.membufOwn
open Go.X Go.Proofs.Ytlfahlalpgolcaa.rk

theorem rx5 : segRX 5 = true := by kernel_rfl
theorem rx6 : segRX 6 = true := by kernel_rfl
theorem rx7 : segRX 7 = true := by kernel_rfl
theorem rx8 : segRX 8 = true := by kernel_rfl
end Go.Proofs.Ytlfahlalpgolcaa.membufOwn
