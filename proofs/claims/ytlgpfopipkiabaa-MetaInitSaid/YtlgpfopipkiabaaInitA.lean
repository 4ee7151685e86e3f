/- A new log's machine: the kernel reckons each turn of the loop. -/
import Derived.Test.YtlgpfopipkiabaaInitDefs
namespace Go.Proofs.Ytlgpfopipkiabaa.metaInit
open Go.X Go.Proofs.Ytlgpfopipkiabaa.rk

theorem ab1 : segAB 1 = true := by kernel_rfl
theorem ab2 : segAB 2 = true := by kernel_rfl
theorem ab3 : segAB 3 = true := by kernel_rfl
theorem ab4 : segAB 4 = true := by kernel_rfl
end Go.Proofs.Ytlgpfopipkiabaa.metaInit
