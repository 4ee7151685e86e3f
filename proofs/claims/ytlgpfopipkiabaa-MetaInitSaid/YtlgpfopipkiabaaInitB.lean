/- A new log's machine: the kernel reckons each turn of the loop. -/
import Derived.Test.YtlgpfopipkiabaaInitDefs
namespace Go.Proofs.Ytlgpfopipkiabaa.metaInit
open Go.X Go.Proofs.Ytlgpfopipkiabaa.rk

theorem ab5 : segAB 5 = true := by kernel_rfl
theorem ab6 : segAB 6 = true := by kernel_rfl
theorem ab7 : segAB 7 = true := by kernel_rfl
theorem ab8 : segAB 8 = true := by kernel_rfl
end Go.Proofs.Ytlgpfopipkiabaa.metaInit
