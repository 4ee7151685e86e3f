/- A new log's machine: the kernel reckons each turn of the loop. -/
import Derived.Test.YtlgpfopipkiabaaInitDefs
namespace Go.Proofs.Ytlgpfopipkiabaa.metaInit
open Go.X Go.Proofs.Ytlgpfopipkiabaa.rk

theorem c1 : segC 1 = true := by kernel_rfl
theorem d1 : segD 1 = true := by kernel_rfl
theorem c2 : segC 2 = true := by kernel_rfl
theorem d2 : segD 2 = true := by kernel_rfl
theorem c3 : segC 3 = true := by kernel_rfl
theorem d3 : segD 3 = true := by kernel_rfl
theorem c4 : segC 4 = true := by kernel_rfl
theorem d4 : segD 4 = true := by kernel_rfl
theorem c5 : segC 5 = true := by kernel_rfl
theorem d5 : segD 5 = true := by kernel_rfl
theorem c6 : segC 6 = true := by kernel_rfl
theorem d6 : segD 6 = true := by kernel_rfl
theorem c7 : segC 7 = true := by kernel_rfl
theorem d7 : segD 7 = true := by kernel_rfl
theorem c8 : segC 8 = true := by kernel_rfl
theorem d8 : segD 8 = true := by kernel_rfl
theorem eT : segE true = true := by kernel_rfl
theorem eF : segE false = true := by kernel_rfl
theorem gT : segG true = true := by kernel_rfl
theorem gF : segG false = true := by kernel_rfl
theorem oT : segO true = true := by kernel_rfl
theorem oF : segO false = true := by kernel_rfl
theorem zT : segZ true = true := by kernel_rfl
theorem zF : segZ false = true := by kernel_rfl
theorem pT : segP true treeT = true := by kernel_rfl
theorem pF : segP false treeF = true := by kernel_rfl

end Go.Proofs.Ytlgpfopipkiabaa.metaInit
