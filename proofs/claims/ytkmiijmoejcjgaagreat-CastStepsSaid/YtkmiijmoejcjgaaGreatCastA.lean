/- A send: the kernel reckons each turn. -/
import Derived.Test.YtkmiijmoejcjgaaGreatCastDefs
namespace Go.Proofs.YtkmiijmoejcjgaaGreat.castSteps
open Go.X Go.Proofs.YtkmiijmoejcjgaaGreat.rk

theorem first_f : segFirst false = true := by kernel_rfl
theorem head_ff : segHead false false = true := by kernel_rfl
theorem head_ft : segHead false true = true := by kernel_rfl
theorem first_t : segFirst true = true := by kernel_rfl
theorem head_tf : segHead true false = true := by kernel_rfl
theorem head_tt : segHead true true = true := by kernel_rfl
theorem record_f : segRecord false = true := by kernel_rfl
theorem none_f : segNone false = true := by kernel_rfl
theorem record_t : segRecord true = true := by kernel_rfl
theorem none_t : segNone true = true := by kernel_rfl
end Go.Proofs.YtkmiijmoejcjgaaGreat.castSteps
