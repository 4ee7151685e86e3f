/- A send: the kernel reckons each turn. -/
import Derived.Test.YtkmiijmoejcjgaaGreatCastDefs
namespace Go.Proofs.YtkmiijmoejcjgaaGreat.castSteps
open Go.X Go.Proofs.YtkmiijmoejcjgaaGreat.rk

theorem more_f0 : those (segMore false) 0 4 = true := by kernel_rfl
theorem more_f4 : those (segMore false) 4 4 = true := by kernel_rfl
theorem stop_f0 : those (segStop false) 0 4 = true := by kernel_rfl
theorem stop_f4 : those (segStop false) 4 4 = true := by kernel_rfl
theorem last_f0 : those (segLast false) 0 4 = true := by kernel_rfl
theorem last_f4 : those (segLast false) 4 4 = true := by kernel_rfl
theorem ta_f0 : those (segTa false) 0 4 = true := by kernel_rfl
theorem ta_f4 : those (segTa false) 4 4 = true := by kernel_rfl
theorem tb_f0 : those (segTb false) 0 4 = true := by kernel_rfl
theorem tb_f4 : those (segTb false) 4 4 = true := by kernel_rfl
theorem tc_f0 : those (segTc false) 0 4 = true := by kernel_rfl
theorem tc_f4 : those (segTc false) 4 4 = true := by kernel_rfl
theorem td_f0 : those (segTd false) 0 4 = true := by kernel_rfl
theorem td_f4 : those (segTd false) 4 4 = true := by kernel_rfl
theorem ia_f0 : those (segIa false) 0 4 = true := by kernel_rfl
theorem ia_f4 : those (segIa false) 4 4 = true := by kernel_rfl
theorem ib_f0 : those (segIb false) 0 4 = true := by kernel_rfl
theorem ib_f4 : those (segIb false) 4 4 = true := by kernel_rfl
end Go.Proofs.YtkmiijmoejcjgaaGreat.castSteps
