/- A send: the kernel reckons each turn. -/
import Derived.Test.YtkmiijmoejcjgaaGreatCastDefs
namespace Go.Proofs.YtkmiijmoejcjgaaGreat.castSteps
open Go.X Go.Proofs.YtkmiijmoejcjgaaGreat.rk

theorem more_f8 : those (segMore false) 8 4 = true := by kernel_rfl
theorem more_f12 : those (segMore false) 12 4 = true := by kernel_rfl
theorem stop_f8 : those (segStop false) 8 4 = true := by kernel_rfl
theorem stop_f12 : those (segStop false) 12 4 = true := by kernel_rfl
theorem last_f8 : those (segLast false) 8 4 = true := by kernel_rfl
theorem last_f12 : those (segLast false) 12 4 = true := by kernel_rfl
theorem ta_f8 : those (segTa false) 8 4 = true := by kernel_rfl
theorem ta_f12 : those (segTa false) 12 4 = true := by kernel_rfl
theorem tb_f8 : those (segTb false) 8 4 = true := by kernel_rfl
theorem tb_f12 : those (segTb false) 12 4 = true := by kernel_rfl
theorem tc_f8 : those (segTc false) 8 4 = true := by kernel_rfl
theorem tc_f12 : those (segTc false) 12 4 = true := by kernel_rfl
theorem td_f8 : those (segTd false) 8 4 = true := by kernel_rfl
theorem td_f12 : those (segTd false) 12 4 = true := by kernel_rfl
theorem ia_f8 : those (segIa false) 8 4 = true := by kernel_rfl
theorem ia_f12 : those (segIa false) 12 4 = true := by kernel_rfl
theorem ib_f8 : those (segIb false) 8 4 = true := by kernel_rfl
theorem ib_f12 : those (segIb false) 12 4 = true := by kernel_rfl
end Go.Proofs.YtkmiijmoejcjgaaGreat.castSteps
