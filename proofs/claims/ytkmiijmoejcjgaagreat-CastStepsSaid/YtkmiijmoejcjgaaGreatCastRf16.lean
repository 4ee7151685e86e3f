/- A send: the kernel reckons each turn. -/
import Derived.Test.YtkmiijmoejcjgaaGreatCastDefs
namespace Go.Proofs.YtkmiijmoejcjgaaGreat.castSteps
open Go.X Go.Proofs.YtkmiijmoejcjgaaGreat.rk

theorem more_f16 : those (segMore false) 16 4 = true := by kernel_rfl
theorem more_f20 : those (segMore false) 20 4 = true := by kernel_rfl
theorem stop_f16 : those (segStop false) 16 4 = true := by kernel_rfl
theorem stop_f20 : those (segStop false) 20 4 = true := by kernel_rfl
theorem last_f16 : those (segLast false) 16 4 = true := by kernel_rfl
theorem last_f20 : those (segLast false) 20 4 = true := by kernel_rfl
theorem ta_f16 : those (segTa false) 16 4 = true := by kernel_rfl
theorem ta_f20 : those (segTa false) 20 4 = true := by kernel_rfl
theorem tb_f16 : those (segTb false) 16 4 = true := by kernel_rfl
theorem tb_f20 : those (segTb false) 20 4 = true := by kernel_rfl
theorem tc_f16 : those (segTc false) 16 4 = true := by kernel_rfl
theorem tc_f20 : those (segTc false) 20 4 = true := by kernel_rfl
theorem td_f16 : those (segTd false) 16 4 = true := by kernel_rfl
theorem td_f20 : those (segTd false) 20 4 = true := by kernel_rfl
theorem ia_f16 : those (segIa false) 16 4 = true := by kernel_rfl
theorem ia_f20 : those (segIa false) 20 4 = true := by kernel_rfl
theorem ib_f16 : those (segIb false) 16 4 = true := by kernel_rfl
theorem ib_f20 : those (segIb false) 20 4 = true := by kernel_rfl
end Go.Proofs.YtkmiijmoejcjgaaGreat.castSteps
