/- A send: the kernel reckons each turn. -/
import Derived.Test.YtkmiijmoejcjgaaGreatCastDefs
namespace Go.Proofs.YtkmiijmoejcjgaaGreat.castSteps
open Go.X Go.Proofs.YtkmiijmoejcjgaaGreat.rk

theorem more_f24 : those (segMore false) 24 2 = true := by kernel_rfl
theorem more_f26 : those (segMore false) 26 2 = true := by kernel_rfl
theorem more_f28 : those (segMore false) 28 2 = true := by kernel_rfl
theorem more_f30 : those (segMore false) 30 2 = true := by kernel_rfl
theorem stop_f24 : those (segStop false) 24 2 = true := by kernel_rfl
theorem stop_f26 : those (segStop false) 26 2 = true := by kernel_rfl
theorem stop_f28 : those (segStop false) 28 2 = true := by kernel_rfl
theorem stop_f30 : those (segStop false) 30 2 = true := by kernel_rfl
theorem last_f24 : those (segLast false) 24 2 = true := by kernel_rfl
theorem last_f26 : those (segLast false) 26 2 = true := by kernel_rfl
theorem last_f28 : those (segLast false) 28 2 = true := by kernel_rfl
theorem last_f30 : those (segLast false) 30 2 = true := by kernel_rfl
theorem ta_f24 : those (segTa false) 24 2 = true := by kernel_rfl
theorem ta_f26 : those (segTa false) 26 2 = true := by kernel_rfl
theorem ta_f28 : those (segTa false) 28 2 = true := by kernel_rfl
theorem ta_f30 : those (segTa false) 30 2 = true := by kernel_rfl
theorem tb_f24 : those (segTb false) 24 2 = true := by kernel_rfl
theorem tb_f26 : those (segTb false) 26 2 = true := by kernel_rfl
theorem tb_f28 : those (segTb false) 28 2 = true := by kernel_rfl
theorem tb_f30 : those (segTb false) 30 2 = true := by kernel_rfl
theorem tc_f24 : those (segTc false) 24 2 = true := by kernel_rfl
theorem tc_f26 : those (segTc false) 26 2 = true := by kernel_rfl
theorem tc_f28 : those (segTc false) 28 2 = true := by kernel_rfl
theorem tc_f30 : those (segTc false) 30 2 = true := by kernel_rfl
theorem td_f24 : those (segTd false) 24 2 = true := by kernel_rfl
theorem td_f26 : those (segTd false) 26 2 = true := by kernel_rfl
theorem td_f28 : those (segTd false) 28 2 = true := by kernel_rfl
theorem td_f30 : those (segTd false) 30 2 = true := by kernel_rfl
theorem ia_f24 : those (segIa false) 24 2 = true := by kernel_rfl
theorem ia_f26 : those (segIa false) 26 2 = true := by kernel_rfl
theorem ia_f28 : those (segIa false) 28 2 = true := by kernel_rfl
theorem ia_f30 : those (segIa false) 30 2 = true := by kernel_rfl
theorem ib_f24 : those (segIb false) 24 2 = true := by kernel_rfl
theorem ib_f26 : those (segIb false) 26 2 = true := by kernel_rfl
theorem ib_f28 : those (segIb false) 28 2 = true := by kernel_rfl
theorem ib_f30 : those (segIb false) 30 2 = true := by kernel_rfl
end Go.Proofs.YtkmiijmoejcjgaaGreat.castSteps
