/- A send: the kernel reckons each turn. -/
import Derived.Test.YtkmiijmoejcjgaaGreatCastDefs
namespace Go.Proofs.YtkmiijmoejcjgaaGreat.castSteps
open Go.X Go.Proofs.YtkmiijmoejcjgaaGreat.rk

theorem more_f40 : those (segMore false) 40 2 = true := by kernel_rfl
theorem more_f42 : those (segMore false) 42 2 = true := by kernel_rfl
theorem more_f44 : those (segMore false) 44 2 = true := by kernel_rfl
theorem more_f46 : those (segMore false) 46 2 = true := by kernel_rfl
theorem stop_f40 : those (segStop false) 40 2 = true := by kernel_rfl
theorem stop_f42 : those (segStop false) 42 2 = true := by kernel_rfl
theorem stop_f44 : those (segStop false) 44 2 = true := by kernel_rfl
theorem stop_f46 : those (segStop false) 46 2 = true := by kernel_rfl
theorem last_f40 : those (segLast false) 40 2 = true := by kernel_rfl
theorem last_f42 : those (segLast false) 42 2 = true := by kernel_rfl
theorem last_f44 : those (segLast false) 44 2 = true := by kernel_rfl
theorem last_f46 : those (segLast false) 46 2 = true := by kernel_rfl
theorem ta_f40 : those (segTa false) 40 2 = true := by kernel_rfl
theorem ta_f42 : those (segTa false) 42 2 = true := by kernel_rfl
theorem ta_f44 : those (segTa false) 44 2 = true := by kernel_rfl
theorem ta_f46 : those (segTa false) 46 2 = true := by kernel_rfl
theorem tb_f40 : those (segTb false) 40 2 = true := by kernel_rfl
theorem tb_f42 : those (segTb false) 42 2 = true := by kernel_rfl
theorem tb_f44 : those (segTb false) 44 2 = true := by kernel_rfl
theorem tb_f46 : those (segTb false) 46 2 = true := by kernel_rfl
theorem tc_f40 : those (segTc false) 40 2 = true := by kernel_rfl
theorem tc_f42 : those (segTc false) 42 2 = true := by kernel_rfl
theorem tc_f44 : those (segTc false) 44 2 = true := by kernel_rfl
theorem tc_f46 : those (segTc false) 46 2 = true := by kernel_rfl
theorem td_f40 : those (segTd false) 40 2 = true := by kernel_rfl
theorem td_f42 : those (segTd false) 42 2 = true := by kernel_rfl
theorem td_f44 : those (segTd false) 44 2 = true := by kernel_rfl
theorem td_f46 : those (segTd false) 46 2 = true := by kernel_rfl
theorem ia_f40 : those (segIa false) 40 2 = true := by kernel_rfl
theorem ia_f42 : those (segIa false) 42 2 = true := by kernel_rfl
theorem ia_f44 : those (segIa false) 44 2 = true := by kernel_rfl
theorem ia_f46 : those (segIa false) 46 2 = true := by kernel_rfl
theorem ib_f40 : those (segIb false) 40 2 = true := by kernel_rfl
theorem ib_f42 : those (segIb false) 42 2 = true := by kernel_rfl
theorem ib_f44 : those (segIb false) 44 2 = true := by kernel_rfl
theorem ib_f46 : those (segIb false) 46 2 = true := by kernel_rfl
end Go.Proofs.YtkmiijmoejcjgaaGreat.castSteps
