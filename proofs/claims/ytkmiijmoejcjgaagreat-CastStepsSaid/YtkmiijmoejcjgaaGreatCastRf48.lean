/- A send: the kernel reckons each turn. -/
import Derived.Test.YtkmiijmoejcjgaaGreatCastDefs
namespace Go.Proofs.YtkmiijmoejcjgaaGreat.castSteps
open Go.X Go.Proofs.YtkmiijmoejcjgaaGreat.rk

theorem more_f48 : those (segMore false) 48 2 = true := by kernel_rfl
theorem more_f50 : those (segMore false) 50 2 = true := by kernel_rfl
theorem more_f52 : those (segMore false) 52 2 = true := by kernel_rfl
theorem more_f54 : those (segMore false) 54 2 = true := by kernel_rfl
theorem stop_f48 : those (segStop false) 48 2 = true := by kernel_rfl
theorem stop_f50 : those (segStop false) 50 2 = true := by kernel_rfl
theorem stop_f52 : those (segStop false) 52 2 = true := by kernel_rfl
theorem stop_f54 : those (segStop false) 54 2 = true := by kernel_rfl
theorem last_f48 : those (segLast false) 48 2 = true := by kernel_rfl
theorem last_f50 : those (segLast false) 50 2 = true := by kernel_rfl
theorem last_f52 : those (segLast false) 52 2 = true := by kernel_rfl
theorem last_f54 : those (segLast false) 54 2 = true := by kernel_rfl
theorem ta_f48 : those (segTa false) 48 2 = true := by kernel_rfl
theorem ta_f50 : those (segTa false) 50 2 = true := by kernel_rfl
theorem ta_f52 : those (segTa false) 52 2 = true := by kernel_rfl
theorem ta_f54 : those (segTa false) 54 2 = true := by kernel_rfl
theorem tb_f48 : those (segTb false) 48 2 = true := by kernel_rfl
theorem tb_f50 : those (segTb false) 50 2 = true := by kernel_rfl
theorem tb_f52 : those (segTb false) 52 2 = true := by kernel_rfl
theorem tb_f54 : those (segTb false) 54 2 = true := by kernel_rfl
theorem tc_f48 : those (segTc false) 48 2 = true := by kernel_rfl
theorem tc_f50 : those (segTc false) 50 2 = true := by kernel_rfl
theorem tc_f52 : those (segTc false) 52 2 = true := by kernel_rfl
theorem tc_f54 : those (segTc false) 54 2 = true := by kernel_rfl
theorem td_f48 : those (segTd false) 48 2 = true := by kernel_rfl
theorem td_f50 : those (segTd false) 50 2 = true := by kernel_rfl
theorem td_f52 : those (segTd false) 52 2 = true := by kernel_rfl
theorem td_f54 : those (segTd false) 54 1 = true := by kernel_rfl
theorem ia_f48 : those (segIa false) 48 2 = true := by kernel_rfl
theorem ia_f50 : those (segIa false) 50 2 = true := by kernel_rfl
theorem ia_f52 : those (segIa false) 52 2 = true := by kernel_rfl
theorem ib_f48 : those (segIb false) 48 2 = true := by kernel_rfl
theorem ib_f50 : those (segIb false) 50 2 = true := by kernel_rfl
theorem ib_f52 : those (segIb false) 52 2 = true := by kernel_rfl
theorem ib_f54 : those (segIb false) 54 1 = true := by kernel_rfl
end Go.Proofs.YtkmiijmoejcjgaaGreat.castSteps
