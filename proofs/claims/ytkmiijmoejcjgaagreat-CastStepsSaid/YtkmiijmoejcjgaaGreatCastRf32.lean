/- A send: the kernel reckons each turn. -/
import Derived.Test.YtkmiijmoejcjgaaGreatCastDefs
namespace Go.Proofs.YtkmiijmoejcjgaaGreat.castSteps
open Go.X Go.Proofs.YtkmiijmoejcjgaaGreat.rk

theorem more_f32 : those (segMore false) 32 2 = true := by kernel_rfl
theorem more_f34 : those (segMore false) 34 2 = true := by kernel_rfl
theorem more_f36 : those (segMore false) 36 2 = true := by kernel_rfl
theorem more_f38 : those (segMore false) 38 2 = true := by kernel_rfl
theorem stop_f32 : those (segStop false) 32 2 = true := by kernel_rfl
theorem stop_f34 : those (segStop false) 34 2 = true := by kernel_rfl
theorem stop_f36 : those (segStop false) 36 2 = true := by kernel_rfl
theorem stop_f38 : those (segStop false) 38 2 = true := by kernel_rfl
theorem last_f32 : those (segLast false) 32 2 = true := by kernel_rfl
theorem last_f34 : those (segLast false) 34 2 = true := by kernel_rfl
theorem last_f36 : those (segLast false) 36 2 = true := by kernel_rfl
theorem last_f38 : those (segLast false) 38 2 = true := by kernel_rfl
theorem ta_f32 : those (segTa false) 32 2 = true := by kernel_rfl
theorem ta_f34 : those (segTa false) 34 2 = true := by kernel_rfl
theorem ta_f36 : those (segTa false) 36 2 = true := by kernel_rfl
theorem ta_f38 : those (segTa false) 38 2 = true := by kernel_rfl
theorem tb_f32 : those (segTb false) 32 2 = true := by kernel_rfl
theorem tb_f34 : those (segTb false) 34 2 = true := by kernel_rfl
theorem tb_f36 : those (segTb false) 36 2 = true := by kernel_rfl
theorem tb_f38 : those (segTb false) 38 2 = true := by kernel_rfl
theorem tc_f32 : those (segTc false) 32 2 = true := by kernel_rfl
theorem tc_f34 : those (segTc false) 34 2 = true := by kernel_rfl
theorem tc_f36 : those (segTc false) 36 2 = true := by kernel_rfl
theorem tc_f38 : those (segTc false) 38 2 = true := by kernel_rfl
theorem td_f32 : those (segTd false) 32 2 = true := by kernel_rfl
theorem td_f34 : those (segTd false) 34 2 = true := by kernel_rfl
theorem td_f36 : those (segTd false) 36 2 = true := by kernel_rfl
theorem td_f38 : those (segTd false) 38 2 = true := by kernel_rfl
theorem ia_f32 : those (segIa false) 32 2 = true := by kernel_rfl
theorem ia_f34 : those (segIa false) 34 2 = true := by kernel_rfl
theorem ia_f36 : those (segIa false) 36 2 = true := by kernel_rfl
theorem ia_f38 : those (segIa false) 38 2 = true := by kernel_rfl
theorem ib_f32 : those (segIb false) 32 2 = true := by kernel_rfl
theorem ib_f34 : those (segIb false) 34 2 = true := by kernel_rfl
theorem ib_f36 : those (segIb false) 36 2 = true := by kernel_rfl
theorem ib_f38 : those (segIb false) 38 2 = true := by kernel_rfl
end Go.Proofs.YtkmiijmoejcjgaaGreat.castSteps
