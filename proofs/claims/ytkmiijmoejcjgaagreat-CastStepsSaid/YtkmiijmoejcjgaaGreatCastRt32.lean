/- A send: the kernel reckons each turn. -/
import Derived.Test.YtkmiijmoejcjgaaGreatCastDefs
namespace Go.Proofs.YtkmiijmoejcjgaaGreat.castSteps
open Go.X Go.Proofs.YtkmiijmoejcjgaaGreat.rk

theorem more_t32 : those (segMore true) 32 2 = true := by kernel_rfl
theorem more_t34 : those (segMore true) 34 2 = true := by kernel_rfl
theorem more_t36 : those (segMore true) 36 2 = true := by kernel_rfl
theorem more_t38 : those (segMore true) 38 2 = true := by kernel_rfl
theorem stop_t32 : those (segStop true) 32 2 = true := by kernel_rfl
theorem stop_t34 : those (segStop true) 34 2 = true := by kernel_rfl
theorem stop_t36 : those (segStop true) 36 2 = true := by kernel_rfl
theorem stop_t38 : those (segStop true) 38 2 = true := by kernel_rfl
theorem last_t32 : those (segLast true) 32 2 = true := by kernel_rfl
theorem last_t34 : those (segLast true) 34 2 = true := by kernel_rfl
theorem last_t36 : those (segLast true) 36 2 = true := by kernel_rfl
theorem last_t38 : those (segLast true) 38 2 = true := by kernel_rfl
theorem ta_t32 : those (segTa true) 32 2 = true := by kernel_rfl
theorem ta_t34 : those (segTa true) 34 2 = true := by kernel_rfl
theorem ta_t36 : those (segTa true) 36 2 = true := by kernel_rfl
theorem ta_t38 : those (segTa true) 38 2 = true := by kernel_rfl
theorem tb_t32 : those (segTb true) 32 2 = true := by kernel_rfl
theorem tb_t34 : those (segTb true) 34 2 = true := by kernel_rfl
theorem tb_t36 : those (segTb true) 36 2 = true := by kernel_rfl
theorem tb_t38 : those (segTb true) 38 2 = true := by kernel_rfl
theorem tc_t32 : those (segTc true) 32 2 = true := by kernel_rfl
theorem tc_t34 : those (segTc true) 34 2 = true := by kernel_rfl
theorem tc_t36 : those (segTc true) 36 2 = true := by kernel_rfl
theorem tc_t38 : those (segTc true) 38 2 = true := by kernel_rfl
theorem td_t32 : those (segTd true) 32 2 = true := by kernel_rfl
theorem td_t34 : those (segTd true) 34 2 = true := by kernel_rfl
theorem td_t36 : those (segTd true) 36 2 = true := by kernel_rfl
theorem td_t38 : those (segTd true) 38 2 = true := by kernel_rfl
theorem ia_t32 : those (segIa true) 32 2 = true := by kernel_rfl
theorem ia_t34 : those (segIa true) 34 2 = true := by kernel_rfl
theorem ia_t36 : those (segIa true) 36 2 = true := by kernel_rfl
theorem ia_t38 : those (segIa true) 38 2 = true := by kernel_rfl
theorem ib_t32 : those (segIb true) 32 2 = true := by kernel_rfl
theorem ib_t34 : those (segIb true) 34 2 = true := by kernel_rfl
theorem ib_t36 : those (segIb true) 36 2 = true := by kernel_rfl
theorem ib_t38 : those (segIb true) 38 2 = true := by kernel_rfl
end Go.Proofs.YtkmiijmoejcjgaaGreat.castSteps
