/- A send: the kernel reckons each turn. -/
import Derived.Test.YtkmiijmoejcjgaaGreatCastDefs
namespace Go.Proofs.YtkmiijmoejcjgaaGreat.castSteps
open Go.X Go.Proofs.YtkmiijmoejcjgaaGreat.rk

theorem more_t48 : those (segMore true) 48 2 = true := by kernel_rfl
theorem more_t50 : those (segMore true) 50 2 = true := by kernel_rfl
theorem more_t52 : those (segMore true) 52 2 = true := by kernel_rfl
theorem more_t54 : those (segMore true) 54 2 = true := by kernel_rfl
theorem stop_t48 : those (segStop true) 48 2 = true := by kernel_rfl
theorem stop_t50 : those (segStop true) 50 2 = true := by kernel_rfl
theorem stop_t52 : those (segStop true) 52 2 = true := by kernel_rfl
theorem stop_t54 : those (segStop true) 54 2 = true := by kernel_rfl
theorem last_t48 : those (segLast true) 48 2 = true := by kernel_rfl
theorem last_t50 : those (segLast true) 50 2 = true := by kernel_rfl
theorem last_t52 : those (segLast true) 52 2 = true := by kernel_rfl
theorem last_t54 : those (segLast true) 54 2 = true := by kernel_rfl
theorem ta_t48 : those (segTa true) 48 2 = true := by kernel_rfl
theorem ta_t50 : those (segTa true) 50 2 = true := by kernel_rfl
theorem ta_t52 : those (segTa true) 52 2 = true := by kernel_rfl
theorem ta_t54 : those (segTa true) 54 2 = true := by kernel_rfl
theorem tb_t48 : those (segTb true) 48 2 = true := by kernel_rfl
theorem tb_t50 : those (segTb true) 50 2 = true := by kernel_rfl
theorem tb_t52 : those (segTb true) 52 2 = true := by kernel_rfl
theorem tb_t54 : those (segTb true) 54 1 = true := by kernel_rfl
theorem tc_t48 : those (segTc true) 48 2 = true := by kernel_rfl
theorem tc_t50 : those (segTc true) 50 2 = true := by kernel_rfl
theorem tc_t52 : those (segTc true) 52 2 = true := by kernel_rfl
theorem tc_t54 : those (segTc true) 54 1 = true := by kernel_rfl
theorem td_t48 : those (segTd true) 48 2 = true := by kernel_rfl
theorem td_t50 : those (segTd true) 50 2 = true := by kernel_rfl
theorem td_t52 : those (segTd true) 52 2 = true := by kernel_rfl
theorem ia_t48 : those (segIa true) 48 2 = true := by kernel_rfl
theorem ia_t50 : those (segIa true) 50 2 = true := by kernel_rfl
theorem ia_t52 : those (segIa true) 52 1 = true := by kernel_rfl
theorem ib_t48 : those (segIb true) 48 2 = true := by kernel_rfl
theorem ib_t50 : those (segIb true) 50 2 = true := by kernel_rfl
theorem ib_t52 : those (segIb true) 52 2 = true := by kernel_rfl
end Go.Proofs.YtkmiijmoejcjgaaGreat.castSteps
