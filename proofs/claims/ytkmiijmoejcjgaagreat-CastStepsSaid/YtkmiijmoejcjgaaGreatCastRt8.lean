/- A send: the kernel reckons each turn. -/
import Derived.Test.YtkmiijmoejcjgaaGreatCastDefs
namespace Go.Proofs.YtkmiijmoejcjgaaGreat.castSteps
open Go.X Go.Proofs.YtkmiijmoejcjgaaGreat.rk

theorem more_t8 : those (segMore true) 8 4 = true := by kernel_rfl
theorem more_t12 : those (segMore true) 12 4 = true := by kernel_rfl
theorem stop_t8 : those (segStop true) 8 4 = true := by kernel_rfl
theorem stop_t12 : those (segStop true) 12 4 = true := by kernel_rfl
theorem last_t8 : those (segLast true) 8 4 = true := by kernel_rfl
theorem last_t12 : those (segLast true) 12 4 = true := by kernel_rfl
theorem ta_t8 : those (segTa true) 8 4 = true := by kernel_rfl
theorem ta_t12 : those (segTa true) 12 4 = true := by kernel_rfl
theorem tb_t8 : those (segTb true) 8 4 = true := by kernel_rfl
theorem tb_t12 : those (segTb true) 12 4 = true := by kernel_rfl
theorem tc_t8 : those (segTc true) 8 4 = true := by kernel_rfl
theorem tc_t12 : those (segTc true) 12 4 = true := by kernel_rfl
theorem td_t8 : those (segTd true) 8 4 = true := by kernel_rfl
theorem td_t12 : those (segTd true) 12 4 = true := by kernel_rfl
theorem ia_t8 : those (segIa true) 8 4 = true := by kernel_rfl
theorem ia_t12 : those (segIa true) 12 4 = true := by kernel_rfl
theorem ib_t8 : those (segIb true) 8 4 = true := by kernel_rfl
theorem ib_t12 : those (segIb true) 12 4 = true := by kernel_rfl
end Go.Proofs.YtkmiijmoejcjgaaGreat.castSteps
