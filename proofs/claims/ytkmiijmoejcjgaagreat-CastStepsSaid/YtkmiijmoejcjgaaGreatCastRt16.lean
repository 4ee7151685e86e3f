/- A send: the kernel reckons each turn. -/
import Derived.Test.YtkmiijmoejcjgaaGreatCastDefs
namespace Go.Proofs.YtkmiijmoejcjgaaGreat.castSteps
open Go.X Go.Proofs.YtkmiijmoejcjgaaGreat.rk

theorem more_t16 : those (segMore true) 16 4 = true := by kernel_rfl
theorem more_t20 : those (segMore true) 20 4 = true := by kernel_rfl
theorem stop_t16 : those (segStop true) 16 4 = true := by kernel_rfl
theorem stop_t20 : those (segStop true) 20 4 = true := by kernel_rfl
theorem last_t16 : those (segLast true) 16 4 = true := by kernel_rfl
theorem last_t20 : those (segLast true) 20 4 = true := by kernel_rfl
theorem ta_t16 : those (segTa true) 16 4 = true := by kernel_rfl
theorem ta_t20 : those (segTa true) 20 4 = true := by kernel_rfl
theorem tb_t16 : those (segTb true) 16 4 = true := by kernel_rfl
theorem tb_t20 : those (segTb true) 20 4 = true := by kernel_rfl
theorem tc_t16 : those (segTc true) 16 4 = true := by kernel_rfl
theorem tc_t20 : those (segTc true) 20 4 = true := by kernel_rfl
theorem td_t16 : those (segTd true) 16 4 = true := by kernel_rfl
theorem td_t20 : those (segTd true) 20 4 = true := by kernel_rfl
theorem ia_t16 : those (segIa true) 16 4 = true := by kernel_rfl
theorem ia_t20 : those (segIa true) 20 4 = true := by kernel_rfl
theorem ib_t16 : those (segIb true) 16 4 = true := by kernel_rfl
theorem ib_t20 : those (segIb true) 20 4 = true := by kernel_rfl
end Go.Proofs.YtkmiijmoejcjgaaGreat.castSteps
