/- A send: the kernel reckons each turn. -/
import Derived.Test.YtkmiijmoejcjgaaGreatCastDefs
namespace Go.Proofs.YtkmiijmoejcjgaaGreat.castSteps
open Go.X Go.Proofs.YtkmiijmoejcjgaaGreat.rk

theorem more_t0 : those (segMore true) 0 4 = true := by kernel_rfl
theorem more_t4 : those (segMore true) 4 4 = true := by kernel_rfl
theorem stop_t0 : those (segStop true) 0 4 = true := by kernel_rfl
theorem stop_t4 : those (segStop true) 4 4 = true := by kernel_rfl
theorem last_t0 : those (segLast true) 0 4 = true := by kernel_rfl
theorem last_t4 : those (segLast true) 4 4 = true := by kernel_rfl
theorem ta_t0 : those (segTa true) 0 4 = true := by kernel_rfl
theorem ta_t4 : those (segTa true) 4 4 = true := by kernel_rfl
theorem tb_t0 : those (segTb true) 0 4 = true := by kernel_rfl
theorem tb_t4 : those (segTb true) 4 4 = true := by kernel_rfl
theorem tc_t0 : those (segTc true) 0 4 = true := by kernel_rfl
theorem tc_t4 : those (segTc true) 4 4 = true := by kernel_rfl
theorem td_t0 : those (segTd true) 0 4 = true := by kernel_rfl
theorem td_t4 : those (segTd true) 4 4 = true := by kernel_rfl
theorem ia_t0 : those (segIa true) 0 4 = true := by kernel_rfl
theorem ia_t4 : those (segIa true) 4 4 = true := by kernel_rfl
theorem ib_t0 : those (segIb true) 0 4 = true := by kernel_rfl
theorem ib_t4 : those (segIb true) 4 4 = true := by kernel_rfl
end Go.Proofs.YtkmiijmoejcjgaaGreat.castSteps
