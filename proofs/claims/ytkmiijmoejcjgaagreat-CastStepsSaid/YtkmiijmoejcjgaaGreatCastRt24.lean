/- A send: the kernel reckons each turn. -/
import Derived.Test.YtkmiijmoejcjgaaGreatCastDefs
namespace Go.Proofs.YtkmiijmoejcjgaaGreat.castSteps
open Go.X Go.Proofs.YtkmiijmoejcjgaaGreat.rk

theorem more_t24 : those (segMore true) 24 2 = true := by kernel_rfl
theorem more_t26 : those (segMore true) 26 2 = true := by kernel_rfl
theorem more_t28 : those (segMore true) 28 2 = true := by kernel_rfl
theorem more_t30 : those (segMore true) 30 2 = true := by kernel_rfl
theorem stop_t24 : those (segStop true) 24 2 = true := by kernel_rfl
theorem stop_t26 : those (segStop true) 26 2 = true := by kernel_rfl
theorem stop_t28 : those (segStop true) 28 2 = true := by kernel_rfl
theorem stop_t30 : those (segStop true) 30 2 = true := by kernel_rfl
theorem last_t24 : those (segLast true) 24 2 = true := by kernel_rfl
theorem last_t26 : those (segLast true) 26 2 = true := by kernel_rfl
theorem last_t28 : those (segLast true) 28 2 = true := by kernel_rfl
theorem last_t30 : those (segLast true) 30 2 = true := by kernel_rfl
theorem ta_t24 : those (segTa true) 24 2 = true := by kernel_rfl
theorem ta_t26 : those (segTa true) 26 2 = true := by kernel_rfl
theorem ta_t28 : those (segTa true) 28 2 = true := by kernel_rfl
theorem ta_t30 : those (segTa true) 30 2 = true := by kernel_rfl
theorem tb_t24 : those (segTb true) 24 2 = true := by kernel_rfl
theorem tb_t26 : those (segTb true) 26 2 = true := by kernel_rfl
theorem tb_t28 : those (segTb true) 28 2 = true := by kernel_rfl
theorem tb_t30 : those (segTb true) 30 2 = true := by kernel_rfl
theorem tc_t24 : those (segTc true) 24 2 = true := by kernel_rfl
theorem tc_t26 : those (segTc true) 26 2 = true := by kernel_rfl
theorem tc_t28 : those (segTc true) 28 2 = true := by kernel_rfl
theorem tc_t30 : those (segTc true) 30 2 = true := by kernel_rfl
theorem td_t24 : those (segTd true) 24 2 = true := by kernel_rfl
theorem td_t26 : those (segTd true) 26 2 = true := by kernel_rfl
theorem td_t28 : those (segTd true) 28 2 = true := by kernel_rfl
theorem td_t30 : those (segTd true) 30 2 = true := by kernel_rfl
theorem ia_t24 : those (segIa true) 24 2 = true := by kernel_rfl
theorem ia_t26 : those (segIa true) 26 2 = true := by kernel_rfl
theorem ia_t28 : those (segIa true) 28 2 = true := by kernel_rfl
theorem ia_t30 : those (segIa true) 30 2 = true := by kernel_rfl
theorem ib_t24 : those (segIb true) 24 2 = true := by kernel_rfl
theorem ib_t26 : those (segIb true) 26 2 = true := by kernel_rfl
theorem ib_t28 : those (segIb true) 28 2 = true := by kernel_rfl
theorem ib_t30 : those (segIb true) 30 2 = true := by kernel_rfl
end Go.Proofs.YtkmiijmoejcjgaaGreat.castSteps
