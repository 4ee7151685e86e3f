/- A send: the kernel reckons each turn. -/
import Derived.Test.YtkmiijmoejcjgaaGreatCastDefs
namespace Go.Proofs.YtkmiijmoejcjgaaGreat.castSteps
open Go.X Go.Proofs.YtkmiijmoejcjgaaGreat.rk

theorem more_t40 : those (segMore true) 40 2 = true := by kernel_rfl
theorem more_t42 : those (segMore true) 42 2 = true := by kernel_rfl
theorem more_t44 : those (segMore true) 44 2 = true := by kernel_rfl
theorem more_t46 : those (segMore true) 46 2 = true := by kernel_rfl
theorem stop_t40 : those (segStop true) 40 2 = true := by kernel_rfl
theorem stop_t42 : those (segStop true) 42 2 = true := by kernel_rfl
theorem stop_t44 : those (segStop true) 44 2 = true := by kernel_rfl
theorem stop_t46 : those (segStop true) 46 2 = true := by kernel_rfl
theorem last_t40 : those (segLast true) 40 2 = true := by kernel_rfl
theorem last_t42 : those (segLast true) 42 2 = true := by kernel_rfl
theorem last_t44 : those (segLast true) 44 2 = true := by kernel_rfl
theorem last_t46 : those (segLast true) 46 2 = true := by kernel_rfl
theorem ta_t40 : those (segTa true) 40 2 = true := by kernel_rfl
theorem ta_t42 : those (segTa true) 42 2 = true := by kernel_rfl
theorem ta_t44 : those (segTa true) 44 2 = true := by kernel_rfl
theorem ta_t46 : those (segTa true) 46 2 = true := by kernel_rfl
theorem tb_t40 : those (segTb true) 40 2 = true := by kernel_rfl
theorem tb_t42 : those (segTb true) 42 2 = true := by kernel_rfl
theorem tb_t44 : those (segTb true) 44 2 = true := by kernel_rfl
theorem tb_t46 : those (segTb true) 46 2 = true := by kernel_rfl
theorem tc_t40 : those (segTc true) 40 2 = true := by kernel_rfl
theorem tc_t42 : those (segTc true) 42 2 = true := by kernel_rfl
theorem tc_t44 : those (segTc true) 44 2 = true := by kernel_rfl
theorem tc_t46 : those (segTc true) 46 2 = true := by kernel_rfl
theorem td_t40 : those (segTd true) 40 2 = true := by kernel_rfl
theorem td_t42 : those (segTd true) 42 2 = true := by kernel_rfl
theorem td_t44 : those (segTd true) 44 2 = true := by kernel_rfl
theorem td_t46 : those (segTd true) 46 2 = true := by kernel_rfl
theorem ia_t40 : those (segIa true) 40 2 = true := by kernel_rfl
theorem ia_t42 : those (segIa true) 42 2 = true := by kernel_rfl
theorem ia_t44 : those (segIa true) 44 2 = true := by kernel_rfl
theorem ia_t46 : those (segIa true) 46 2 = true := by kernel_rfl
theorem ib_t40 : those (segIb true) 40 2 = true := by kernel_rfl
theorem ib_t42 : those (segIb true) 42 2 = true := by kernel_rfl
theorem ib_t44 : those (segIb true) 44 2 = true := by kernel_rfl
theorem ib_t46 : those (segIb true) 46 2 = true := by kernel_rfl
end Go.Proofs.YtkmiijmoejcjgaaGreat.castSteps
