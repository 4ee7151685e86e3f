/- Contracts: events that are the same. -/
import Derived.Test.YtfahnjicinpahaaExA
import Derived.Test.YtfahnjicinpahaaRk39
import Derived.Deep.RegionHeldLaw
namespace Go.Proofs.Ytfahnjicinpahaa
open Go.RowKit
set_option linter.unusedVariables false

namespace same0
open Go.X Go.Proofs.Ytfahnjicinpahaa.rk
noncomputable def acc0 : V := vagg [vi 3 0, vi 3 0, vi 3 0, vi 7 0, vi 7 0, vns]
noncomputable def ans0 : V := vagg [vi 7 0, V.F, vns]
theorem r1 : answersTrue (callFn cfg39 60 45 [acc0, acc0] St.zero) = true := by kernel_rfl
theorem r2 : answersTrue (callFn cfg39 60 46 [ans0, ans0] St.zero) = true := by kernel_rfl
end same0
open Go.X Go.Proofs.Ytfahnjicinpahaa.rk in
theorem acc_same (w : World) : Calls Try.prog 45 #[.agg #[.int .i64 0, .int .i64 0, .int .i64 0, .int .u64 0, .int .u64 0, .slice none 0 0], .agg #[.int .i64 0, .int .i64 0, .int .i64 0, .int .u64 0, .int .u64 0, .slice none 0 0]] w fun e w' => e = .returned (.bool true) ∧ Below w.heap.size w w' :=
  called_knowing (L := fun _ => .bool true) (fun _ => rfl) follows39 ext_ok39 known39 (fun _ h => by cases h) (by kernel_rfl) same0.r1 w
open Go.X Go.Proofs.Ytfahnjicinpahaa.rk in
theorem ans_same (w : World) : Calls Try.prog 46 #[.agg #[.int .u64 0, .bool false, .slice none 0 0], .agg #[.int .u64 0, .bool false, .slice none 0 0]] w fun e w' => e = .returned (.bool true) ∧ Below w.heap.size w w' :=
  called_knowing (L := fun _ => .bool true) (fun _ => rfl) follows39 ext_ok39 known39 (fun _ h => by cases h) (by kernel_rfl) same0.r2 w

end Go.Proofs.Ytfahnjicinpahaa
