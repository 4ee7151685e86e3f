/- What fixed() of layer 38 answers: the kernel reckons it. -/
import Derived.Test.YtfahnjicinpahaaRk
namespace Go.Proofs.Ytfahnjicinpahaa.rk
open Go.X Go.RowKit

theorem reckoned38 : answersTrue (callFn cfg 60 20 [] St.zero) = true := by kernel_rfl

theorem fixed38_true (w : World) : Calls Try.prog 20 #[] w fun en w' => en = .returned (.bool true) ∧ Below w.heap.size w w' :=
  closed follows ext_ok (fun _ _ _ => rfl) rfl reckoned38 w

/-- fixed() needn't be reckoned again. -/
noncomputable def cfg38 : Cfg := { P := Try.prog, ext := extOf exts, hook := knows 20, facts := [] }
theorem follows38 : cfg38.P.follows .mixedOrders = true := follows
theorem ext_ok38 : ExtOk cfg38 := extOk_of exts rfl exts_ok
theorem known38 {L : Nat → Value} : HookOk L cfg38 := hookOk_of rfl (by kernel_rfl) fixed38_true

end Go.Proofs.Ytfahnjicinpahaa.rk
