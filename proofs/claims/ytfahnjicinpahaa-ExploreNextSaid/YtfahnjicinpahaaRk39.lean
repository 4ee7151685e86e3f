/- What fixed() of layer 39 answers: the kernel reckons it. -/
import Derived.Test.YtfahnjicinpahaaRk
namespace Go.Proofs.Ytfahnjicinpahaa.rk
open Go.X Go.RowKit

theorem reckoned39 : answersTrue (callFn cfg 60 25 [] St.zero) = true := by kernel_rfl

theorem fixed39_true (w : World) : Calls Try.prog 25 #[] w fun en w' => en = .returned (.bool true) ∧ Below w.heap.size w w' :=
  closed follows ext_ok (fun _ _ _ => rfl) rfl reckoned39 w

/-- fixed() needn't be reckoned again. -/
noncomputable def cfg39 : Cfg := { P := Try.prog, ext := extOf exts, hook := knows 25, facts := [] }
theorem follows39 : cfg39.P.follows .mixedOrders = true := follows
theorem ext_ok39 : ExtOk cfg39 := extOk_of exts rfl exts_ok
theorem known39 {L : Nat → Value} : HookOk L cfg39 := hookOk_of rfl (by kernel_rfl) fixed39_true

end Go.Proofs.Ytfahnjicinpahaa.rk
