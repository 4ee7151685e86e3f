/- What fixed() of layer 20 answers: the kernel reckons it. -/
import Derived.Test.YtfahnjicinpahaaRk
namespace Go.Proofs.Ytfahnjicinpahaa.rk
open Go.X Go.RowKit

theorem reckoned20 : answersTrue (callFn cfg 60 9 [] St.zero) = true := by kernel_rfl

theorem fixed20_true (w : World) : Calls Try.prog 9 #[] w fun en w' => en = .returned (.bool true) ∧ Below w.heap.size w w' :=
  closed follows ext_ok (fun _ _ _ => rfl) rfl reckoned20 w

/-- fixed() needn't be reckoned again. -/
noncomputable def cfg20 : Cfg := { P := Try.prog, ext := extOf exts, hook := knows 9, facts := [] }
theorem follows20 : cfg20.P.follows .mixedOrders = true := follows
theorem ext_ok20 : ExtOk cfg20 := extOk_of exts rfl exts_ok
theorem known20 {L : Nat → Value} : HookOk L cfg20 := hookOk_of rfl (by kernel_rfl) fixed20_true

end Go.Proofs.Ytfahnjicinpahaa.rk
