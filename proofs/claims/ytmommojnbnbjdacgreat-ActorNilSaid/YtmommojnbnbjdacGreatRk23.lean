/- What fixed() of layer 23 answers: the kernel reckons it. -/
import Derived.Test.YtmommojnbnbjdacGreatRk
namespace Go.Proofs.YtmommojnbnbjdacGreat.rk
open Go.X Go.RowKit

theorem reckoned23 : answersTrue (callFn cfg 60 4 [] St.zero) = true := by kernel_rfl

theorem fixed23_true (w : World) : Calls Tryz.prog 4 #[] w fun en w' => en = .returned (.bool true) ∧ Below w.heap.size w w' :=
  closed follows ext_ok (fun _ _ _ => rfl) rfl reckoned23 w

/-- fixed() needn't be reckoned again. -/
noncomputable def cfg23 : Cfg := { P := Tryz.prog, ext := extOf exts, hook := knows 4, facts := [] }
theorem follows23 : cfg23.P.follows .mixedOrders = true := follows
theorem ext_ok23 : ExtOk cfg23 := extOk_of exts rfl exts_ok
theorem known23 {L : Nat → Value} : HookOk L cfg23 := hookOk_of rfl (by kernel_rfl) fixed23_true

end Go.Proofs.YtmommojnbnbjdacGreat.rk
