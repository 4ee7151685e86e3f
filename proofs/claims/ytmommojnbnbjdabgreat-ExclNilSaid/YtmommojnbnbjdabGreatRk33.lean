/- What fixed() of layer 33 answers: the kernel reckons it. -/
import Derived.Test.YtmommojnbnbjdabGreatRk
namespace Go.Proofs.YtmommojnbnbjdabGreat.rk
open Go.X Go.RowKit

theorem reckoned33 : answersTrue (callFn cfg 60 5 [] St.zero) = true := by kernel_rfl

theorem fixed33_true (w : World) : Calls Tryz.prog 5 #[] w fun en w' => en = .returned (.bool true) ∧ Below w.heap.size w w' :=
  closed follows ext_ok (fun _ _ _ => rfl) rfl reckoned33 w

/-- fixed() needn't be reckoned again. -/
noncomputable def cfg33 : Cfg := { P := Tryz.prog, ext := extOf exts, hook := knows 5, facts := [] }
theorem follows33 : cfg33.P.follows .mixedOrders = true := follows
theorem ext_ok33 : ExtOk cfg33 := extOk_of exts rfl exts_ok
theorem known33 {L : Nat → Value} : HookOk L cfg33 := hookOk_of rfl (by kernel_rfl) fixed33_true

end Go.Proofs.YtmommojnbnbjdabGreat.rk
