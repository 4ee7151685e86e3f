/- What fixed() of layer 19 answers: the kernel reckons it. -/
import Derived.Test.YtmommojnbnbjdaaGreatRk
namespace Go.Proofs.YtmommojnbnbjdaaGreat.rk
open Go.X Go.RowKit

theorem reckoned19 : answersTrue (callFn cfg 60 5 [] St.zero) = true := by kernel_rfl

theorem fixed19_true (w : World) : Calls Tryz.prog 5 #[] w fun en w' => en = .returned (.bool true) ∧ Below w.heap.size w w' :=
  closed follows ext_ok (fun _ _ _ => rfl) rfl reckoned19 w

/-- fixed() needn't be reckoned again. -/
noncomputable def cfg19 : Cfg := { P := Tryz.prog, ext := extOf exts, hook := knows 5, facts := [] }
theorem follows19 : cfg19.P.follows .mixedOrders = true := follows
theorem ext_ok19 : ExtOk cfg19 := extOk_of exts rfl exts_ok
theorem known19 {L : Nat → Value} : HookOk L cfg19 := hookOk_of rfl (by kernel_rfl) fixed19_true

end Go.Proofs.YtmommojnbnbjdaaGreat.rk
