/- What fixed() of layer 22 answers: the kernel reckons it. -/
import Derived.Test.YtmommojnbnbjdaaGreatRk
namespace Go.Proofs.YtmommojnbnbjdaaGreat.rk
open Go.X Go.RowKit

theorem reckoned22 : answersTrue (callFn cfg 60 11 [] St.zero) = true := by kernel_rfl

theorem fixed22_true (w : World) : Calls Tryz.prog 11 #[] w fun en w' => en = .returned (.bool true) ∧ Below w.heap.size w w' :=
  closed follows ext_ok (fun _ _ _ => rfl) rfl reckoned22 w

/-- fixed() needn't be reckoned again. -/
noncomputable def cfg22 : Cfg := { P := Tryz.prog, ext := extOf exts, hook := knows 11, facts := [] }
theorem follows22 : cfg22.P.follows .mixedOrders = true := follows
theorem ext_ok22 : ExtOk cfg22 := extOk_of exts rfl exts_ok
theorem known22 {L : Nat → Value} : HookOk L cfg22 := hookOk_of rfl (by kernel_rfl) fixed22_true

end Go.Proofs.YtmommojnbnbjdaaGreat.rk
