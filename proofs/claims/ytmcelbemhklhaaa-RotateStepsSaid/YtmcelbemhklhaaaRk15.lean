/- What fixed() of layer 15 answers: the kernel reckons it. -/
import Derived.Test.YtmcelbemhklhaaaRk
namespace Go.Proofs.Ytmcelbemhklhaaa.rk
open Go.X Go.RowKit

theorem reckoned15 : answersTrue (callFn cfg 60 4 [] St.zero) = true := by kernel_rfl

theorem fixed15_true (w : World) : Calls Try.prog 4 #[] w fun en w' => en = .returned (.bool true) ∧ Below w.heap.size w w' :=
  closed follows ext_ok (fun _ _ _ => rfl) rfl reckoned15 w

/-- fixed() needn't be reckoned again. -/
noncomputable def cfg15 : Cfg := { P := Try.prog, ext := extOf exts, hook := knows 4, facts := [] }
theorem follows15 : cfg15.P.follows .mixedOrders = true := follows
theorem ext_ok15 : ExtOk cfg15 := extOk_of exts rfl exts_ok
theorem known15 {L : Nat → Value} : HookOk L cfg15 := hookOk_of rfl (by kernel_rfl) fixed15_true

end Go.Proofs.Ytmcelbemhklhaaa.rk
