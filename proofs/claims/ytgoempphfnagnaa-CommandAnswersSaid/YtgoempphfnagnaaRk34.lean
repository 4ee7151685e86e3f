/- What fixed() of layer 34 answers: the kernel reckons it. -/
import Derived.Test.YtgoempphfnagnaaRk
namespace Go.Proofs.Ytgoempphfnagnaa.rk
open Go.X Go.RowKit

theorem reckoned34 : answersTrue (callFn cfg 60 31 [] St.zero) = true := by kernel_rfl

theorem fixed34_true (w : World) : Calls Try.prog 31 #[] w fun en w' => en = .returned (.bool true) ∧ Below w.heap.size w w' :=
  closed follows ext_ok (fun _ _ _ => rfl) rfl reckoned34 w

/-- fixed() needn't be reckoned again. -/
noncomputable def cfg34 : Cfg := { P := Try.prog, ext := extOf exts, hook := knows 31, facts := [] }
theorem follows34 : cfg34.P.follows .mixedOrders = true := follows
theorem ext_ok34 : ExtOk cfg34 := extOk_of exts rfl exts_ok
theorem known34 {L : Nat → Value} : HookOk L cfg34 := hookOk_of rfl (by kernel_rfl) fixed34_true

end Go.Proofs.Ytgoempphfnagnaa.rk
