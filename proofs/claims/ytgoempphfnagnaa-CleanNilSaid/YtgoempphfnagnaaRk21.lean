/- What fixed() of layer 21 answers: the kernel reckons it. -/
import Derived.Test.YtgoempphfnagnaaRk
namespace Go.Proofs.Ytgoempphfnagnaa.rk
open Go.X Go.RowKit

theorem reckoned21 : answersTrue (callFn cfg 60 12 [] St.zero) = true := by kernel_rfl

theorem fixed21_true (w : World) : Calls Try.prog 12 #[] w fun en w' => en = .returned (.bool true) ∧ Below w.heap.size w w' :=
  closed follows ext_ok (fun _ _ _ => rfl) rfl reckoned21 w

/-- fixed() needn't be reckoned again. -/
noncomputable def cfg21 : Cfg := { P := Try.prog, ext := extOf exts, hook := knows 12, facts := [] }
theorem follows21 : cfg21.P.follows .mixedOrders = true := follows
theorem ext_ok21 : ExtOk cfg21 := extOk_of exts rfl exts_ok
theorem known21 {L : Nat → Value} : HookOk L cfg21 := hookOk_of rfl (by kernel_rfl) fixed21_true

end Go.Proofs.Ytgoempphfnagnaa.rk
