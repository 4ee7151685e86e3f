/- What fixed() of layer 02 answers: the kernel reckons it. -/
import Derived.Test.YtlfahlalpgolcaaRk
namespace Go.Proofs.Ytlfahlalpgolcaa.rk
open Go.X Go.RowKit

theorem reckoned02 : answersTrue (callFn cfg 60 4 [] St.zero) = true := by kernel_rfl

theorem fixed02_true (w : World) : Calls Try.prog 4 #[] w fun en w' => en = .returned (.bool true) ∧ Below w.heap.size w w' :=
  closed follows ext_ok (fun _ _ _ => rfl) rfl reckoned02 w

/-- fixed() needn't be reckoned again. -/
noncomputable def cfg02 : Cfg := { P := Try.prog, ext := extOf exts, hook := knows 4, facts := [] }
theorem follows02 : cfg02.P.follows .mixedOrders = true := follows
theorem ext_ok02 : ExtOk cfg02 := extOk_of exts rfl exts_ok
theorem known02 {L : Nat → Value} : HookOk L cfg02 := hookOk_of rfl (by kernel_rfl) fixed02_true

end Go.Proofs.Ytlfahlalpgolcaa.rk
