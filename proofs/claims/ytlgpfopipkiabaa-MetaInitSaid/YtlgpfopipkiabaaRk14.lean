/- What fixed() of layer 14 answers: the kernel reckons it. -/
import Derived.Test.YtlgpfopipkiabaaRk
namespace Go.Proofs.Ytlgpfopipkiabaa.rk
open Go.X Go.RowKit

theorem reckoned14 : answersTrue (callFn cfg 60 4 [] St.zero) = true := by kernel_rfl

theorem fixed14_true (w : World) : Calls Try.prog 4 #[] w fun en w' => en = .returned (.bool true) ∧ Below w.heap.size w w' :=
  closed follows ext_ok (fun _ _ _ => rfl) rfl reckoned14 w

/-- fixed() needn't be reckoned again. -/
noncomputable def cfg14 : Cfg := { P := Try.prog, ext := extOf exts, hook := knows 4, facts := [] }
theorem follows14 : cfg14.P.follows .mixedOrders = true := follows
theorem ext_ok14 : ExtOk cfg14 := extOk_of exts rfl exts_ok
theorem known14 {L : Nat → Value} : HookOk L cfg14 := hookOk_of rfl (by kernel_rfl) fixed14_true

end Go.Proofs.Ytlgpfopipkiabaa.rk
