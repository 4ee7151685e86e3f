/- What fixed() of layer 11 answers: the kernel reckons it. -/
import Derived.Test.YtkmiijmoejcjgaaGreatRk
namespace Go.Proofs.YtkmiijmoejcjgaaGreat.rk
open Go.X Go.RowKit

theorem reckoned11 : answersTrue (callFn cfg 60 4 [] St.zero) = true := by kernel_rfl

theorem fixed11_true (w : World) : Calls Tryz.prog 4 #[] w fun en w' => en = .returned (.bool true) ∧ Below w.heap.size w w' :=
  closed follows ext_ok (fun _ _ _ => rfl) rfl reckoned11 w

/-- fixed() needn't be reckoned again. -/
noncomputable def cfg11 : Cfg := { P := Tryz.prog, ext := extOf exts, hook := knows 4, facts := [] }
theorem follows11 : cfg11.P.follows .mixedOrders = true := follows
theorem ext_ok11 : ExtOk cfg11 := extOk_of exts rfl exts_ok
theorem known11 {L : Nat → Value} : HookOk L cfg11 := hookOk_of rfl (by kernel_rfl) fixed11_true

end Go.Proofs.YtkmiijmoejcjgaaGreat.rk
