/- What fixed() of layer 17 answers: the kernel reckons it. -/
import Derived.Test.YtmcgmnmapocllaaGreatRk
namespace Go.Proofs.YtmcgmnmapocllaaGreat.rk
open Go.X Go.RowKit

theorem reckoned17 : answersTrue (callFn cfg 60 50 [] St.zero) = true := by kernel_rfl

theorem fixed17_true (w : World) : Calls Tryz.prog 50 #[] w fun en w' => en = .returned (.bool true) ∧ Below w.heap.size w w' :=
  closed follows ext_ok (fun _ _ _ => rfl) rfl reckoned17 w

/-- fixed() needn't be reckoned again. -/
noncomputable def cfg17 : Cfg := { P := Tryz.prog, ext := extOf exts, hook := knows 50, facts := [] }
theorem follows17 : cfg17.P.follows .mixedOrders = true := follows
theorem ext_ok17 : ExtOk cfg17 := extOk_of exts rfl exts_ok
theorem known17 {L : Nat → Value} : HookOk L cfg17 := hookOk_of rfl (by kernel_rfl) fixed17_true

end Go.Proofs.YtmcgmnmapocllaaGreat.rk
