/- What fixed() of layer 13 answers: the kernel reckons it. -/
import Derived.Test.YtmcgmnmapocllaaGreatRk
namespace Go.Proofs.YtmcgmnmapocllaaGreat.rk
open Go.X Go.RowKit

theorem reckoned13 : answersTrue (callFn cfg 60 39 [] St.zero) = true := by kernel_rfl

theorem fixed13_true (w : World) : Calls Tryz.prog 39 #[] w fun en w' => en = .returned (.bool true) ∧ Below w.heap.size w w' :=
  closed follows ext_ok (fun _ _ _ => rfl) rfl reckoned13 w

/-- fixed() needn't be reckoned again. -/
noncomputable def cfg13 : Cfg := { P := Tryz.prog, ext := extOf exts, hook := knows 39, facts := [] }
theorem follows13 : cfg13.P.follows .mixedOrders = true := follows
theorem ext_ok13 : ExtOk cfg13 := extOk_of exts rfl exts_ok
theorem known13 {L : Nat → Value} : HookOk L cfg13 := hookOk_of rfl (by kernel_rfl) fixed13_true

end Go.Proofs.YtmcgmnmapocllaaGreat.rk
