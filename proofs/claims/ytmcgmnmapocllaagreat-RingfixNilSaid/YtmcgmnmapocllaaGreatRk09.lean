/- What fixed() of layer 09 answers: the kernel reckons it. -/
import Derived.Test.YtmcgmnmapocllaaGreatRk
namespace Go.Proofs.YtmcgmnmapocllaaGreat.rk
open Go.X Go.RowKit

theorem reckoned09 : answersTrue (callFn cfg 60 17 [] St.zero) = true := by kernel_rfl

theorem fixed09_true (w : World) : Calls Tryz.prog 17 #[] w fun en w' => en = .returned (.bool true) ∧ Below w.heap.size w w' :=
  closed follows ext_ok (fun _ _ _ => rfl) rfl reckoned09 w

/-- fixed() needn't be reckoned again. -/
noncomputable def cfg09 : Cfg := { P := Tryz.prog, ext := extOf exts, hook := knows 17, facts := [] }
theorem follows09 : cfg09.P.follows .mixedOrders = true := follows
theorem ext_ok09 : ExtOk cfg09 := extOk_of exts rfl exts_ok
theorem known09 {L : Nat → Value} : HookOk L cfg09 := hookOk_of rfl (by kernel_rfl) fixed09_true

end Go.Proofs.YtmcgmnmapocllaaGreat.rk
