/- What fixed() of layer 08 answers: the kernel reckons it. -/
import Derived.Test.YtmcgmnmapocllaaGreatRk
namespace Go.Proofs.YtmcgmnmapocllaaGreat.rk
open Go.X Go.RowKit

theorem reckoned08 : answersTrue (callFn cfg 60 11 [] St.zero) = true := by kernel_rfl

theorem fixed08_true (w : World) : Calls Tryz.prog 11 #[] w fun en w' => en = .returned (.bool true) ∧ Below w.heap.size w w' :=
  closed follows ext_ok (fun _ _ _ => rfl) rfl reckoned08 w

/-- fixed() needn't be reckoned again. -/
noncomputable def cfg08 : Cfg := { P := Tryz.prog, ext := extOf exts, hook := knows 11, facts := [] }
theorem follows08 : cfg08.P.follows .mixedOrders = true := follows
theorem ext_ok08 : ExtOk cfg08 := extOk_of exts rfl exts_ok
theorem known08 {L : Nat → Value} : HookOk L cfg08 := hookOk_of rfl (by kernel_rfl) fixed08_true

end Go.Proofs.YtmcgmnmapocllaaGreat.rk
