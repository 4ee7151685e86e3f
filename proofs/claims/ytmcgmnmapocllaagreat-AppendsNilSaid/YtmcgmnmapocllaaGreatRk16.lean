/- What fixed() of layer 16 answers: the kernel reckons it. -/
import Derived.Test.YtmcgmnmapocllaaGreatRk
namespace Go.Proofs.YtmcgmnmapocllaaGreat.rk
open Go.X Go.RowKit

theorem reckoned16 : answersTrue (callFn cfg 60 45 [] St.zero) = true := by kernel_rfl

theorem fixed16_true (w : World) : Calls Tryz.prog 45 #[] w fun en w' => en = .returned (.bool true) ∧ Below w.heap.size w w' :=
  closed follows ext_ok (fun _ _ _ => rfl) rfl reckoned16 w

/-- fixed() needn't be reckoned again. -/
noncomputable def cfg16 : Cfg := { P := Tryz.prog, ext := extOf exts, hook := knows 45, facts := [] }
theorem follows16 : cfg16.P.follows .mixedOrders = true := follows
theorem ext_ok16 : ExtOk cfg16 := extOk_of exts rfl exts_ok
theorem known16 {L : Nat → Value} : HookOk L cfg16 := hookOk_of rfl (by kernel_rfl) fixed16_true

end Go.Proofs.YtmcgmnmapocllaaGreat.rk
