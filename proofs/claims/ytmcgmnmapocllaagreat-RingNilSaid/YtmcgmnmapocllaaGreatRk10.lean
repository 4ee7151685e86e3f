/- What fixed() of layer 10 answers: the kernel reckons it. -/
import Derived.Test.YtmcgmnmapocllaaGreatRk
namespace Go.Proofs.YtmcgmnmapocllaaGreat.rk
open Go.X Go.RowKit

theorem reckoned10 : answersTrue (callFn cfg 60 22 [] St.zero) = true := by kernel_rfl

theorem fixed10_true (w : World) : Calls Tryz.prog 22 #[] w fun en w' => en = .returned (.bool true) ∧ Below w.heap.size w w' :=
  closed follows ext_ok (fun _ _ _ => rfl) rfl reckoned10 w

/-- fixed() needn't be reckoned again. -/
noncomputable def cfg10 : Cfg := { P := Tryz.prog, ext := extOf exts, hook := knows 22, facts := [] }
theorem follows10 : cfg10.P.follows .mixedOrders = true := follows
theorem ext_ok10 : ExtOk cfg10 := extOk_of exts rfl exts_ok
theorem known10 {L : Nat → Value} : HookOk L cfg10 := hookOk_of rfl (by kernel_rfl) fixed10_true

end Go.Proofs.YtmcgmnmapocllaaGreat.rk
