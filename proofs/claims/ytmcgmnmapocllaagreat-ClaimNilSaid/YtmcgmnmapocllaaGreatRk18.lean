/- What fixed() of layer 18 answers: the kernel reckons it. -/
import Derived.Test.YtmcgmnmapocllaaGreatRk
namespace Go.Proofs.YtmcgmnmapocllaaGreat.rk
open Go.X Go.RowKit

theorem reckoned18 : answersTrue (callFn cfg 60 55 [] St.zero) = true := by kernel_rfl

theorem fixed18_true (w : World) : Calls Tryz.prog 55 #[] w fun en w' => en = .returned (.bool true) ∧ Below w.heap.size w w' :=
  closed follows ext_ok (fun _ _ _ => rfl) rfl reckoned18 w

/-- fixed() needn't be reckoned again. -/
noncomputable def cfg18 : Cfg := { P := Tryz.prog, ext := extOf exts, hook := knows 55, facts := [] }
theorem follows18 : cfg18.P.follows .mixedOrders = true := follows
theorem ext_ok18 : ExtOk cfg18 := extOk_of exts rfl exts_ok
theorem known18 {L : Nat → Value} : HookOk L cfg18 := hookOk_of rfl (by kernel_rfl) fixed18_true

end Go.Proofs.YtmcgmnmapocllaaGreat.rk
