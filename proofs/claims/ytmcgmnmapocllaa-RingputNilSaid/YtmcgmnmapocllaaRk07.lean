/- What fixed() of layer 07 answers: the kernel reckons it. -/
import Derived.Test.YtmcgmnmapocllaaRk
namespace Go.Proofs.Ytmcgmnmapocllaa.rk
open Go.X Go.RowKit

theorem reckoned07 : answersTrue (callFn cfg 60 12 [] St.zero) = true := by kernel_rfl

theorem fixed07_true (w : World) : Calls Try.prog 12 #[] w fun en w' => en = .returned (.bool true) ∧ Below w.heap.size w w' :=
  closed follows ext_ok (fun _ _ _ => rfl) rfl reckoned07 w

/-- fixed() needn't be reckoned again. -/
noncomputable def cfg07 : Cfg := { P := Try.prog, ext := extOf exts, hook := knows 12, facts := [] }
theorem follows07 : cfg07.P.follows .mixedOrders = true := follows
theorem ext_ok07 : ExtOk cfg07 := extOk_of exts rfl exts_ok
theorem known07 {L : Nat → Value} : HookOk L cfg07 := hookOk_of rfl (by kernel_rfl) fixed07_true

end Go.Proofs.Ytmcgmnmapocllaa.rk
