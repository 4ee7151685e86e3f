/- What fixed() of layer 12 answers: the kernel reckons it. -/
import Derived.Test.YtmcgmnmapocllaaGreatRk
namespace Go.Proofs.YtmcgmnmapocllaaGreat.rk
open Go.X Go.RowKit

theorem reckoned12 : answersTrue (callFn cfg 60 33 [] St.zero) = true := by kernel_rfl

theorem fixed12_true (w : World) : Calls Tryz.prog 33 #[] w fun en w' => en = .returned (.bool true) ∧ Below w.heap.size w w' :=
  closed follows ext_ok (fun _ _ _ => rfl) rfl reckoned12 w

/-- fixed() needn't be reckoned again. -/
noncomputable def cfg12 : Cfg := { P := Tryz.prog, ext := extOf exts, hook := knows 33, facts := [] }
theorem follows12 : cfg12.P.follows .mixedOrders = true := follows
theorem ext_ok12 : ExtOk cfg12 := extOk_of exts rfl exts_ok
theorem known12 {L : Nat → Value} : HookOk L cfg12 := hookOk_of rfl (by kernel_rfl) fixed12_true

end Go.Proofs.YtmcgmnmapocllaaGreat.rk
