/- What fixed() of layer 05 answers: the kernel reckons it. -/
import Derived.Test.YthkeilbiklhogaaRk
namespace Go.Proofs.Ythkeilbiklhogaa.rk
open Go.X Go.RowKit

theorem reckoned05 : answersTrue (callFn cfg 60 15 [] St.zero) = true := by kernel_rfl

theorem fixed05_true (w : World) : Calls Try.prog 15 #[] w fun en w' => en = .returned (.bool true) ∧ Below w.heap.size w w' :=
  closed follows ext_ok (fun _ _ _ => rfl) rfl reckoned05 w

/-- fixed() needn't be reckoned again. -/
noncomputable def cfg05 : Cfg := { P := Try.prog, ext := extOf exts, hook := knows 15, facts := [] }
theorem follows05 : cfg05.P.follows .mixedOrders = true := follows
theorem ext_ok05 : ExtOk cfg05 := extOk_of exts rfl exts_ok
theorem known05 {L : Nat → Value} : HookOk L cfg05 := hookOk_of rfl (by kernel_rfl) fixed05_true

end Go.Proofs.Ythkeilbiklhogaa.rk
