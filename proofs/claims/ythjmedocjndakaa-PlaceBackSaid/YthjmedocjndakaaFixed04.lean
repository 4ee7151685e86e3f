/- The fixed calls at the head of layer 4's statements, all true. -/
import Derived.Test.YthjmedocjndakaaPlace
namespace Go.Proofs.Ythjmedocjndakaa
open Go.RowKit
set_option linter.unusedVariables false

theorem fixed04_true (w : World) : Calls Try.prog 23 #[] w fun e w' => e = .returned (.bool true) ∧ w = w' := by
  have a1 : psI 7 5 32 256 = 544 := by decide +kernel
  have a2 : psE 7 5 32 256 = 0 := by decide +kernel
  have a3 : tmI 544 5 256 = 7 := by decide +kernel
  have a4 : inE 544 256 = 0 := by decide +kernel
  have a5 : ofI 544 256 = 32 := by decide +kernel
  have a6 : psE 0 0 0 100 = 1 := by decide +kernel
  go_enter Try.func23, Try.ntmps23
  go_wp2_with (first | (go_at_call 24; refine (position_any _ _ _ _ _ (by decide) (by decide)).mono ?_; rintro e w' ⟨rfl, rfl⟩) | (go_at_call 26; refine (term_any _ _ _ _ (by decide) (by decide) (by decide) (by decide)).mono ?_; rintro e w' ⟨rfl, rfl⟩) | (go_at_call 28; refine (offset_any _ _ _ (by decide) (by decide) (by decide) (by decide)).mono ?_; rintro e w' ⟨rfl, rfl⟩) | (go_at_call 36; refine (part_any _ _ (by decide) (by decide)).mono ?_; rintro e w' ⟨rfl, rfl⟩))
  go_ret
  exact ⟨rfl, rfl⟩

end Go.Proofs.Ythjmedocjndakaa
