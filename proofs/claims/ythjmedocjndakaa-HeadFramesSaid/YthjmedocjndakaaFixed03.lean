/- The fixed calls at the head of layer 3's statements, all true. -/
import Derived.Test.YthjmedocjndakaaHead
namespace Go.Proofs.Ythjmedocjndakaa
open Go.RowKit
set_option linter.unusedVariables false

theorem fixed03_true (w : World) : Calls Try.prog 9 #[] w fun e w' => e = .returned (.bool true) ∧ w = w' := by
  obtain ⟨r0, r1⟩ := rec_range (-8) (-1)
  obtain ⟨a2, a3⟩ := rec_sp (-8) (-1) (by decide) (by decide) (by decide) (by decide)
  obtain ⟨R, hR⟩ : ∃ R, recI (-8) (-1) = R := ⟨_, rfl⟩
  rw [hR] at r0 r1 a2 a3
  have a4 : szI 1 32 32 = 64 := by decide +kernel
  have a5 : szE 1 = 0 := by decide +kernel
  have a6 : szE (-1) = 1 := by decide +kernel
  have a7 : recI 8 1 = 4294967304 := by decide +kernel
  have a8 : flI true true = 192 := by decide +kernel
  go_enter Try.func9, Try.ntmps9
  go_wp2_with (first | (go_at_call 10; refine (record_any _ _ _).mono ?_; rintro e w' ⟨rfl, rfl⟩) | (go_at_call 11; refine (split_any _ _ r0 r1).mono ?_; rintro e w' ⟨rfl, rfl⟩) | (go_at_call 20; refine (frameSize_any _ _).mono ?_; rintro e w' ⟨rfl, rfl⟩) | (go_at_call 18; refine (recordSize_any _ _).mono ?_; rintro e w' ⟨rfl, rfl⟩) | (go_at_call 22; refine (flags_any _ _ _).mono ?_; rintro e w' ⟨rfl, rfl⟩))
  go_ret
  exact ⟨rfl, rfl⟩

end Go.Proofs.Ythjmedocjndakaa
