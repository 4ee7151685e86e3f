/- word.Mask's contract. -/
import Derived.Test.YthjmedocjndakaaIsPower
namespace Go.Proofs.Ythjmedocjndakaa
open Go.RowKit
set_option linter.unusedVariables false

theorem mask_any (n to : Int) (w : World) (h1 : -9223372036854775808 ≤ n) (h2 : n ≤ 9223372036854775807) (h3 : -9223372036854775808 ≤ to) (h4 : to ≤ 9223372036854775807) :
    Calls Try.prog 49 #[.int .i64 n, .int .i64 to] w fun e w' => e = .returned (.int .i64 (mkI n to)) ∧ w = w' := by
  by_cases h : isP to = true
  · have hm : mkI n to = bits .and .i64 n (to - 1) := by
      obtain ⟨k, hk, rfl⟩ := (isP_iff to h4).1 h
      rw [and_mask n k hk, mkI, if_pos h]
    have h0 := isP_pos h
    have HM := Lib.hid hm
    have HP := Lib.hid h
    clear hm h
    go_enter Try.func49, Try.ntmps49
    go_wp2_with (go_at_call 50; refine (isPower_any _ _ (by omega) (by omega)).mono ?_; rw [HP.out]; rintro e w' ⟨rfl, rfl⟩)
    go_ret
    exact ⟨by rw [HM.out]; rfl, rfl⟩
  · have hf : isP to = false := by simpa using h
    have hm : mkI n to = 0 := by rw [mkI, if_neg h]
    have HM := Lib.hid hm
    have HP := Lib.hid hf
    clear hm h hf
    go_enter Try.func49, Try.ntmps49
    go_wp2_with (go_at_call 50; refine (isPower_any _ _ (by omega) (by omega)).mono ?_; rw [HP.out]; rintro e w' ⟨rfl, rfl⟩)
    go_ret
    exact ⟨by rw [HM.out]; rfl, rfl⟩

end Go.Proofs.Ythjmedocjndakaa
