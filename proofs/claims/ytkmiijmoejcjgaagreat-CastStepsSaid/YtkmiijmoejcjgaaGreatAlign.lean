/- word.Align's contract. -/
import Derived.Test.YtkmiijmoejcjgaaGreatIsPower
namespace Go.Proofs.YtkmiijmoejcjgaaGreat
open Go.RowKit
set_option linter.unusedVariables false

theorem align_any (n to : Int) (w : World) (h1 : -9223372036854775808 ≤ n) (h2 : n ≤ 9223372036854775807) (h3 : -9223372036854775808 ≤ to) (h4 : to ≤ 9223372036854775807) :
    Calls Tryz.prog 58 #[.int .i64 n, .int .i64 to] w fun e w' => e = .returned (.tuple #[.int .i64 (alI n to), .int .i64 (alE n to)]) ∧ w = w' := by
  by_cases h : alB n to = true
  · obtain ⟨hp, h0, h1⟩ := alB_parts h
    have hpos := isP_pos hp
    obtain ⟨_, _, f1, f2, f3⟩ := al_facts n to h4 h
    have hb := al_bits n to h4 h
    have he := alE_yes h
    have hw : wrap64 (wrap64 (n + to) - 1) = n + to - 1 := by unfold wrap64; omega
    have HP := Lib.hid hp
    have HE := Lib.hid he
    clear h hp he
    go_enter Tryz.func58, Tryz.ntmps58
    go_wp2_with (go_at_call 32; refine (isPower_any _ _ (by omega) (by omega)).mono ?_; rw [HP.out]; rintro e w' ⟨rfl, rfl⟩)
    go_ret2
    exact ⟨by rw [HE.out]; rfl, rfl⟩
  · have h' : alB n to = false := by simpa using h
    obtain ⟨e1, e2⟩ := alI_no h'
    have hor : isP to = false ∨ (isP to = true ∧ (n < 0 ∨ 4611686018427387904 < n)) := by
      unfold alB at h'
      cases hp : isP to with
      | false => exact .inl rfl
      | true =>
        rw [hp] at h'
        simp at h'
        exact .inr ⟨rfl, by omega⟩
    have H1 := Lib.hid e1
    have H2 := Lib.hid e2
    clear h h' e1 e2
    rcases hor with hp | ⟨hp, hn | hn⟩
    · have HP := Lib.hid hp
      clear hp
      go_enter Tryz.func58, Tryz.ntmps58
      go_wp2_with (go_at_call 32; refine (isPower_any _ _ (by omega) (by omega)).mono ?_; rw [HP.out]; rintro e w' ⟨rfl, rfl⟩)
      go_ret2
      exact ⟨by rw [H1.out, H2.out]; rfl, rfl⟩
    · have HP := Lib.hid hp
      clear hp
      go_enter Tryz.func58, Tryz.ntmps58
      go_wp2_with (go_at_call 32; refine (isPower_any _ _ (by omega) (by omega)).mono ?_; rw [HP.out]; rintro e w' ⟨rfl, rfl⟩)
      go_ret2
      exact ⟨by rw [H1.out, H2.out]; rfl, rfl⟩
    · have HP := Lib.hid hp
      clear hp
      go_enter Tryz.func58, Tryz.ntmps58
      go_wp2_with (go_at_call 32; refine (isPower_any _ _ (by omega) (by omega)).mono ?_; rw [HP.out]; rintro e w' ⟨rfl, rfl⟩)
      go_ret2
      exact ⟨by rw [H1.out, H2.out]; rfl, rfl⟩

end Go.Proofs.YtkmiijmoejcjgaaGreat
