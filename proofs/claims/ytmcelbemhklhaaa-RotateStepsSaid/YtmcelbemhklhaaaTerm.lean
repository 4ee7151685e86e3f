/- Which terms may be, by the program and by the document. -/
import Derived.Test.YtmcelbemhklhaaaIsPower
import Derived.Test.YtmcelbemhklhaaaPlaceMath
namespace Go.Proofs.Ytmcelbemhklhaaa
open Go.RowKit
set_option linter.unusedVariables false

theorem isTerm_any (s : Int) (w : World) (h1 : -9223372036854775808 ≤ s) (h2 : s ≤ 9223372036854775807) :
    Calls Try.prog 41 #[.int .i64 s] w fun e w' => e = .returned (.bool (isT s)) ∧ w = w' := by
  cases hT : isT s with
  | true =>
    obtain ⟨g1, g2⟩ := isT_range hT
    have HP := Lib.hid (isT_isP hT)
    clear hT
    go_enter Try.func41, Try.ntmps41
    go_wp2_with (go_at_call 68; refine (isPower_any _ _ (by omega) (by omega)).mono ?_; rw [HP.out]; rintro e w' ⟨rfl, rfl⟩)
    go_ret
    exact ⟨rfl, rfl⟩
  | false =>
    have hn := isT_no hT
    clear hT
    rcases hn with hp | ⟨hp, h3⟩ | ⟨hp, h3, h4⟩
    all_goals
      have HP := Lib.hid hp
      clear hp
      go_enter Try.func41, Try.ntmps41
      go_wp2_with (go_at_call 68; refine (isPower_any _ _ (by omega) (by omega)).mono ?_; rw [HP.out]; rintro e w' ⟨rfl, rfl⟩)
      go_ret
      first | exact ⟨rfl, rfl⟩ | exact ⟨by simp; omega, rfl⟩

theorem risTerm_any (s : Int) (w : World) (h1 : -9223372036854775808 ≤ s) (h2 : s ≤ 9223372036854775807) :
    Calls Try.prog 51 #[.int .i64 s] w fun e w' => e = .returned (.bool (isT s)) ∧ w = w' := by
  have hno : Hid ((∀ j : Nat, j < 6 → (256 : Int) * 2 ^ j ≠ s) → isT s = false) := Lib.hid (by
    intro h
    have a0 := h 0 (by decide); have a1 := h 1 (by decide); have a2 := h 2 (by decide); have a3 := h 3 (by decide); have a4 := h 4 (by decide); have a5 := h 5 (by decide)
    simp at a0 a1 a2 a3 a4 a5
    unfold isT; simp; omega)
  have hyes : Hid (∀ j : Nat, j < 6 → (256 : Int) * 2 ^ j = s → isT s = true) := Lib.hid (by
    intro j hj he
    subst he
    have : j = 0 ∨ j = 1 ∨ j = 2 ∨ j = 3 ∨ j = 4 ∨ j = 5 := by omega
    rcases this with rfl | rfl | rfl | rfl | rfl | rfl <;> decide)
  go_enter Try.func51, Try.ntmps51
  go_wp2
  go_loop [3] (fun v => ∃ (j : Nat) (u : Int), j ≤ 6 ∧ v = .int .i64 u ∧ Hid (u = 256 * 2 ^ j) ∧ Hid (∀ q : Nat, q < j → (256 : Int) * 2 ^ q ≠ s)) (fun v => (16384 - intOf v).toNat)
  case atStart => exact ⟨0, 256, by omega, rfl, Lib.hid rfl, Lib.hid (by omega)⟩
  case round =>
    obtain ⟨j, u, hj, rfl, hu, hq⟩ := hrel
    have hu2 : u = 256 * 2 ^ j := hu.out
    have hlow : 256 ≤ u := by rw [hu2]; have := pow_pos_i j; omega
    have hup : u ≤ 16384 := by rw [hu2]; have := pow_le_i j 6 hj; omega
    by_cases hlt : j < 6
    · have hup2 : u ≤ 8192 := by rw [hu2]; have := pow_le_i j 5 (by omega); omega
      clear hu2
      by_cases he : u = s
      · have heb : (u == s) = true := by simp [he]
        have ht := Lib.hid (hyes.out j hlt (by rw [← hu.out]; exact he))
        clear he
        go_wp2
        go_ret
        exact ⟨by rw [ht.out]; rfl, rfl⟩
      · have heb : (u == s) = false := by simp [he]
        have hn : Hid (∀ q : Nat, q < j + 1 → (256 : Int) * 2 ^ q ≠ s) := Lib.hid (by
          intro q hqj hqn
          by_cases h : q < j
          · exact hq.out q h hqn
          · obtain rfl : q = j := by omega
            exact he (by rw [hu.out]; exact hqn))
        have hnx : Hid (u * 2 = 256 * 2 ^ (j + 1)) := Lib.hid (by rw [hu.out, pow_succ_i]; omega)
        clear he
        go_wp2
        go_round
        case rel => exact ⟨j + 1, u * 2, by omega, rfl, hnx, hn⟩
        case measure => simp [intOf]; omega
    · obtain rfl : j = 6 := by omega
      obtain rfl : u = 16384 := hu2
      have ht := Lib.hid (hno.out hq.out)
      clear hu
      go_wp2
      go_ret
      exact ⟨by rw [ht.out]; rfl, rfl⟩

end Go.Proofs.Ytmcelbemhklhaaa
