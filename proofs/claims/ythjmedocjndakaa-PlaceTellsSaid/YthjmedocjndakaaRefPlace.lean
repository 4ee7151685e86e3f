/- Contracts of the document's own answers for layer 4. -/
import Derived.Test.YthjmedocjndakaaPlaceMath
import Derived.Test.YthjmedocjndakaaProg
import Derived.Lib.Hide
namespace Go.Proofs.Ythjmedocjndakaa
open Go.RowKit
set_option linter.unusedVariables false

theorem risTerm_any (s : Int) (w : World) (h1 : -9223372036854775808 ≤ s) (h2 : s ≤ 9223372036854775807) :
    Calls Try.prog 33 #[.int .i64 s] w fun e w' => e = .returned (.bool (isT s)) ∧ w = w' := by
  have hno : Hid ((∀ j : Nat, j < 6 → (256 : Int) * 2 ^ j ≠ s) → isT s = false) := Lib.hid (by
    intro h
    have a0 := h 0 (by decide); have a1 := h 1 (by decide); have a2 := h 2 (by decide); have a3 := h 3 (by decide); have a4 := h 4 (by decide); have a5 := h 5 (by decide)
    simp at a0 a1 a2 a3 a4 a5
    unfold isT; simp; omega)
  have hyes : Hid (∀ j : Nat, j < 6 → (256 : Int) * 2 ^ j = s → isT s = true) := Lib.hid (by
    intro j hj he
    subst he
    have : j = 0 ∨ j = 1 ∨ j = 2 ∨ j = 3 ∨ j = 4 ∨ j = 5 := by omega
    rcases this with rfl | rfl | rfl | rfl | rfl | rfl <;> decide)
  go_enter Try.func33, Try.ntmps33
  go_wp2
  go_loop [3] (fun v => ∃ (j : Nat) (u : Int), j ≤ 6 ∧ v = .int .i64 u ∧ Hid (u = 256 * 2 ^ j) ∧ Hid (∀ q : Nat, q < j → (256 : Int) * 2 ^ q ≠ s)) (fun v => (16384 - intOf v).toNat)
  case atStart => exact ⟨0, 256, by omega, rfl, Lib.hid rfl, Lib.hid (by omega)⟩
  case round =>
    obtain ⟨j, u, hj, rfl, hu, hq⟩ := hrel
    have hu2 : u = 256 * 2 ^ j := hu.out
    have hlow : 256 ≤ u := by rw [hu2]; have := pow_pos_i j; omega
    have hup : u ≤ 16384 := by rw [hu2]; have := pow_le_i j 6 hj; omega
    by_cases hlt : j < 6
    · have hup2 : u ≤ 8192 := by rw [hu2]; have := pow_le_i j 5 (by omega); omega
      clear hu2
      by_cases he : u = s
      · have heb : (u == s) = true := by simp [he]
        have ht := Lib.hid (hyes.out j hlt (by rw [← hu.out]; exact he))
        clear he
        go_wp2
        go_ret
        exact ⟨by rw [ht.out]; rfl, rfl⟩
      · have heb : (u == s) = false := by simp [he]
        have hn : Hid (∀ q : Nat, q < j + 1 → (256 : Int) * 2 ^ q ≠ s) := Lib.hid (by
          intro q hqj hqn
          by_cases h : q < j
          · exact hq.out q h hqn
          · obtain rfl : q = j := by omega
            exact he (by rw [hu.out]; exact hqn))
        have hnx : Hid (u * 2 = 256 * 2 ^ (j + 1)) := Lib.hid (by rw [hu.out, pow_succ_i]; omega)
        clear he
        go_wp2
        go_round
        case rel => exact ⟨j + 1, u * 2, by omega, rfl, hnx, hn⟩
        case measure => simp [intOf]; omega
    · obtain rfl : j = 6 := by omega
      obtain rfl : u = 16384 := hu2
      have ht := Lib.hid (hno.out hq.out)
      clear hu
      go_wp2
      go_ret
      exact ⟨by rw [ht.out]; rfl, rfl⟩

theorem rcount_any (t i : Int) (w : World) (h1 : -2147483648 ≤ t) (h2 : t ≤ 2147483647) (h3 : -2147483648 ≤ i) (h4 : i ≤ 2147483647) :
    Calls Try.prog 31 #[.int .i32 t, .int .i32 i] w fun e w' => e = .returned (.int .u32 (cntI t i)) ∧ w = w' := by
  by_cases h : t - i < 0
  · have H := Lib.hid (show cntI t i = t - i + 4294967296 by unfold cntI; omega)
    go_enter Try.func31, Try.ntmps31
    go_wp2
    go_ret
    exact ⟨by rw [H.out]; rfl, rfl⟩
  · have H := Lib.hid (show cntI t i = t - i by unfold cntI; omega)
    go_enter Try.func31, Try.ntmps31
    go_wp2
    go_ret
    exact ⟨by rw [H.out]; rfl, rfl⟩

theorem rmaxPosition_any (s : Int) (w : World) (h1 : -9223372036854775808 ≤ s) (h2 : s ≤ 9223372036854775807) :
    Calls Try.prog 35 #[.int .i64 s] w fun e w' => e = .returned (.int .i64 (mxI s)) ∧ w = w' := by
  cases hT : isT s with
  | true =>
    obtain ⟨g1, g2⟩ := isT_range hT
    have HM := Lib.hid ((mx_yes hT).trans (Int.mul_comm _ _))
    have HT := Lib.hid hT
    clear hT
    go_enter Try.func35, Try.ntmps35
    go_wp2_with (go_at_call 33; refine (risTerm_any _ _ (by omega) (by omega)).mono ?_; rw [HT.out]; rintro e w' ⟨rfl, rfl⟩)
    go_ret
    exact ⟨by rw [HM.out]; rfl, rfl⟩
  | false =>
    have HM := Lib.hid (mx_no hT)
    have HT := Lib.hid hT
    clear hT
    go_enter Try.func35, Try.ntmps35
    go_wp2_with (go_at_call 33; refine (risTerm_any _ _ (by omega) (by omega)).mono ?_; rw [HT.out]; rintro e w' ⟨rfl, rfl⟩)
    go_ret
    exact ⟨by rw [HM.out]; rfl, rfl⟩

theorem rposition_any (t i o s : Int) (w : World) (h1 : -9223372036854775808 ≤ s) (h2 : s ≤ 9223372036854775807) (h3 : -2147483648 ≤ t) (h4 : t ≤ 2147483647) (h5 : -2147483648 ≤ i) (h6 : i ≤ 2147483647) :
    Calls Try.prog 25 #[.int .i32 t, .int .i32 i, .int .i64 o, .int .i64 s] w fun e w' => e = .returned (.tuple #[.int .i64 (psI t i o s), .int .i64 (psE t i o s)]) ∧ w = w' := by
  obtain ⟨c0, c1⟩ := cntI_range t i
  cases hP : psB t i o s with
  | true =>
    obtain ⟨hT, g1, g2, g3⟩ := psB_yes hP
    obtain ⟨g4, g5⟩ := isT_range hT
    obtain ⟨g6, g7⟩ := mul_range hT c0 g3
    obtain ⟨e1, e2⟩ := psI_yes hP
    have HT := Lib.hid hT
    have H1 := Lib.hid e1
    have H2 := Lib.hid e2
    clear hP hT e1 e2
    go_enter Try.func25, Try.ntmps25
    go_wp2_with (first | (go_at_call 31; refine (rcount_any _ _ _ h3 h4 h5 h6).mono ?_; rintro e w' ⟨rfl, rfl⟩) | (go_at_call 33; refine (risTerm_any _ _ (by omega) (by omega)).mono ?_; rw [HT.out]; rintro e w' ⟨rfl, rfl⟩))
    go_ret2
    exact ⟨by rw [H1.out, H2.out]; rfl, rfl⟩
  | false =>
    have hn := psB_no hP
    obtain ⟨e1, e2⟩ := psI_no hP
    have H1 := Lib.hid e1
    have H2 := Lib.hid e2
    clear hP e1 e2
    rcases hn with hp | ⟨hp, g1⟩ | ⟨hp, g1, g2⟩ | ⟨hp, g1, g2, g3⟩
    all_goals
      have HT := Lib.hid hp
      clear hp
      go_enter Try.func25, Try.ntmps25
      go_wp2_with (first | (go_at_call 31; refine (rcount_any _ _ _ h3 h4 h5 h6).mono ?_; rintro e w' ⟨rfl, rfl⟩) | (go_at_call 33; refine (risTerm_any _ _ (by omega) (by omega)).mono ?_; rw [HT.out]; rintro e w' ⟨rfl, rfl⟩))
      go_ret2
      exact ⟨by rw [H1.out, H2.out]; rfl, rfl⟩

theorem rterm_any (p i s : Int) (w : World) (h1 : -9223372036854775808 ≤ s) (h2 : s ≤ 9223372036854775807) (h3 : -2147483648 ≤ i) (h4 : i ≤ 2147483647) :
    Calls Try.prog 27 #[.int .i64 p, .int .i32 i, .int .i64 s] w fun e w' => e = .returned (.tuple #[.int .i32 (tmI p i s), .int .i64 (inE p s)]) ∧ w = w' := by
  cases hI : inB p s with
  | true =>
    obtain ⟨hT, g3, g4, g5⟩ := inB_yes hI
    obtain ⟨g6, g7⟩ := div_lt hI
    obtain ⟨e1, _, e3⟩ := in_yes (i := i) hI
    have gT := isT_range hT
    have hz : (s == 0) = false := by simp; omega
    have HT := Lib.hid hT
    have H3 := Lib.hid e3
    by_cases hw : 2147483648 ≤ i + p / s
    · have H1 := Lib.hid (show tmI p i s = i + p / s - 4294967296 by rw [e1]; unfold wrap32; omega)
      clear hT hI e1 e3
      go_enter Try.func27, Try.ntmps27
      go_wp2_with (first | (go_at_call 33; refine (risTerm_any _ _ (by omega) (by omega)).mono ?_; rw [HT.out]; rintro e w' ⟨rfl, rfl⟩) | (go_at_call 35; refine (rmaxPosition_any _ _ (by omega) (by omega)).mono ?_; rintro e w' ⟨rfl, rfl⟩))
      go_ret2
      exact ⟨by rw [H1.out, H3.out]; rfl, rfl⟩
    · have H1 := Lib.hid (show tmI p i s = i + p / s by rw [e1]; unfold wrap32; omega)
      clear hT hI e1 e3
      go_enter Try.func27, Try.ntmps27
      go_wp2_with (first | (go_at_call 33; refine (risTerm_any _ _ (by omega) (by omega)).mono ?_; rw [HT.out]; rintro e w' ⟨rfl, rfl⟩) | (go_at_call 35; refine (rmaxPosition_any _ _ (by omega) (by omega)).mono ?_; rintro e w' ⟨rfl, rfl⟩))
      go_ret2
      exact ⟨by rw [H1.out, H3.out]; rfl, rfl⟩
  | false =>
    have hn := inB_no hI
    obtain ⟨e1, _, e3⟩ := in_no (i := i) hI
    have H1 := Lib.hid e1
    have H3 := Lib.hid e3
    clear hI e1 e3
    rcases hn with hp | ⟨hp, g1⟩ | ⟨hp, g1, g2⟩
    all_goals
      have HT := Lib.hid hp
      clear hp
      go_enter Try.func27, Try.ntmps27
      go_wp2_with (first | (go_at_call 33; refine (risTerm_any _ _ (by omega) (by omega)).mono ?_; rw [HT.out]; rintro e w' ⟨rfl, rfl⟩) | (go_at_call 35; refine (rmaxPosition_any _ _ (by omega) (by omega)).mono ?_; rintro e w' ⟨rfl, rfl⟩))
      go_ret2
      exact ⟨by rw [H1.out, H3.out]; rfl, rfl⟩

theorem roffset_any (p s : Int) (w : World) (h1 : -9223372036854775808 ≤ s) (h2 : s ≤ 9223372036854775807) :
    Calls Try.prog 29 #[.int .i64 p, .int .i64 s] w fun e w' => e = .returned (.tuple #[.int .i64 (ofI p s), .int .i64 (inE p s)]) ∧ w = w' := by
  cases hI : inB p s with
  | true =>
    obtain ⟨hT, g3, g4, g5⟩ := inB_yes hI
    obtain ⟨_, e2, e3⟩ := in_yes (i := 0) hI
    have gT := isT_range hT
    have hz : (s == 0) = false := by simp; omega
    have HT := Lib.hid hT
    have H2 := Lib.hid e2
    have H3 := Lib.hid e3
    clear hT hI e2 e3
    go_enter Try.func29, Try.ntmps29
    go_wp2_with (first | (go_at_call 33; refine (risTerm_any _ _ (by omega) (by omega)).mono ?_; rw [HT.out]; rintro e w' ⟨rfl, rfl⟩) | (go_at_call 35; refine (rmaxPosition_any _ _ (by omega) (by omega)).mono ?_; rintro e w' ⟨rfl, rfl⟩))
    go_ret2
    exact ⟨by rw [H2.out, H3.out]; rfl, rfl⟩
  | false =>
    have hn := inB_no hI
    obtain ⟨_, e2, e3⟩ := in_no (i := 0) hI
    have H2 := Lib.hid e2
    have H3 := Lib.hid e3
    clear hI e2 e3
    rcases hn with hp | ⟨hp, g1⟩ | ⟨hp, g1, g2⟩
    all_goals
      have HT := Lib.hid hp
      clear hp
      go_enter Try.func29, Try.ntmps29
      go_wp2_with (first | (go_at_call 33; refine (risTerm_any _ _ (by omega) (by omega)).mono ?_; rw [HT.out]; rintro e w' ⟨rfl, rfl⟩) | (go_at_call 35; refine (rmaxPosition_any _ _ (by omega) (by omega)).mono ?_; rintro e w' ⟨rfl, rfl⟩))
      go_ret2
      exact ⟨by rw [H2.out, H3.out]; rfl, rfl⟩

end Go.Proofs.Ythjmedocjndakaa
