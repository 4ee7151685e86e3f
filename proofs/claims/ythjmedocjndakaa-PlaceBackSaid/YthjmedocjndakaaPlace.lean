/- Contracts of package place's functions. -/
import Derived.Test.YthjmedocjndakaaMask
import Derived.Test.YthjmedocjndakaaPlaceMath
namespace Go.Proofs.Ythjmedocjndakaa
open Go.RowKit
set_option linter.unusedVariables false

theorem isTerm_any (s : Int) (w : World) (h1 : -9223372036854775808 ≤ s) (h2 : s ≤ 9223372036854775807) :
    Calls Try.prog 32 #[.int .i64 s] w fun e w' => e = .returned (.bool (isT s)) ∧ w = w' := by
  cases hT : isT s with
  | true =>
    obtain ⟨g1, g2⟩ := isT_range hT
    have HP := Lib.hid (isT_isP hT)
    clear hT
    go_enter Try.func32, Try.ntmps32
    go_wp2_with (go_at_call 50; refine (isPower_any _ _ (by omega) (by omega)).mono ?_; rw [HP.out]; rintro e w' ⟨rfl, rfl⟩)
    go_ret
    exact ⟨rfl, rfl⟩
  | false =>
    have hn := isT_no hT
    clear hT
    rcases hn with hp | ⟨hp, h3⟩ | ⟨hp, h3, h4⟩
    all_goals
      have HP := Lib.hid hp
      clear hp
      go_enter Try.func32, Try.ntmps32
      go_wp2_with (go_at_call 50; refine (isPower_any _ _ (by omega) (by omega)).mono ?_; rw [HP.out]; rintro e w' ⟨rfl, rfl⟩)
      go_ret
      first | exact ⟨rfl, rfl⟩ | exact ⟨by simp; omega, rfl⟩

theorem count_any (t i : Int) (w : World) :
    Calls Try.prog 30 #[.int .i32 t, .int .i32 i] w fun e w' => e = .returned (.int .u32 (cntI t i)) ∧ w = w' := by
  have h : IntKind.u32.wrap (IntKind.u32.wrap t - IntKind.u32.wrap i) = cntI t i := by
    simp only [IntKind.wrap_u32, cntI]; omega
  have H := Lib.hid h
  clear h
  go_enter Try.func30, Try.ntmps30
  go_wp2
  go_ret
  exact ⟨by rw [← H.out]; rfl, rfl⟩

theorem maxPosition_any (s : Int) (w : World) (h1 : -9223372036854775808 ≤ s) (h2 : s ≤ 9223372036854775807) :
    Calls Try.prog 34 #[.int .i64 s] w fun e w' => e = .returned (.int .i64 (mxI s)) ∧ w = w' := by
  cases hT : isT s with
  | true =>
    obtain ⟨g1, g2⟩ := isT_range hT
    have HM := Lib.hid (mx_yes hT)
    have HT := Lib.hid hT
    clear hT
    go_enter Try.func34, Try.ntmps34
    go_wp2_with (go_at_call 32; refine (isTerm_any _ _ (by omega) (by omega)).mono ?_; rw [HT.out]; rintro e w' ⟨rfl, rfl⟩)
    go_ret
    exact ⟨by rw [HM.out]; rfl, rfl⟩
  | false =>
    have HM := Lib.hid (mx_no hT)
    have HT := Lib.hid hT
    clear hT
    go_enter Try.func34, Try.ntmps34
    go_wp2_with (go_at_call 32; refine (isTerm_any _ _ (by omega) (by omega)).mono ?_; rw [HT.out]; rintro e w' ⟨rfl, rfl⟩)
    go_ret
    exact ⟨by rw [HM.out]; rfl, rfl⟩

theorem isPosition_any (p s : Int) (w : World) (h1 : -9223372036854775808 ≤ s) (h2 : s ≤ 9223372036854775807) :
    Calls Try.prog 48 #[.int .i64 p, .int .i64 s] w fun e w' => e = .returned (.bool (inB p s)) ∧ w = w' := by
  cases hI : inB p s with
  | true =>
    obtain ⟨hT, h3, h4, _⟩ := inB_yes hI
    have HT := Lib.hid hT
    clear hT hI
    go_enter Try.func48, Try.ntmps48
    go_wp2_with (first | (go_at_call 32; refine (isTerm_any _ _ (by omega) (by omega)).mono ?_; rw [HT.out]; rintro e w' ⟨rfl, rfl⟩) | (go_at_call 34; refine (maxPosition_any _ _ (by omega) (by omega)).mono ?_; rintro e w' ⟨rfl, rfl⟩))
    go_ret
    exact ⟨rfl, rfl⟩
  | false =>
    have hn := inB_no hI
    clear hI
    rcases hn with hp | ⟨hp, h3⟩ | ⟨hp, h3, h4⟩
    all_goals
      have HT := Lib.hid hp
      clear hp
      go_enter Try.func48, Try.ntmps48
      go_wp2_with (first | (go_at_call 32; refine (isTerm_any _ _ (by omega) (by omega)).mono ?_; rw [HT.out]; rintro e w' ⟨rfl, rfl⟩) | (go_at_call 34; refine (maxPosition_any _ _ (by omega) (by omega)).mono ?_; rintro e w' ⟨rfl, rfl⟩))
      go_ret
      first | exact ⟨rfl, rfl⟩ | exact ⟨by simp; omega, rfl⟩

theorem term_any (p i s : Int) (w : World) (h1 : -9223372036854775808 ≤ s) (h2 : s ≤ 9223372036854775807) (h3 : -2147483648 ≤ i) (h4 : i ≤ 2147483647) :
    Calls Try.prog 26 #[.int .i64 p, .int .i32 i, .int .i64 s] w fun e w' => e = .returned (.tuple #[.int .i32 (tmI p i s), .int .i64 (inE p s)]) ∧ w = w' := by
  cases hI : inB p s with
  | true =>
    obtain ⟨hT, g3, g4, g5⟩ := inB_yes hI
    obtain ⟨g6, g7⟩ := div_lt hI
    obtain ⟨e1, _, e3⟩ := in_yes (i := i) hI
    have gT := isT_range hT
    have hz : (s == 0) = false := by simp; omega
    have HI := Lib.hid hI
    have H1 := Lib.hid e1
    have H3 := Lib.hid e3
    clear hT hI e1 e3
    go_enter Try.func26, Try.ntmps26
    go_wp2_with (go_at_call 48; refine (isPosition_any _ _ _ (by omega) (by omega)).mono ?_; rw [HI.out]; rintro e w' ⟨rfl, rfl⟩)
    go_ret2
    exact ⟨by rw [H1.out, H3.out]; rfl, rfl⟩
  | false =>
    obtain ⟨e1, _, e3⟩ := in_no (i := i) hI
    have HI := Lib.hid hI
    have H1 := Lib.hid e1
    have H3 := Lib.hid e3
    clear hI e1 e3
    go_enter Try.func26, Try.ntmps26
    go_wp2_with (go_at_call 48; refine (isPosition_any _ _ _ (by omega) (by omega)).mono ?_; rw [HI.out]; rintro e w' ⟨rfl, rfl⟩)
    go_ret2
    exact ⟨by rw [H1.out, H3.out]; rfl, rfl⟩

theorem offset_any (p s : Int) (w : World) (h1 : -9223372036854775808 ≤ s) (h2 : s ≤ 9223372036854775807) (h3 : -9223372036854775808 ≤ p) (h4 : p ≤ 9223372036854775807) :
    Calls Try.prog 28 #[.int .i64 p, .int .i64 s] w fun e w' => e = .returned (.tuple #[.int .i64 (ofI p s), .int .i64 (inE p s)]) ∧ w = w' := by
  cases hI : inB p s with
  | true =>
    obtain ⟨hT, g3, g4, g5⟩ := inB_yes hI
    obtain ⟨_, e2, e3⟩ := in_yes (i := 0) hI
    have hm : mkI p s = p % s := by rw [mkI, if_pos (isT_isP hT)]
    have HI := Lib.hid hI
    have H1 := Lib.hid (e2.trans hm.symm)
    have H3 := Lib.hid e3
    clear hT hI e2 e3 hm
    go_enter Try.func28, Try.ntmps28
    go_wp2_with (first | (go_at_call 48; refine (isPosition_any _ _ _ (by omega) (by omega)).mono ?_; rw [HI.out]; rintro e w' ⟨rfl, rfl⟩) | (go_at_call 49; refine (mask_any _ _ _ (by omega) (by omega) (by omega) (by omega)).mono ?_; rintro e w' ⟨rfl, rfl⟩))
    go_ret2
    exact ⟨by rw [H1.out, H3.out]; rfl, rfl⟩
  | false =>
    obtain ⟨_, e2, e3⟩ := in_no (i := 0) hI
    have HI := Lib.hid hI
    have H1 := Lib.hid e2
    have H3 := Lib.hid e3
    clear hI e2 e3
    go_enter Try.func28, Try.ntmps28
    go_wp2_with (go_at_call 48; refine (isPosition_any _ _ _ (by omega) (by omega)).mono ?_; rw [HI.out]; rintro e w' ⟨rfl, rfl⟩)
    go_ret2
    exact ⟨by rw [H1.out, H3.out]; rfl, rfl⟩

theorem position_any (t i o s : Int) (w : World) (h1 : -9223372036854775808 ≤ s) (h2 : s ≤ 9223372036854775807) :
    Calls Try.prog 24 #[.int .i32 t, .int .i32 i, .int .i64 o, .int .i64 s] w fun e w' => e = .returned (.tuple #[.int .i64 (psI t i o s), .int .i64 (psE t i o s)]) ∧ w = w' := by
  obtain ⟨c0, c1⟩ := cntI_range t i
  cases hP : psB t i o s with
  | true =>
    obtain ⟨hT, g1, g2, g3⟩ := psB_yes hP
    obtain ⟨g4, g5⟩ := isT_range hT
    obtain ⟨g6, g7⟩ := mul_range hT c0 g3
    obtain ⟨e1, e2⟩ := psI_yes hP
    have HT := Lib.hid hT
    have H1 := Lib.hid e1
    have H2 := Lib.hid e2
    clear hP hT e1 e2
    go_enter Try.func24, Try.ntmps24
    go_wp2_with (first | (go_at_call 30; refine (count_any _ _ _).mono ?_; rintro e w' ⟨rfl, rfl⟩) | (go_at_call 32; refine (isTerm_any _ _ (by omega) (by omega)).mono ?_; rw [HT.out]; rintro e w' ⟨rfl, rfl⟩))
    go_ret2
    exact ⟨by rw [H1.out, H2.out]; rfl, rfl⟩
  | false =>
    have hn := psB_no hP
    obtain ⟨e1, e2⟩ := psI_no hP
    have H1 := Lib.hid e1
    have H2 := Lib.hid e2
    clear hP e1 e2
    rcases hn with hp | ⟨hp, g1⟩ | ⟨hp, g1, g2⟩ | ⟨hp, g1, g2, g3⟩
    all_goals
      have HT := Lib.hid hp
      clear hp
      go_enter Try.func24, Try.ntmps24
      go_wp2_with (first | (go_at_call 30; refine (count_any _ _ _).mono ?_; rintro e w' ⟨rfl, rfl⟩) | (go_at_call 32; refine (isTerm_any _ _ (by omega) (by omega)).mono ?_; rw [HT.out]; rintro e w' ⟨rfl, rfl⟩))
      go_ret2
      exact ⟨by rw [H1.out, H2.out]; rfl, rfl⟩

theorem part_any (c : Int) (w : World) (h0 : 0 ≤ c) (h1 : c < 4294967296) :
    Calls Try.prog 36 #[.int .u32 c] w fun e w' => e = .returned (.int .i64 (c % 3)) ∧ w = w' := by
  go_enter Try.func36, Try.ntmps36
  go_wp2
  go_ret
  exact ⟨rfl, rfl⟩

end Go.Proofs.Ythjmedocjndakaa
