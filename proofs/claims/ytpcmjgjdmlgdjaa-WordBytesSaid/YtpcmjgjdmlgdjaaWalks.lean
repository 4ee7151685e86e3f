/- Contracts of package word's functions and of the document's own answers for them. -/
import Derived.Test.YtpcmjgjdmlgdjaaProg
import Derived.Test.YtpcmjgjdmlgdjaaMath
import Derived.Lib.Hide
import Derived.Outline
namespace Go.Proofs.Ytpcmjgjdmlgdjaa
open Go.RowKit
set_option linter.unusedVariables false

theorem ret2_int {k : IntKind} {a b : Int} {c d : Bool} (h : a = b) (g : c = d) : Ending.returned (.tuple #[.int k a, .bool c]) = .returned (.tuple #[.int k b, .bool d]) := by rw [h, g]
theorem ret_int {k : IntKind} {a b : Int} (h : a = b) : Ending.returned (.int k a) = .returned (.int k b) := by rw [h]

theorem isPower_any (n : Int) (w : World) (h1 : -9223372036854775808 ≤ n) (h2 : n ≤ 9223372036854775807) :
    Calls Try.prog 10 #[.int .i64 n] w fun e w' => e = .returned (.bool (isP n)) ∧ w = w' := by
  by_cases h : 0 < n
  · go_enter Try.func10, Try.ntmps10
    go_wp2
    go_ret
    exact ⟨by simp [isP, h], rfl⟩
  · have hf : isP n = false := by simp [isP, h]
    have HF := Lib.hid hf
    clear hf
    go_enter Try.func10, Try.ntmps10
    go_wp2
    go_ret
    exact ⟨by rw [HF.out]; rfl, rfl⟩

/-- Log2 of a power. -/
theorem log2_yes (k : Nat) (hk : k ≤ 62) (n : Int) (hn : n = 2 ^ k) (w : World) :
    Calls Try.prog 8 #[.int .i64 n] w fun e w' => e = .returned (.tuple #[.int .i64 k, .bool true]) ∧ w = w' := by
  have hp : isP n = true := by rw [hn]; exact isP_pow k hk
  have h0 : 0 < n := isP_pos hp
  have h62 := pow_le_i k 62 hk
  have h2 : n ≤ 9223372036854775807 := by omega
  have HP := Lib.hid hp
  have HN := Lib.hid hn
  clear hp hn h62
  go_enter Try.func8, Try.ntmps8
  go_wp2_with (go_at_call 10; refine (isPower_any _ _ (by omega) (by omega)).mono ?_; rw [HP.out]; rintro e w' ⟨rfl, rfl⟩)
  go_loop [0, 4] (fun m i => ∃ j : Nat, j ≤ k ∧ i = .int .i64 j ∧ m = .int .i64 (2 ^ (k - j))) (fun _ i => k - (intOf i).toNat)
  case atStart => exact ⟨0, by omega, rfl, by rw [HN.out]; rfl⟩
  case round =>
    obtain ⟨j, hj, rfl, rfl⟩ := hrel
    have hq : ∃ q : Int, q = 2 ^ (k - j) := ⟨_, rfl⟩
    obtain ⟨q, hq⟩ := hq
    rw [← hq]
    have hqp : 0 < q := by rw [hq]; exact pow_pos_i _
    have hqm : q ≤ 9223372036854775807 := by have := pow_le_i (k - j) 62 (by omega); omega
    by_cases hlt : j < k
    · have hs : q = 2 * 2 ^ (k - (j + 1)) := by rw [hq, show k - j = (k - (j + 1)) + 1 from by omega, pow_succ_i]
      have hpp := pow_pos_i (k - (j + 1))
      have h1q : 1 < q := by omega
      have hh : q / 2 = 2 ^ (k - (j + 1)) := by omega
      have HH := Lib.hid hh
      clear hq hs hh hpp
      go_wp2
      go_round
      case rel => exact ⟨j + 1, by omega, by go_num, by rw [HH.out]⟩
      case measure => simp [intOf]; omega
    · obtain rfl : j = k := by omega
      have h1q : q = 1 := by rw [hq]; simp
      subst h1q
      clear hq
      go_wp2
      go_ret2
      exact ⟨rfl, rfl⟩

theorem log2_no (n : Int) (hn : isP n = false) (w : World) (h1 : -9223372036854775808 ≤ n) (h2 : n ≤ 9223372036854775807) :
    Calls Try.prog 8 #[.int .i64 n] w fun e w' => e = .returned (.tuple #[.int .i64 0, .bool false]) ∧ w = w' := by
  have HN := Lib.hid hn
  clear hn
  go_enter Try.func8, Try.ntmps8
  go_wp2_with (go_at_call 10; refine (isPower_any _ _ (by omega) (by omega)).mono ?_; rw [HN.out]; rintro e w' ⟨rfl, rfl⟩)
  go_ret2
  exact ⟨rfl, rfl⟩

/-- Log2 of any number. -/
theorem log2_any (n : Int) (w : World) (h1 : -9223372036854775808 ≤ n) (h2 : n ≤ 9223372036854775807) :
    Calls Try.prog 8 #[.int .i64 n] w fun e w' => e = .returned (.tuple #[.int .i64 (lgI n), .bool (isP n)]) ∧ w = w' := by
  by_cases h : isP n = true
  · obtain ⟨k, hk, rfl⟩ := (isP_iff n h2).1 h
    rw [lgI_pow k hk, h]
    exact log2_yes k hk _ rfl w
  · have h' : isP n = false := by simpa using h
    rw [lgI_no n h', h']
    exact log2_no n h' w h1 h2

/-- The document's Log2. -/
theorem rlog2_any (n : Int) (w : World) (h1 : -9223372036854775808 ≤ n) (h2 : n ≤ 9223372036854775807) :
    Calls Try.prog 9 #[.int .i64 n] w fun e w' => e = .returned (.tuple #[.int .i64 (lgI n), .bool (isP n)]) ∧ w = w' := by
  have key : Hid (∀ k : Nat, k ≤ 62 → (2 : Int) ^ k = n → lgI n = k ∧ isP n = true) := Lib.hid (by
    intro k hk hkn; subst hkn; exact ⟨lgI_pow k hk, isP_pow k hk⟩)
  have key2 : Hid ((∀ k : Nat, k ≤ 62 → (2 : Int) ^ k ≠ n) → lgI n = 0 ∧ isP n = false) := Lib.hid (by
    intro hk
    have : isP n = false := by
      by_cases h : isP n = true
      · obtain ⟨k, hk2, he⟩ := (isP_iff n h2).1 h
        exact absurd he.symm (hk k hk2)
      · simpa using h
    exact ⟨lgI_no n this, this⟩)
  go_enter Try.func9, Try.ntmps9
  go_wp2
  go_loop [4, 5] (fun v i => ∃ j : Nat, j ≤ 63 ∧ i = .int .i64 j ∧ (j ≤ 62 → v = .int .i64 (2 ^ j)) ∧ ∃ u, v = .int .i64 u ∧ Hid (∀ q : Nat, q < j → (2 : Int) ^ q ≠ n)) (fun _ i => 63 - (intOf i).toNat)
  case atStart => exact ⟨0, by omega, rfl, fun _ => rfl, _, rfl, Lib.hid (by omega)⟩
  case round =>
    obtain ⟨j, hj, rfl, hv, u, rfl, hq⟩ := hrel
    by_cases hlt : j ≤ 62
    · have hu := hv hlt
      clear hv
      simp only [Value.int.injEq, true_and] at hu
      have hup : 0 < u := by rw [hu]; exact pow_pos_i _
      have hum : u ≤ 4611686018427387904 := by have := pow_le_i j 62 hlt; rw [hu]; omega
      have HU := Lib.hid hu
      clear hu
      by_cases he : u = n
      · have heb : (u == n) = true := by simp [he]
        have hr := key.out j hlt (by rw [← HU.out]; exact he)
        have HR := Lib.hid hr
        have HE := Lib.hid he
        clear hr he
        go_wp2
        go_ret2
        exact ⟨by rw [HR.out.1, HR.out.2]; rfl, rfl⟩
      · have heb : (u == n) = false := by simp [he]
        have hn2 : Hid (∀ q : Nat, q < j + 1 → (2 : Int) ^ q ≠ n) := Lib.hid (by
          intro q hqj hqn
          by_cases hqj' : q < j
          · exact hq.out q hqj' hqn
          · obtain rfl : q = j := by omega
            exact he (by rw [HU.out]; exact hqn))
        have HE := Lib.hid he
        clear he
        have hnext : Hid (j + 1 ≤ 62 → 2 ^ (j + 1) = u * 2) := Lib.hid (by intro _; rw [pow_succ_i, HU.out]; omega)
        by_cases h62 : j = 62
        · subst h62
          go_wp2
          go_round
          case rel => exact ⟨63, by omega, by go_num, by omega, _, rfl, hn2⟩
          case measure => simp [intOf]
        · have hum2 : u ≤ 2305843009213693952 := by have := pow_le_i j 61 (by omega); rw [HU.out]; omega
          go_wp2
          go_round
          case rel => exact ⟨j + 1, by omega, by go_num, fun h => by rw [hnext.out h], _, rfl, hn2⟩
          case measure => simp [intOf]; omega
    · obtain rfl : j = 63 := by omega
      clear hv
      have hr := key2.out (fun k hk => hq.out k (by omega))
      have HR := Lib.hid hr
      clear hr
      go_wp2
      go_ret2
      exact ⟨by rw [HR.out.1, HR.out.2]; rfl, rfl⟩

/-- The document's IsPower. -/
theorem risPower_any (n : Int) (w : World) (h1 : -9223372036854775808 ≤ n) (h2 : n ≤ 9223372036854775807) :
    Calls Try.prog 11 #[.int .i64 n] w fun e w' => e = .returned (.bool (isP n)) ∧ w = w' := by
  go_enter Try.func11, Try.ntmps11
  go_wp2_with (go_at_call 9; refine (rlog2_any _ _ (by omega) (by omega)).mono ?_; rintro e w' ⟨rfl, rfl⟩)
  go_ret
  exact ⟨rfl, rfl⟩

theorem mask_any (n to : Int) (w : World) (h1 : -9223372036854775808 ≤ n) (h2 : n ≤ 9223372036854775807) (h3 : -9223372036854775808 ≤ to) (h4 : to ≤ 9223372036854775807) :
    Calls Try.prog 12 #[.int .i64 n, .int .i64 to] w fun e w' => e = .returned (.int .i64 (mkI n to)) ∧ w = w' := by
  by_cases h : isP to = true
  · have hm : mkI n to = bits .and .i64 n (to - 1) := by
      obtain ⟨k, hk, rfl⟩ := (isP_iff to h4).1 h
      rw [and_mask n k hk, mkI, if_pos h]
    have h0 := isP_pos h
    have HM := Lib.hid hm
    have HP := Lib.hid h
    clear hm h
    go_enter Try.func12, Try.ntmps12
    go_wp2_with (go_at_call 10; refine (isPower_any _ _ (by omega) (by omega)).mono ?_; rw [HP.out]; rintro e w' ⟨rfl, rfl⟩)
    go_ret
    exact ⟨by rw [HM.out]; rfl, rfl⟩
  · have hf : isP to = false := by simpa using h
    have hm : mkI n to = 0 := by rw [mkI, if_neg h]
    have HM := Lib.hid hm
    have HP := Lib.hid hf
    clear hm h hf
    go_enter Try.func12, Try.ntmps12
    go_wp2_with (go_at_call 10; refine (isPower_any _ _ (by omega) (by omega)).mono ?_; rw [HP.out]; rintro e w' ⟨rfl, rfl⟩)
    go_ret
    exact ⟨by rw [HM.out]; rfl, rfl⟩

theorem rmask_any (n to : Int) (w : World) (h1 : -9223372036854775808 ≤ n) (h2 : n ≤ 9223372036854775807) (h3 : -9223372036854775808 ≤ to) (h4 : to ≤ 9223372036854775807) :
    Calls Try.prog 13 #[.int .i64 n, .int .i64 to] w fun e w' => e = .returned (.int .i64 (mkI n to)) ∧ w = w' := by
  by_cases h : isP to = true
  · have h0 := isP_pos h
    have hm : mkI n to = if n.tmod to < 0 then n.tmod to + to else n.tmod to := by
      rw [mkI, if_pos h]
      have e := Int.tmod_def n to
      have := Int.emod_nonneg n (show to ≠ 0 by omega)
      have := Int.emod_lt_of_pos n h0
      rw [Int.tmod_eq_emod]
      split <;> split <;> omega
    have hlo : -to < n.tmod to := by rw [Int.tmod_eq_emod]; have := Int.emod_nonneg n (show to ≠ 0 by omega); split <;> omega
    have hhi : n.tmod to < to := Int.tmod_lt_of_pos n h0
    have hz : (to == 0) = false := by simp; omega
    have HM := Lib.hid hm
    have HP := Lib.hid h
    clear hm h
    by_cases hs : n.tmod to < 0
    · go_enter Try.func13, Try.ntmps13
      go_wp2_with (go_at_call 11; refine (risPower_any _ _ (by omega) (by omega)).mono ?_; rw [HP.out]; rintro e w' ⟨rfl, rfl⟩)
      go_ret
      exact ⟨by rw [HM.out, if_pos (by omega)]; rfl, rfl⟩
    · go_enter Try.func13, Try.ntmps13
      go_wp2_with (go_at_call 11; refine (risPower_any _ _ (by omega) (by omega)).mono ?_; rw [HP.out]; rintro e w' ⟨rfl, rfl⟩)
      go_ret
      exact ⟨by rw [HM.out, if_neg (by omega)]; rfl, rfl⟩
  · have hf : isP to = false := by simpa using h
    have hm : mkI n to = 0 := by rw [mkI, if_neg h]
    have HM := Lib.hid hm
    have HP := Lib.hid hf
    clear hm h hf
    go_enter Try.func13, Try.ntmps13
    go_wp2_with (go_at_call 11; refine (risPower_any _ _ (by omega) (by omega)).mono ?_; rw [HP.out]; rintro e w' ⟨rfl, rfl⟩)
    go_ret
    exact ⟨by rw [HM.out]; rfl, rfl⟩

theorem align_any (n to : Int) (w : World) (h1 : -9223372036854775808 ≤ n) (h2 : n ≤ 9223372036854775807) (h3 : -9223372036854775808 ≤ to) (h4 : to ≤ 9223372036854775807) :
    Calls Try.prog 14 #[.int .i64 n, .int .i64 to] w fun e w' => e = .returned (.tuple #[.int .i64 (alI n to), .int .i64 (alE n to)]) ∧ w = w' := by
  by_cases h : alB n to = true
  · obtain ⟨hp, h0, h1⟩ := alB_parts h
    have hpos := isP_pos hp
    obtain ⟨_, _, f1, f2, f3⟩ := al_facts n to h4 h
    have hb := al_bits n to h4 h
    have he := alE_yes h
    have hw : wrap64 (wrap64 (n + to) - 1) = n + to - 1 := by unfold wrap64; omega
    have HP := Lib.hid hp
    have HE := Lib.hid he
    clear h hp he
    go_enter Try.func14, Try.ntmps14
    go_wp2_with (go_at_call 10; refine (isPower_any _ _ (by omega) (by omega)).mono ?_; rw [HP.out]; rintro e w' ⟨rfl, rfl⟩)
    go_ret2
    exact ⟨by rw [HE.out]; rfl, rfl⟩
  · have h' : alB n to = false := by simpa using h
    obtain ⟨e1, e2⟩ := alI_no h'
    have hor : isP to = false ∨ (isP to = true ∧ (n < 0 ∨ 4611686018427387904 < n)) := by
      unfold alB at h'
      cases hp : isP to with
      | false => exact .inl rfl
      | true =>
        rw [hp] at h'
        simp at h'
        exact .inr ⟨rfl, by omega⟩
    have H1 := Lib.hid e1
    have H2 := Lib.hid e2
    clear h h' e1 e2
    rcases hor with hp | ⟨hp, hn | hn⟩
    · have HP := Lib.hid hp
      clear hp
      go_enter Try.func14, Try.ntmps14
      go_wp2_with (go_at_call 10; refine (isPower_any _ _ (by omega) (by omega)).mono ?_; rw [HP.out]; rintro e w' ⟨rfl, rfl⟩)
      go_ret2
      exact ⟨by rw [H1.out, H2.out]; rfl, rfl⟩
    · have HP := Lib.hid hp
      clear hp
      go_enter Try.func14, Try.ntmps14
      go_wp2_with (go_at_call 10; refine (isPower_any _ _ (by omega) (by omega)).mono ?_; rw [HP.out]; rintro e w' ⟨rfl, rfl⟩)
      go_ret2
      exact ⟨by rw [H1.out, H2.out]; rfl, rfl⟩
    · have HP := Lib.hid hp
      clear hp
      go_enter Try.func14, Try.ntmps14
      go_wp2_with (go_at_call 10; refine (isPower_any _ _ (by omega) (by omega)).mono ?_; rw [HP.out]; rintro e w' ⟨rfl, rfl⟩)
      go_ret2
      exact ⟨by rw [H1.out, H2.out]; rfl, rfl⟩

theorem ralign_any (n to : Int) (w : World) (h1 : -9223372036854775808 ≤ n) (h2 : n ≤ 9223372036854775807) (h3 : -9223372036854775808 ≤ to) (h4 : to ≤ 9223372036854775807) :
    Calls Try.prog 15 #[.int .i64 n, .int .i64 to] w fun e w' => e = .returned (.tuple #[.int .i64 (alI n to), .int .i64 (alE n to)]) ∧ w = w' := by
  by_cases h : alB n to = true
  · obtain ⟨hp, h0, h1⟩ := alB_parts h
    have hpos := isP_pos hp
    obtain ⟨g1, g2, f1, f2, f3⟩ := al_facts n to h4 h
    have he := alE_yes h
    have hz : (to == 0) = false := by simp; omega
    have HP := Lib.hid hp
    have HE := Lib.hid he
    clear h hp he
    by_cases hr : n % to = 0
    · have hg := g1 hr
      have hrb : (n % to == 0) = true := by simp [hr]
      have HG := Lib.hid hg
      clear g1 g2 hr hg f1 f2
      go_enter Try.func15, Try.ntmps15
      go_wp2_with (go_at_call 11; refine (risPower_any _ _ (by omega) (by omega)).mono ?_; rw [HP.out]; rintro e w' ⟨rfl, rfl⟩)
      go_ret2
      exact ⟨by rw [HE.out, HG.out]; rfl, rfl⟩
    · obtain ⟨k1, k2⟩ := g2 hr
      rw [k2] at f1 f2
      have hrb : (n % to == 0) = false := by simp [hr]
      have hd0 : 0 ≤ n / to := Int.ediv_nonneg h0 (by omega)
      have hd1 : n / to ≤ n := Int.ediv_le_self _ h0
      have HK := Lib.hid k2
      clear g1 g2 hr k2
      go_enter Try.func15, Try.ntmps15
      go_wp2_with (go_at_call 11; refine (risPower_any _ _ (by omega) (by omega)).mono ?_; rw [HP.out]; rintro e w' ⟨rfl, rfl⟩)
      go_ret2
      exact ⟨by rw [HE.out, HK.out]; rfl, rfl⟩
  · have h' : alB n to = false := by simpa using h
    obtain ⟨e1, e2⟩ := alI_no h'
    have hor : isP to = false ∨ (isP to = true ∧ (n < 0 ∨ 4611686018427387904 < n)) := by
      unfold alB at h'
      cases hp : isP to with
      | false => exact .inl rfl
      | true =>
        rw [hp] at h'
        simp at h'
        exact .inr ⟨rfl, by omega⟩
    have H1 := Lib.hid e1
    have H2 := Lib.hid e2
    clear h h' e1 e2
    rcases hor with hp | ⟨hp, hn | hn⟩
    · have HP := Lib.hid hp
      clear hp
      go_enter Try.func15, Try.ntmps15
      go_wp2_with (go_at_call 11; refine (risPower_any _ _ (by omega) (by omega)).mono ?_; rw [HP.out]; rintro e w' ⟨rfl, rfl⟩)
      go_ret2
      exact ⟨by rw [H1.out, H2.out]; rfl, rfl⟩
    · have HP := Lib.hid hp
      clear hp
      go_enter Try.func15, Try.ntmps15
      go_wp2_with (go_at_call 11; refine (risPower_any _ _ (by omega) (by omega)).mono ?_; rw [HP.out]; rintro e w' ⟨rfl, rfl⟩)
      go_ret2
      exact ⟨by rw [H1.out, H2.out]; rfl, rfl⟩
    · have HP := Lib.hid hp
      clear hp
      go_enter Try.func15, Try.ntmps15
      go_wp2_with (go_at_call 11; refine (risPower_any _ _ (by omega) (by omega)).mono ?_; rw [HP.out]; rintro e w' ⟨rfl, rfl⟩)
      go_ret2
      exact ⟨by rw [H1.out, H2.out]; rfl, rfl⟩

end Go.Proofs.Ytpcmjgjdmlgdjaa
