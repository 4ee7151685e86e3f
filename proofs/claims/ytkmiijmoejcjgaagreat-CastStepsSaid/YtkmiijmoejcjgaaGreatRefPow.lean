/- Contracts of the document's Log2 and IsPower. -/
import Derived.Test.YtkmiijmoejcjgaaGreatProg
import Derived.Test.YtkmiijmoejcjgaaGreatMath
import Derived.Lib.Hide
namespace Go.Proofs.YtkmiijmoejcjgaaGreat
open Go.RowKit
set_option linter.unusedVariables false

/-- The document's Log2. -/
theorem rlog2_any (n : Int) (w : World) (h1 : -9223372036854775808 ≤ n) (h2 : n ≤ 9223372036854775807) :
    Calls Tryz.prog 82 #[.int .i64 n] w fun e w' => e = .returned (.tuple #[.int .i64 (lgI n), .bool (isP n)]) ∧ w = w' := by
  have key : Hid (∀ k : Nat, k ≤ 62 → (2 : Int) ^ k = n → lgI n = k ∧ isP n = true) := Lib.hid (by
    intro k hk hkn; subst hkn; exact ⟨lgI_pow k hk, isP_pow k hk⟩)
  have key2 : Hid ((∀ k : Nat, k ≤ 62 → (2 : Int) ^ k ≠ n) → lgI n = 0 ∧ isP n = false) := Lib.hid (by
    intro hk
    have : isP n = false := by
      by_cases h : isP n = true
      · obtain ⟨k, hk2, he⟩ := (isP_iff n h2).1 h
        exact absurd he.symm (hk k hk2)
      · simpa using h
    exact ⟨lgI_no n this, this⟩)
  go_enter Tryz.func82, Tryz.ntmps82
  go_wp2
  go_loop [4, 5] (fun v i => ∃ j : Nat, j ≤ 63 ∧ i = .int .i64 j ∧ (j ≤ 62 → v = .int .i64 (2 ^ j)) ∧ ∃ u, v = .int .i64 u ∧ Hid (∀ q : Nat, q < j → (2 : Int) ^ q ≠ n)) (fun _ i => 63 - (intOf i).toNat)
  case atStart => exact ⟨0, by omega, rfl, fun _ => rfl, _, rfl, Lib.hid (by omega)⟩
  case round =>
    obtain ⟨j, hj, rfl, hv, u, rfl, hq⟩ := hrel
    by_cases hlt : j ≤ 62
    · have hu := hv hlt
      clear hv
      simp only [Value.int.injEq, true_and] at hu
      have hup : 0 < u := by rw [hu]; exact pow_pos_i _
      have hum : u ≤ 4611686018427387904 := by have := pow_le_i j 62 hlt; rw [hu]; omega
      have HU := Lib.hid hu
      clear hu
      by_cases he : u = n
      · have heb : (u == n) = true := by simp [he]
        have hr := key.out j hlt (by rw [← HU.out]; exact he)
        have HR := Lib.hid hr
        have HE := Lib.hid he
        clear hr he
        go_wp2
        go_ret2
        exact ⟨by rw [HR.out.1, HR.out.2]; rfl, rfl⟩
      · have heb : (u == n) = false := by simp [he]
        have hn2 : Hid (∀ q : Nat, q < j + 1 → (2 : Int) ^ q ≠ n) := Lib.hid (by
          intro q hqj hqn
          by_cases hqj' : q < j
          · exact hq.out q hqj' hqn
          · obtain rfl : q = j := by omega
            exact he (by rw [HU.out]; exact hqn))
        have HE := Lib.hid he
        clear he
        have hnext : Hid (j + 1 ≤ 62 → 2 ^ (j + 1) = u * 2) := Lib.hid (by intro _; rw [pow_succ_i, HU.out]; omega)
        by_cases h62 : j = 62
        · subst h62
          go_wp2
          go_round
          case rel => exact ⟨63, by omega, by go_num, by omega, _, rfl, hn2⟩
          case measure => simp [intOf]
        · have hum2 : u ≤ 2305843009213693952 := by have := pow_le_i j 61 (by omega); rw [HU.out]; omega
          go_wp2
          go_round
          case rel => exact ⟨j + 1, by omega, by go_num, fun h => by rw [hnext.out h], _, rfl, hn2⟩
          case measure => simp [intOf]; omega
    · obtain rfl : j = 63 := by omega
      clear hv
      have hr := key2.out (fun k hk => hq.out k (by omega))
      have HR := Lib.hid hr
      clear hr
      go_wp2
      go_ret2
      exact ⟨by rw [HR.out.1, HR.out.2]; rfl, rfl⟩

/-- The document's IsPower. -/
theorem risPower_any (n : Int) (w : World) (h1 : -9223372036854775808 ≤ n) (h2 : n ≤ 9223372036854775807) :
    Calls Tryz.prog 69 #[.int .i64 n] w fun e w' => e = .returned (.bool (isP n)) ∧ w = w' := by
  go_enter Tryz.func69, Tryz.ntmps69
  go_wp2_with (go_at_call 82; refine (rlog2_any _ _ (by omega) (by omega)).mono ?_; rintro e w' ⟨rfl, rfl⟩)
  go_ret
  exact ⟨rfl, rfl⟩

end Go.Proofs.YtkmiijmoejcjgaaGreat
