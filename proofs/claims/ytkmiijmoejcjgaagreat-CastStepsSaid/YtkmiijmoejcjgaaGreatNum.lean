/- The number whose bytes are given. -/
import Derived.Test.YtkmiijmoejcjgaaGreatMath
namespace Go.Proofs.YtkmiijmoejcjgaaGreat
open Go.RowKit
set_option linter.unusedVariables false

/-- The number whose bytes these are, the lowest first. -/
def num : List Int → Int
  | [] => 0
  | x :: l => x + 256 * num l

theorem num_append (l : List Int) (x : Int) : num (l ++ [x]) = num l + 256 ^ l.length * x := by
  induction l with
  | nil => simp [num]
  | cons y l ih =>
    simp only [List.cons_append, num, ih, List.length_cons]
    rw [Int.mul_add, ← Int.mul_assoc, Int.pow_succ, Int.mul_comm (256 ^ l.length) 256]
    omega
theorem num_range (l : List Int) (h : ∀ x ∈ l, 0 ≤ x ∧ x < 256) : 0 ≤ num l ∧ num l < 256 ^ l.length := by
  induction l with
  | nil => simp [num]
  | cons y l ih =>
    have hy := h y (by simp)
    have hl := ih (fun x hx => h x (by simp [hx]))
    simp only [num, List.length_cons, Int.pow_succ]
    omega
theorem pow256 (k : Nat) : (256 : Int) ^ k = 2 ^ (8 * k) := by
  rw [show (256 : Int) = 2 ^ 8 from rfl, ← Int.pow_mul]

theorem or_join (x y : Int) (i : Nat) (hx0 : 0 ≤ x) (hx : x < 2 ^ i) (hy0 : 0 ≤ y) (hi : i ≤ 56) (hy : y < 256) : bits .or .u64 x (y * 2 ^ i) = x + 2 ^ i * y := by
  obtain ⟨a, rfl⟩ := Int.eq_ofNat_of_zero_le hx0
  obtain ⟨b, rfl⟩ := Int.eq_ofNat_of_zero_le hy0
  have hle : 2 ^ i ≤ 2 ^ 56 := Nat.pow_le_pow_right (by decide) hi
  have ha : a < 2 ^ i := by exact_mod_cast hx
  have hb : b < 256 := by omega
  have hm : b * 2 ^ i < 18446744073709551616 := by
    have := Nat.mul_lt_mul_of_lt_of_le hb hle (by decide); omega
  have e : ((b : Int) * 2 ^ i) = ((b * 2 ^ i : Nat) : Int) := by simp
  rw [e, u64_or_nat a (b * 2 ^ i) (by omega) hm, Nat.or_comm, Nat.mul_comm, ← Nat.two_pow_add_eq_or_of_lt ha b]
  simp; omega

theorem take_min (l : List Int) : l.take (min l.length 8) = l.take 8 := by
  rw [List.take_eq_take_iff]; omega
theorem shl_in (x : Int) (k : Nat) (h0 : 0 ≤ x) (h1 : x < 256) (hk : k ≤ 7) : IntKind.u64.wrap (x * 2 ^ (8 * k)) = x * 2 ^ (8 * k) := by
  have hp := pow_pos_i (8 * k)
  have hp2 := pow_le_i (8 * k) 56 (by omega)
  have h2 : x * 2 ^ (8 * k) ≤ 255 * 2 ^ (8 * k) := Int.mul_le_mul_of_nonneg_right (by omega) (by omega)
  have h3 : 0 ≤ x * 2 ^ (8 * k) := Int.mul_nonneg h0 (by omega)
  exact IntWalk.u64_in _ (by omega)

end Go.Proofs.YtkmiijmoejcjgaaGreat
