/- A number's bytes and their number. -/
import Derived.Test.YtkmiijmoejcjgaaGreatNum
namespace Go.Proofs.YtkmiijmoejcjgaaGreat
open Go.RowKit
set_option linter.unusedVariables false

theorem byteL_range (v n : Int) : ∀ x ∈ byteL v n, 0 ≤ x ∧ x < 256 := by
  intro x hx
  unfold byteL at hx
  split at hx
  · obtain ⟨i, _, rfl⟩ := List.mem_map.1 hx; exact byteI_range v i
  · simp at hx
theorem byteL_len (v : Int) (n : Nat) (h : n ≤ 8) : (byteL v n).length = n := by
  unfold byteL; rw [if_pos (by omega)]; simp
theorem byteL_max (v n : Int) : (byteL v n).length ≤ maxLen := by
  unfold byteL maxLen; split <;> simp; omega
theorem num_bytes (v : Int) (n : Nat) (h0 : 0 ≤ v) : num ((List.range n).map (byteI v)) = v % 2 ^ (8 * n) := by
  induction n with
  | zero => simp [num]
  | succ n ih =>
    rw [List.range_succ, List.map_append, List.map_cons, List.map_nil, num_append, ih, List.length_map, List.length_range, pow256, show 8 * (n + 1) = 8 * n + 8 by omega, Int.pow_add]
    unfold byteI
    have hp := pow_pos_i (8 * n)
    generalize (2 : Int) ^ (8 * n) = M at *
    have e1 := Int.mul_ediv_add_emod v M
    have e2 := Int.mul_ediv_add_emod (v / M) 256
    have e3 : v / (M * 256) = v / M / 256 := (Int.ediv_ediv_of_nonneg (by omega)).symm
    have e4 := Int.mul_ediv_add_emod v (M * 256)
    rw [e3] at e4
    have e5 : M * 256 * (v / M / 256) = M * (256 * (v / M / 256)) := Int.mul_assoc _ _ _
    have e6 : M * (v / M) = M * (256 * (v / M / 256)) + M * (v / M % 256) := by rw [← Int.mul_add, e2]
    show v % M + M * (v / M % 256) = v % (M * 256)
    omega
theorem num_byteL (v : Int) (n : Nat) (h : n ≤ 8) (h0 : 0 ≤ v) : num (byteL v n) = v % 2 ^ (8 * n) := by
  unfold byteL; rw [if_pos (by omega)]; exact num_bytes v n h0
theorem num_app (l m : List Int) : num (l ++ m) = num l + 256 ^ l.length * num m := by
  induction l with
  | nil => simp [num]
  | cons y l ih =>
    simp only [List.cons_append, num, ih, List.length_cons]
    rw [Int.mul_add, ← Int.mul_assoc, Int.pow_succ, Int.mul_comm (256 ^ l.length) 256]
    omega
theorem byteL_eight (v : Int) : byteL v 8 = [byteI v 0, byteI v 1, byteI v 2, byteI v 3, byteI v 4, byteI v 5, byteI v 6, byteI v 7] := rfl
theorem byteL_four (v : Int) : byteL v 4 = [byteI v 0, byteI v 1, byteI v 2, byteI v 3] := rfl
theorem num_four (v : Int) (h0 : 0 ≤ v) : num [byteI v 0, byteI v 1, byteI v 2, byteI v 3] = v % 4294967296 := num_bytes v 4 h0
theorem num_high (v : Int) (h0 : 0 ≤ v) (h1 : v ≤ 18446744073709551615) : num [byteI v 4, byteI v 5, byteI v 6, byteI v 7] = v / 4294967296 := by
  have h := num_bytes v 8 h0
  have h4 := num_four v h0
  have e : (List.range 8).map (byteI v) = [byteI v 0, byteI v 1, byteI v 2, byteI v 3] ++ [byteI v 4, byteI v 5, byteI v 6, byteI v 7] := rfl
  rw [e, num_app, h4] at h
  simp at h
  omega

end Go.Proofs.YtkmiijmoejcjgaaGreat
