/- Contracts of package word's Number and of the document's own answer for it. -/
import Derived.Test.YtpcmjgjdmlgdjaaBytes
import Derived.Test.YtpcmjgjdmlgdjaaKit
namespace Go.Proofs.Ytpcmjgjdmlgdjaa
open Go.RowKit
set_option linter.unusedVariables false

/-- The number whose bytes these are, the lowest first. -/
def num : List Int → Int
  | [] => 0
  | x :: l => x + 256 * num l

theorem num_append (l : List Int) (x : Int) : num (l ++ [x]) = num l + 256 ^ l.length * x := by
  induction l with
  | nil => simp [num]
  | cons y l ih =>
    simp only [List.cons_append, num, ih, List.length_cons]
    rw [Int.mul_add, ← Int.mul_assoc, Int.pow_succ, Int.mul_comm (256 ^ l.length) 256]
    omega
theorem num_range (l : List Int) (h : ∀ x ∈ l, 0 ≤ x ∧ x < 256) : 0 ≤ num l ∧ num l < 256 ^ l.length := by
  induction l with
  | nil => simp [num]
  | cons y l ih =>
    have hy := h y (by simp)
    have hl := ih (fun x hx => h x (by simp [hx]))
    simp only [num, List.length_cons, Int.pow_succ]
    omega
theorem pow256 (k : Nat) : (256 : Int) ^ k = 2 ^ (8 * k) := by
  rw [show (256 : Int) = 2 ^ 8 from rfl, ← Int.pow_mul]

theorem or_join (x y : Int) (i : Nat) (hx0 : 0 ≤ x) (hx : x < 2 ^ i) (hy0 : 0 ≤ y) (hi : i ≤ 56) (hy : y < 256) : bits .or .u64 x (y * 2 ^ i) = x + 2 ^ i * y := by
  obtain ⟨a, rfl⟩ := Int.eq_ofNat_of_zero_le hx0
  obtain ⟨b, rfl⟩ := Int.eq_ofNat_of_zero_le hy0
  have hle : 2 ^ i ≤ 2 ^ 56 := Nat.pow_le_pow_right (by decide) hi
  have ha : a < 2 ^ i := by exact_mod_cast hx
  have hb : b < 256 := by omega
  have hm : b * 2 ^ i < 18446744073709551616 := by
    have := Nat.mul_lt_mul_of_lt_of_le hb hle (by decide); omega
  have e : ((b : Int) * 2 ^ i) = ((b * 2 ^ i : Nat) : Int) := by simp
  rw [e, u64_or_nat a (b * 2 ^ i) (by omega) hm, Nat.or_comm, Nat.mul_comm, ← Nat.two_pow_add_eq_or_of_lt ha b]
  simp; omega

theorem take_min (l : List Int) : l.take (min l.length 8) = l.take 8 := by
  rw [List.take_eq_take_iff]; omega
theorem shl_in (x : Int) (k : Nat) (h0 : 0 ≤ x) (h1 : x < 256) (hk : k ≤ 7) : IntKind.u64.wrap (x * 2 ^ (8 * k)) = x * 2 ^ (8 * k) := by
  have hp := pow_pos_i (8 * k)
  have hp2 := pow_le_i (8 * k) 56 (by omega)
  have h2 : x * 2 ^ (8 * k) ≤ 255 * 2 ^ (8 * k) := Int.mul_le_mul_of_nonneg_right (by omega) (by omega)
  have h3 : 0 ≤ x * 2 ^ (8 * k) := Int.mul_nonneg h0 (by omega)
  exact IntWalk.u64_in _ (by omega)

theorem number_any (w : World) (s : Value) (l : List Int) (hl : Ints .u8 w s l) (hr : ∀ x ∈ l, 0 ≤ x ∧ x < 256) (hm : l.length ≤ maxLen) :
    Calls Try.prog 18 #[s] w fun e w' => e = .returned (.int .u64 (num (l.take 8))) ∧ w = w' := by
  obtain ⟨a, cap, rfl, hl⟩ := hl
  unfold maxLen at hm
  have hfin : ∀ k, k < min l.length 8 → num (l.take (k + 1)) = num (l.take k) + 2 ^ (8 * k) * l.getD k 0 := by
    intro k hk
    rw [List.take_succ_eq_append_getElem (by omega), num_append, pow256, List.length_take, show min k l.length = k by omega]
    simp [List.getD_eq_getElem?_getD, show k < l.length by omega]
  have hrg : ∀ k, 0 ≤ num (l.take k) ∧ num (l.take k) < 2 ^ (8 * (min k l.length)) := by
    intro k
    have := num_range (l.take k) (fun x hx => hr x (List.mem_of_mem_take hx))
    rw [pow256, List.length_take] at this
    exact this
  have HF := Lib.hid hfin
  have HG := Lib.hid hrg
  have HR := Lib.hid hr
  clear hfin hrg hr
  go_enter Try.func18, Try.ntmps18
  go_wp2
  all_goals
    go_loop [3, 4, 8] (fun v _ c => ∃ k : Nat, k ≤ min l.length 8 ∧ c = .int .i64 k ∧ v = .int .u64 (num (l.take k))) (fun _ _ c => min l.length 8 - (intOf c).toNat)
    case atStart => exact ⟨0, by omega, rfl, rfl⟩
    case round =>
      obtain ⟨k, hk, rfl, rfl⟩ := hrel
      obtain ⟨g0, g1⟩ := HG.out k
      rw [show min k l.length = k by omega] at g1
      by_cases hlt : k < min l.length 8
      · have hf := HF.out k hlt
        rcases hl with hl | ⟨b, off, rfl, hc⟩
        · subst hl; simp at hlt
        · have hc1 := hc k (by omega)
          have hx := HR.out (l.getD k 0) (by simp [List.getD_eq_getElem?_getD, show k < l.length by omega])
          generalize l.getD k 0 = x at *
          generalize num (l.take k) = v at *
          have ho := or_join v x (8 * k) g0 g1 hx.1 (by omega) hx.2
          have HO := Lib.hid ho
          have HFK := Lib.hid hf
          clear hf ho hc
          have hk8 : k < 8 := by omega
          have hkl : k < l.length := by omega
          clear hlt hk
          go_wp2
          go_round
          case rel => exact ⟨k + 1, by omega, by go_num, by rw [HFK.out, shl_in x k hx.1 hx.2 (by omega), HO.out]⟩
          case measure => simp [intOf]; omega
      · go_wp2
        go_ret
        obtain rfl : k = min l.length 8 := by omega
        exact ⟨by rw [take_min]; rfl, rfl⟩

theorem rnumber_any (w : World) (s : Value) (l : List Int) (hl : Ints .u8 w s l) (hr : ∀ x ∈ l, 0 ≤ x ∧ x < 256) (hm : l.length ≤ maxLen) :
    Calls Try.prog 19 #[s] w fun e w' => e = .returned (.int .u64 (num (l.take 8))) ∧ w = w' := by
  obtain ⟨a, cap, rfl, hl⟩ := hl
  unfold maxLen at hm
  have hlen : (l.take 8).length = min l.length 8 := by simp; omega
  have hfin : ∀ k, k < min l.length 8 → num ((l.take 8).drop k) = num ((l.take 8).drop (k + 1)) * 256 + l.getD k 0 := by
    intro k hk
    rw [List.drop_eq_getElem_cons (by omega)]
    simp only [num]
    rw [List.getElem_take]
    simp only [List.getD_eq_getElem?_getD, List.getElem?_eq_getElem (show k < l.length by omega), Option.getD_some]
    omega
  have hrg : ∀ k, 1 ≤ k → k ≤ min l.length 8 → 0 ≤ num ((l.take 8).drop k) ∧ num ((l.take 8).drop k) ≤ 72057594037927935 := by
    intro k hk0 hk
    have := num_range ((l.take 8).drop k) (fun x hx => hr x (List.mem_of_mem_take (List.mem_of_mem_drop hx)))
    rw [pow256, List.length_drop, hlen] at this
    have h56 := pow_le_i (8 * (min l.length 8 - k)) 56 (by omega)
    omega
  have hz : num ((l.take 8).drop (min l.length 8)) = 0 := by rw [List.drop_of_length_le (by omega)]; rfl
  have HF := Lib.hid hfin
  have HG := Lib.hid hrg
  have HR := Lib.hid hr
  have HZ := Lib.hid hz
  clear hfin hrg hr hz hlen
  go_enter Try.func19, Try.ntmps19
  go_wp2
  all_goals
    go_loop [3, 4] (fun v c => ∃ k : Nat, k ≤ min l.length 8 ∧ c = .int .i64 ((k : Int) - 1) ∧ v = .int .u64 (num ((l.take 8).drop k))) (fun _ c => (intOf c + 1).toNat)
    case atStart => exact ⟨min l.length 8, by omega, by congr 1; omega, by rw [HZ.out]⟩
    case round =>
      obtain ⟨k, hk, rfl, rfl⟩ := hrel
      by_cases hlt : 0 < k
      · obtain ⟨j, rfl⟩ : ∃ j, k = j + 1 := ⟨k - 1, by omega⟩
        have hf := HF.out j (by omega)
        obtain ⟨g0, g1⟩ := HG.out (j + 1) (by omega) hk
        rcases hl with hl | ⟨b, off, rfl, hc⟩
        · subst hl; simp at hk
        · have hc1 := hc j (by omega)
          have hx := HR.out (l.getD j 0) (by simp [List.getD_eq_getElem?_getD, show j < l.length by omega])
          generalize l.getD j 0 = x at *
          generalize num ((l.take 8).drop (j + 1)) = v at *
          have HFK := Lib.hid hf
          clear hf hc
          rw [show (((j + 1 : Nat) : Int) - 1) = (j : Int) by omega]
          have hkl : j < l.length := by omega
          have hk8 : j < 8 := by omega
          clear hlt hk
          go_wp2
          go_round
          case rel => exact ⟨j, by omega, rfl, by rw [HFK.out]⟩
          case measure => simp [intOf]
      · obtain rfl : k = 0 := by omega
        go_wp2
        go_ret
        exact ⟨rfl, rfl⟩

end Go.Proofs.Ytpcmjgjdmlgdjaa
