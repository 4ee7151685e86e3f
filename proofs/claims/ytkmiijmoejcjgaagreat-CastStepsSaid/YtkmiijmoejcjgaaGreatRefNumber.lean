/- The document's Number. -/
import Derived.Test.YtkmiijmoejcjgaaGreatProg
import Derived.Test.YtkmiijmoejcjgaaGreatNum
import Derived.Test.YtkmiijmoejcjgaaGreatKit
import Derived.Lib.Hide
namespace Go.Proofs.YtkmiijmoejcjgaaGreat
open Go.RowKit
set_option linter.unusedVariables false

set_option maxRecDepth 100000 in
theorem rnumber_any (w : World) (s : Value) (l : List Int) (hl : Ints .u8 w s l) (hr : ∀ x ∈ l, 0 ≤ x ∧ x < 256) (hm : l.length ≤ maxLen) :
    Calls Tryz.prog 72 #[s] w fun e w' => e = .returned (.int .u64 (num (l.take 8))) ∧ w = w' := by
  obtain ⟨a, cap, rfl, hl⟩ := hl
  unfold maxLen at hm
  have hlen : (l.take 8).length = min l.length 8 := by simp; omega
  have hfin : ∀ k, k < min l.length 8 → num ((l.take 8).drop k) = num ((l.take 8).drop (k + 1)) * 256 + l.getD k 0 := by
    intro k hk
    rw [List.drop_eq_getElem_cons (by omega)]
    simp only [num]
    rw [List.getElem_take]
    simp only [List.getD_eq_getElem?_getD, List.getElem?_eq_getElem (show k < l.length by omega), Option.getD_some]
    omega
  have hrg : ∀ k, 1 ≤ k → k ≤ min l.length 8 → 0 ≤ num ((l.take 8).drop k) ∧ num ((l.take 8).drop k) ≤ 72057594037927935 := by
    intro k hk0 hk
    have := num_range ((l.take 8).drop k) (fun x hx => hr x (List.mem_of_mem_take (List.mem_of_mem_drop hx)))
    rw [pow256, List.length_drop, hlen] at this
    have h56 := pow_le_i (8 * (min l.length 8 - k)) 56 (by omega)
    omega
  have hz : num ((l.take 8).drop (min l.length 8)) = 0 := by rw [List.drop_of_length_le (by omega)]; rfl
  have HF := Lib.hid hfin
  have HG := Lib.hid hrg
  have HR := Lib.hid hr
  have HZ := Lib.hid hz
  clear hfin hrg hr hz hlen
  go_enter Tryz.func72, Tryz.ntmps72
  go_wp2
  all_goals
    go_loop [3, 4] (fun v c => ∃ k : Nat, k ≤ min l.length 8 ∧ c = .int .i64 ((k : Int) - 1) ∧ v = .int .u64 (num ((l.take 8).drop k))) (fun _ c => (intOf c + 1).toNat)
    case atStart => exact ⟨min l.length 8, by omega, by congr 1; omega, by rw [HZ.out]⟩
    case round =>
      obtain ⟨k, hk, rfl, rfl⟩ := hrel
      by_cases hlt : 0 < k
      · obtain ⟨j, rfl⟩ : ∃ j, k = j + 1 := ⟨k - 1, by omega⟩
        have hf := HF.out j (by omega)
        obtain ⟨g0, g1⟩ := HG.out (j + 1) (by omega) hk
        rcases hl with hl | ⟨b, off, rfl, hc⟩
        · subst hl; simp at hk
        · have hc1 := hc j (by omega)
          have hx := HR.out (l.getD j 0) (by simp [List.getD_eq_getElem?_getD, show j < l.length by omega])
          generalize l.getD j 0 = x at *
          generalize num ((l.take 8).drop (j + 1)) = v at *
          have HFK := Lib.hid hf
          clear hf hc
          rw [show (((j + 1 : Nat) : Int) - 1) = (j : Int) by omega]
          have hkl : j < l.length := by omega
          have hk8 : j < 8 := by omega
          clear hlt hk
          go_wp2
          go_round
          case rel => exact ⟨j, by omega, rfl, by rw [HFK.out]⟩
          case measure => simp [intOf]
      · obtain rfl : k = 0 := by omega
        go_wp2
        go_ret
        exact ⟨rfl, rfl⟩

end Go.Proofs.YtkmiijmoejcjgaaGreat
