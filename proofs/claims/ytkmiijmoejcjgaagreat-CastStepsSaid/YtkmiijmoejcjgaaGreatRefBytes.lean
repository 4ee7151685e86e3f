/- The document's Bytes. -/
import Derived.Test.YtkmiijmoejcjgaaGreatOwns
namespace Go.Proofs.YtkmiijmoejcjgaaGreat
open Go.RowKit
set_option linter.unusedVariables false

set_option maxRecDepth 100000 in
theorem rbytes_in (v : Int) (n : Nat) (hn : n ≤ 8) (w : World) (h0 : 0 ≤ v) (h1 : v ≤ 18446744073709551615) :
    Calls Tryz.prog 84 #[.int .u64 v, .int .i64 n] w fun e w' => ∃ s, e = .returned s ∧ w'.ownsRow w.heap.size 5 1 s n (((List.range n).map (byteI v)).map (Value.int .u8)) ∧ Below w.heap.size w w' := by
  obtain ⟨i0, hi, hz0, hz1, hz2⟩ := info_parts Tryz.info5
  go_enter Tryz.func84, Tryz.ntmps84
  go_wp2
  go_loopw [0, 5, 6] (fun x s c wr => ∃ k : Nat, k ≤ n ∧ c = .int .i64 k ∧ x = .int .u64 (v / 2 ^ (8 * k)) ∧ wr.ownsRow w.heap.size 5 1 s k (((List.range k).map (byteI v)).map (Value.int .u8)) ∧ Below w.heap.size w wr) (fun _ _ c _ => n - (intOf c).toNat)
  case atStart => exact ⟨0, by omega, rfl, by simp, World.ownsRow_nil _ _ _ _, Below.refl _ _⟩
  case round =>
    obtain ⟨k, hk, rfl, rfl, ho, hb⟩ := hrel
    have hq0 : 0 ≤ v / 2 ^ (8 * k) := Int.ediv_nonneg h0 (by have := pow_pos_i (8 * k); omega)
    have hq1 : v / 2 ^ (8 * k) ≤ 18446744073709551615 := by have := Int.ediv_le_self (2 ^ (8 * k)) h0; omega
    by_cases hlt : k < n
    · have hsz := hb.size
      have hmx : k + 1 ≤ maxLen := by unfold maxLen; omega
      have hby : (k + 1) * 1 ≤ 140737488355328 := by omega
      have HM := Lib.hid hmx
      have HB := Lib.hid hby
      clear hmx hby
      go_wp2_with (at_builtin; refine wpList_append_own _ rfl _ _ 24 rfl w.heap.size 5 i0 (.int .u8 0) 1 1 Tryz.underlying24 hi hz0 hz1 hz2 rfl (by decide) _ _ _ rfl (ho.alloc _) ⟨wr.heap.size, 0, none⟩ 1 1 [.int .u8 (v / 2 ^ (8 * k) % 256)] rfl rfl ?c1 ?c2 HM.out HB.out ?c5 ?_)
      case c1 => exact cell_one_new _ _ _
      case c2 => intro u hu; simp at hu; subst hu; rfl
      case c5 => simp; omega
      intro s' w2 hown2 hg2 _
      have hb2 : Below w.heap.size w w2 := (hb.alloc hsz _).grown hg2 (by simp; omega) (fun j hj => (ho.lt j hj).1)
      have ho2 : w2.ownsRow w.heap.size 5 1 s' (k + 1) (((List.range (k + 1)).map (byteI v)).map (Value.int .u8)) := by
        rw [List.range_succ, List.map_append, List.map_append, List.map_map]; exact hown2
      have hnx : v / 2 ^ (8 * k) / 256 = v / 2 ^ (8 * (k + 1)) := by
        rw [Int.ediv_ediv_of_nonneg (by have := pow_pos_i (8 * k); omega), show 8 * (k + 1) = 8 * k + 8 by omega, Int.pow_add]; rfl
      have HN := Lib.hid hnx
      clear hown2 hg2 ho hb hnx
      go_wp2
      go_roundw
      case rel => exact ⟨k + 1, by omega, by go_num, by rw [HN.out], ho2, hb2⟩
      case measure => simp [intOf]; omega
    · go_wp2
      go_ret
      obtain rfl : k = n := by omega
      exact ⟨_, rfl, ho, hb⟩

set_option maxRecDepth 100000 in
theorem rbytes_any (v n : Int) (w : World) (h0 : 0 ≤ v) (h1 : v ≤ 18446744073709551615) :
    Calls Tryz.prog 84 #[.int .u64 v, .int .i64 n] w fun e w' => ∃ s, e = .returned s ∧ ownsBytes w' w.heap.size s (byteL v n) ∧ Below w.heap.size w w' := by
  by_cases h : 0 ≤ n ∧ n ≤ 8
  · obtain ⟨a, rfl⟩ := Int.eq_ofNat_of_zero_le h.1
    refine (rbytes_in v a (by omega) w h0 h1).mono ?_
    rintro e w' ⟨s, rfl, ho, hb⟩
    refine ⟨s, rfl, ?_, hb⟩
    unfold ownsBytes byteL
    rw [if_pos h, Int.toNat_natCast, List.length_map, List.length_range]
    exact ho
  · have hfin : ownsBytes w w.heap.size (.slice none 0 0) (byteL v n) := by
      unfold ownsBytes byteL
      rw [if_neg h]
      exact World.ownsRow_nil _ _ _ _
    have hn : n < 0 ∨ 8 < n := by omega
    clear h
    rcases hn with hn | hn
    · go_enter Tryz.func84, Tryz.ntmps84
      go_wp2
      go_ret
      exact ⟨_, rfl, hfin, Below.refl _ _⟩
    · go_enter Tryz.func84, Tryz.ntmps84
      go_wp2
      go_ret
      exact ⟨_, rfl, hfin, Below.refl _ _⟩

end Go.Proofs.YtkmiijmoejcjgaaGreat
