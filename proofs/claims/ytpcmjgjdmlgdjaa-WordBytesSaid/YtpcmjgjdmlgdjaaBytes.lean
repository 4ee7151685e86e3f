/- Contracts of package word's Bytes, Number and Chunks and of the document's own answers for them. -/
import Derived.Test.YtpcmjgjdmlgdjaaWalks
import Derived.OwnWalk
import Derived.Maps.AppendAt
namespace Go.Proofs.Ytpcmjgjdmlgdjaa
open Go.RowKit
set_option linter.unusedVariables false

theorem Try.info5 : (Try.prog.info? 5).map (fun i => (i.zero, i.size, i.bytes)) = some (some (.int .u8 0), 1, 1) := by kernel_rfl

theorem bytes_in (v : Int) (n : Nat) (hn : n ≤ 8) (w : World) (h0 : 0 ≤ v) (h1 : v ≤ 18446744073709551615) :
    Calls Try.prog 16 #[.int .u64 v, .int .i64 n] w fun e w' => ∃ s, e = .returned s ∧ w'.ownsRow w.heap.size 5 1 s n (((List.range n).map (byteI v)).map (Value.int .u8)) ∧ Below w.heap.size w w' := by
  obtain ⟨i0, hi, hz0, hz1, hz2⟩ := info_parts Try.info5
  have hmx : n ≤ maxLen := by unfold maxLen; omega
  have hby : i0.bytes * n ≤ 281474976710656 := by rw [hz2]; omega
  have HM := Lib.hid hmx
  have HB := Lib.hid hby
  clear hmx hby
  go_enter Try.func16, Try.ntmps16
  go_wp2_with (at_make; refine wpList_make_full _ rfl _ _ 32 rfl w.heap.size 5 i0 (.int .u8 0) 1 Try.underlying32 hi hz0 hz1 .i64 .i64 n n n rfl rfl rfl rfl HB.out HM.out (Nat.le_refl _) ?_)
  intro w1 hown1 hg1
  have hb1 : Below w.heap.size w w1 := (Below.refl _ _).grown hg1 (Nat.le_refl _) (by simp)
  have hown : w1.ownsRow w.heap.size 5 1 (.slice (some ⟨w.heap.size, 0, none⟩) n n) n ((byteRow v 0 n).map (Value.int .u8)) := by
    have e : (madeCells #[Value.int .u8 0] n).toList = (byteRow v 0 n).map (Value.int .u8) := by
      rw [byteRow_zero]; simp [toList_madeCells_one]
    rw [← e]; exact hown1
  clear hown1 hg1 hi hz0 hz1 hz2
  go_wp2
  go_loopw [6, 16] (fun _ c wr => ∃ k : Nat, k ≤ n ∧ c = .int .i64 k ∧ wr.ownsRow w.heap.size 5 1 (.slice (some ⟨w.heap.size, 0, none⟩) n n) n ((byteRow v k n).map (Value.int .u8)) ∧ Below w.heap.size w wr) (fun _ c _ => n - (intOf c).toNat)
  case atStart => exact ⟨0, by omega, rfl, hown, hb1⟩
  case round =>
    obtain ⟨k, hk, rfl, ho, hb⟩ := hrel
    by_cases hlt : k < n
    · have hc := ho.cellAt k (by omega)
      rw [List.getElem?_map, byteRow_get v k n hlt] at hc
      have hc' : wr.cell? ⟨w.heap.size, k, none⟩ = some (.int .u8 0) := hc
      have hf := ho.frozenAt k
      clear hc
      go_wp2
      go_roundw
      case rel => exact ⟨k + 1, by omega, by go_num, by rw [← byteRow_set, List.map_set]; exact (ho.stored k _).1, hb.setCell (Nat.le_refl _) _⟩
      case measure => simp [intOf]; omega
    · go_wp2
      go_ret
      obtain rfl : k = n := by omega
      rw [byteRow_full] at ho
      exact ⟨_, rfl, ho, hb⟩

theorem bytes_out (v n : Int) (hn : n < 0 ∨ 8 < n) (w : World) :
    Calls Try.prog 16 #[.int .u64 v, .int .i64 n] w fun e w' => e = .returned (.slice none 0 0) ∧ w = w' := by
  rcases hn with hn | hn
  · go_enter Try.func16, Try.ntmps16
    go_wp2
    go_ret
    exact ⟨rfl, rfl⟩
  · go_enter Try.func16, Try.ntmps16
    go_wp2
    go_ret
    exact ⟨rfl, rfl⟩

/-- A slice of the call's own that holds bytes. -/
def ownsBytes (w : World) (base : Nat) (s : Value) (l : List Int) : Prop := w.ownsRow base 5 1 s l.length (l.map (Value.int .u8))

theorem bytes_any (v n : Int) (w : World) (h0 : 0 ≤ v) (h1 : v ≤ 18446744073709551615) :
    Calls Try.prog 16 #[.int .u64 v, .int .i64 n] w fun e w' => ∃ s, e = .returned s ∧ ownsBytes w' w.heap.size s (byteL v n) ∧ Below w.heap.size w w' := by
  by_cases h : 0 ≤ n ∧ n ≤ 8
  · obtain ⟨a, rfl⟩ := Int.eq_ofNat_of_zero_le h.1
    refine (bytes_in v a (by omega) w h0 h1).mono ?_
    rintro e w' ⟨s, rfl, ho, hb⟩
    refine ⟨s, rfl, ?_, hb⟩
    unfold ownsBytes byteL
    rw [if_pos h, Int.toNat_natCast, List.length_map, List.length_range]
    exact ho
  · refine (bytes_out v n (by omega) w).mono ?_
    rintro e w' ⟨rfl, rfl⟩
    refine ⟨_, rfl, ?_, Below.refl _ _⟩
    unfold ownsBytes byteL
    rw [if_neg h]
    exact World.ownsRow_nil _ _ _ _

theorem rbytes_in (v : Int) (n : Nat) (hn : n ≤ 8) (w : World) (h0 : 0 ≤ v) (h1 : v ≤ 18446744073709551615) :
    Calls Try.prog 17 #[.int .u64 v, .int .i64 n] w fun e w' => ∃ s, e = .returned s ∧ w'.ownsRow w.heap.size 5 1 s n (((List.range n).map (byteI v)).map (Value.int .u8)) ∧ Below w.heap.size w w' := by
  obtain ⟨i0, hi, hz0, hz1, hz2⟩ := info_parts Try.info5
  go_enter Try.func17, Try.ntmps17
  go_wp2
  go_loopw [0, 5, 6] (fun x s c wr => ∃ k : Nat, k ≤ n ∧ c = .int .i64 k ∧ x = .int .u64 (v / 2 ^ (8 * k)) ∧ wr.ownsRow w.heap.size 5 1 s k (((List.range k).map (byteI v)).map (Value.int .u8)) ∧ Below w.heap.size w wr) (fun _ _ c _ => n - (intOf c).toNat)
  case atStart => exact ⟨0, by omega, rfl, by simp, World.ownsRow_nil _ _ _ _, Below.refl _ _⟩
  case round =>
    obtain ⟨k, hk, rfl, rfl, ho, hb⟩ := hrel
    have hq0 : 0 ≤ v / 2 ^ (8 * k) := Int.ediv_nonneg h0 (by have := pow_pos_i (8 * k); omega)
    have hq1 : v / 2 ^ (8 * k) ≤ 18446744073709551615 := by have := Int.ediv_le_self (2 ^ (8 * k)) h0; omega
    by_cases hlt : k < n
    · have hsz := hb.size
      have hmx : k + 1 ≤ maxLen := by unfold maxLen; omega
      have hby : (k + 1) * 1 ≤ 140737488355328 := by omega
      have HM := Lib.hid hmx
      have HB := Lib.hid hby
      clear hmx hby
      go_wp2_with (at_builtin; refine wpList_append_own _ rfl _ _ 32 rfl w.heap.size 5 i0 (.int .u8 0) 1 1 Try.underlying32 hi hz0 hz1 hz2 rfl (by decide) _ _ _ rfl (ho.alloc _) ⟨wr.heap.size, 0, none⟩ 1 1 [.int .u8 (v / 2 ^ (8 * k) % 256)] rfl rfl ?c1 ?c2 HM.out HB.out ?c5 ?_)
      case c1 => exact cell_one_new _ _ _
      case c2 => intro u hu; simp at hu; subst hu; rfl
      case c5 => simp; omega
      intro s' w2 hown2 hg2 _
      have hb2 : Below w.heap.size w w2 := (hb.alloc hsz _).grown hg2 (by simp; omega) (fun j hj => (ho.lt j hj).1)
      have ho2 : w2.ownsRow w.heap.size 5 1 s' (k + 1) (((List.range (k + 1)).map (byteI v)).map (Value.int .u8)) := by
        rw [List.range_succ, List.map_append, List.map_append, List.map_map]; exact hown2
      have hnx : v / 2 ^ (8 * k) / 256 = v / 2 ^ (8 * (k + 1)) := by
        rw [Int.ediv_ediv_of_nonneg (by have := pow_pos_i (8 * k); omega), show 8 * (k + 1) = 8 * k + 8 by omega, Int.pow_add]; rfl
      have HN := Lib.hid hnx
      clear hown2 hg2 ho hb hnx
      go_wp2
      go_roundw
      case rel => exact ⟨k + 1, by omega, by go_num, by rw [HN.out], ho2, hb2⟩
      case measure => simp [intOf]; omega
    · go_wp2
      go_ret
      obtain rfl : k = n := by omega
      exact ⟨_, rfl, ho, hb⟩

theorem rbytes_any (v n : Int) (w : World) (h0 : 0 ≤ v) (h1 : v ≤ 18446744073709551615) :
    Calls Try.prog 17 #[.int .u64 v, .int .i64 n] w fun e w' => ∃ s, e = .returned s ∧ ownsBytes w' w.heap.size s (byteL v n) ∧ Below w.heap.size w w' := by
  by_cases h : 0 ≤ n ∧ n ≤ 8
  · obtain ⟨a, rfl⟩ := Int.eq_ofNat_of_zero_le h.1
    refine (rbytes_in v a (by omega) w h0 h1).mono ?_
    rintro e w' ⟨s, rfl, ho, hb⟩
    refine ⟨s, rfl, ?_, hb⟩
    unfold ownsBytes byteL
    rw [if_pos h, Int.toNat_natCast, List.length_map, List.length_range]
    exact ho
  · have hfin : ownsBytes w w.heap.size (.slice none 0 0) (byteL v n) := by
      unfold ownsBytes byteL
      rw [if_neg h]
      exact World.ownsRow_nil _ _ _ _
    have hn : n < 0 ∨ 8 < n := by omega
    clear h
    rcases hn with hn | hn
    · go_enter Try.func17, Try.ntmps17
      go_wp2
      go_ret
      exact ⟨_, rfl, hfin, Below.refl _ _⟩
    · go_enter Try.func17, Try.ntmps17
      go_wp2
      go_ret
      exact ⟨_, rfl, hfin, Below.refl _ _⟩

end Go.Proofs.Ytpcmjgjdmlgdjaa
