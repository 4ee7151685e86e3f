/- Contracts: Picks, of the program and of the document. -/
import Derived.Test.YtfahnjicinpahaaProg
import Derived.Test.YtfahnjicinpahaaKit
import Derived.Lib.Hide
import Derived.OwnWalk
import Derived.WalkSmall
import Derived.Maps.AppendAt
namespace Go.Proofs.Ytfahnjicinpahaa
open Go.RowKit
set_option linter.unusedVariables false

theorem Try.infoPick : (Try.prog.info? 53).map (fun i => (i.zero, i.size, i.bytes)) = some (some (.agg #[.int .i64 0, .int .i64 0, .int .i64 0]), 3, 24) := by kernel_rfl

/-- The cells of picks. -/
def pickC (l : List Int) : List Value := l.flatMap fun x => [Value.int .i64 0, .int .i64 x, .int .i64 0]
theorem pickC_len (l : List Int) : (pickC l).length = l.length * 3 := by
  induction l with
  | nil => rfl
  | cons a l ih => unfold pickC at ih ⊢; rw [List.flatMap_cons, List.length_append, ih]; simp; omega
theorem pickC_snoc (l : List Int) (x : Int) : pickC (l ++ [x]) = pickC l ++ [.int .i64 0, .int .i64 x, .int .i64 0] := by simp [pickC]

set_option maxRecDepth 100000 in
theorem picks_any (w : World) (s : Value) (zs : List Int) (hs : Ints .i64 w s zs) (hlen : zs.length ≤ 200) :
    Calls Try.prog 29 #[s] w fun e w' => ∃ s', e = .returned s' ∧ w'.ownsRow w.heap.size 53 3 s' zs.length (pickC zs) ∧ Below w.heap.size w w' := by
  obtain ⟨i0, hi, hz0, hz1, hz2⟩ := info_parts Try.infoPick
  obtain ⟨a, cap, rfl, hl⟩ := hs
  have HL := Lib.hid hl
  have HB := Lib.hid (show i0.bytes * zs.length ≤ 281474976710656 by rw [hz2]; omega)
  have HM := Lib.hid (show zs.length ≤ maxLen by unfold maxLen; omega)
  clear hl
  go_enter Try.func29, Try.ntmps29
  go_wp2_with (at_make; refine wpList_make_own _ rfl _ _ 49 rfl w.heap.size 53 i0 (.agg #[.int .i64 0, .int .i64 0, .int .i64 0]) 3 Try.underlying49 hi hz0 hz1 .i64 .i64 _ zs.length rfl rfl rfl HB.out HM.out (Nat.le_refl _) ?_)
  intro w1 hown1 hg1
  have hb1 : Below w.heap.size w w1 := (Below.refl _ _).grown hg1 (Nat.le_refl _) (by simp)
  clear hg1
  go_wp2
  go_loopw [3, 11] (fun v c wr => ∃ k : Nat, k ≤ zs.length ∧ c = .int .i64 k ∧ wr.ownsRow w.heap.size 53 3 v k (pickC (zs.take k)) ∧ Below w.heap.size w wr) (fun _ c _ => zs.length - (intOf c).toNat)
  case atStart => exact ⟨0, by omega, rfl, hown1, hb1⟩
  case round =>
    clear hown1 hb1
    obtain ⟨k, hk, rfl, ho, hb⟩ := hrel
    by_cases hlt : k < zs.length
    · obtain ⟨b, off, rfl, hc⟩ : ∃ b off, a = some ⟨b, off, none⟩ ∧ ∀ i, i < zs.length → w.cell? ⟨b, off + i, none⟩ = some (.int .i64 (zs.getD i 0)) := by
        rcases HL.out with hl | h
        · subst hl; simp at hlt
        · exact h
      have hx := (hb.cell (p := ⟨b, off + k, none⟩) (World.block_lt_of_cell? w _ (hc k hlt))).trans (hc k hlt)
      have htk : zs.take (k + 1) = zs.take k ++ [zs.getD k 0] := by rw [List.take_succ_eq_append_getElem hlt]; simp [List.getD_eq_getElem?_getD, hlt]
      generalize zs.getD k 0 = x at *
      have HT := Lib.hid htk
      have hsz := hb.size
      have HM1 := Lib.hid (show k + 1 ≤ maxLen by unfold maxLen; omega)
      clear htk hc
      go_wp2_with (at_builtin; refine wpList_append_own _ rfl _ _ 49 rfl w.heap.size 53 i0 (.agg #[.int .i64 0, .int .i64 0, .int .i64 0]) 3 24 Try.underlying49 hi hz0 hz1 hz2 rfl (by decide) _ _ _ rfl (ho.alloc _) ⟨wr.heap.size, 0, none⟩ 1 1 [.int .i64 0, .int .i64 x, .int .i64 0] rfl rfl ?c1 ?c2 HM1.out (by omega) ?c5 ?_)
      case c1 =>
        intro j u hu
        have hj : j = 0 ∨ j = 1 ∨ j = 2 := by have := (List.getElem?_eq_some_iff.1 hu).1; simp at this; omega
        rcases hj with rfl | rfl | rfl <;> simp at hu <;> subst hu <;> simp [Addr.add]
      case c2 => intro u hu; simp at hu; rcases hu with rfl | rfl | rfl <;> rfl
      case c5 => simp; omega
      intro s' w2 hown2 hg2 _
      have hb2 : Below w.heap.size w w2 := (hb.alloc hsz _).grown hg2 (by simp; omega) (fun j hj => (ho.lt j hj).1)
      have ho2 : w2.ownsRow w.heap.size 53 3 s' (k + 1) (pickC (zs.take (k + 1))) := by rw [HT.out, pickC_snoc]; exact hown2
      clear hown2 hg2 ho hb
      go_wp2
      go_roundw
      case rel => exact ⟨k + 1, by omega, by go_num, ho2, hb2⟩
      case measure => simp [intOf]; omega
    · obtain rfl : k = zs.length := by omega
      rw [List.take_length] at ho
      go_wp2
      go_ret
      exact ⟨_, rfl, ho, hb⟩

set_option maxRecDepth 100000 in
theorem rpicks_any (w : World) (s : Value) (zs : List Int) (hs : Ints .i64 w s zs) (hlen : zs.length ≤ 200) :
    Calls Try.prog 30 #[s] w fun e w' => ∃ s', e = .returned s' ∧ w'.ownsRow w.heap.size 53 3 s' zs.length (pickC zs) ∧ Below w.heap.size w w' := by
  obtain ⟨i0, hi, hz0, hz1, hz2⟩ := info_parts Try.infoPick
  obtain ⟨a, cap, rfl, hl⟩ := hs
  have HL := Lib.hid hl
  clear hl
  go_enter Try.func30, Try.ntmps30
  go_wp2
  go_loopw [3, 8] (fun v c wr => ∃ k : Nat, k ≤ zs.length ∧ c = .int .i64 k ∧ wr.ownsRow w.heap.size 53 3 v k (pickC (zs.take k)) ∧ Below w.heap.size w wr) (fun _ c _ => zs.length - (intOf c).toNat)
  case atStart => exact ⟨0, by omega, rfl, World.ownsRow_nil _ _ _ _, Below.refl _ _⟩
  case round =>
    obtain ⟨k, hk, rfl, ho, hb⟩ := hrel
    by_cases hlt : k < zs.length
    · obtain ⟨b, off, rfl, hc⟩ : ∃ b off, a = some ⟨b, off, none⟩ ∧ ∀ i, i < zs.length → w.cell? ⟨b, off + i, none⟩ = some (.int .i64 (zs.getD i 0)) := by
        rcases HL.out with hl | h
        · subst hl; simp at hlt
        · exact h
      have hx := (hb.cell (p := ⟨b, off + k, none⟩) (World.block_lt_of_cell? w _ (hc k hlt))).trans (hc k hlt)
      have htk : zs.take (k + 1) = zs.take k ++ [zs.getD k 0] := by rw [List.take_succ_eq_append_getElem hlt]; simp [List.getD_eq_getElem?_getD, hlt]
      generalize zs.getD k 0 = x at *
      have HT := Lib.hid htk
      have hsz := hb.size
      have HM1 := Lib.hid (show k + 1 ≤ maxLen by unfold maxLen; omega)
      clear htk hc
      go_wp2_with (at_builtin; refine wpList_append_own _ rfl _ _ 49 rfl w.heap.size 53 i0 (.agg #[.int .i64 0, .int .i64 0, .int .i64 0]) 3 24 Try.underlying49 hi hz0 hz1 hz2 rfl (by decide) _ _ _ rfl (ho.alloc _) ⟨wr.heap.size, 0, none⟩ 1 1 [.int .i64 0, .int .i64 x, .int .i64 0] rfl rfl ?c1 ?c2 HM1.out (by omega) ?c5 ?_)
      case c1 =>
        intro j u hu
        have hj : j = 0 ∨ j = 1 ∨ j = 2 := by have := (List.getElem?_eq_some_iff.1 hu).1; simp at this; omega
        rcases hj with rfl | rfl | rfl <;> simp at hu <;> subst hu <;> simp [Addr.add]
      case c2 => intro u hu; simp at hu; rcases hu with rfl | rfl | rfl <;> rfl
      case c5 => simp; omega
      intro s' w2 hown2 hg2 _
      have hb2 : Below w.heap.size w w2 := (hb.alloc hsz _).grown hg2 (by simp; omega) (fun j hj => (ho.lt j hj).1)
      have ho2 : w2.ownsRow w.heap.size 53 3 s' (k + 1) (pickC (zs.take (k + 1))) := by rw [HT.out, pickC_snoc]; exact hown2
      clear hown2 hg2 ho hb
      go_wp2
      go_roundw
      case rel => exact ⟨k + 1, by omega, by go_num, ho2, hb2⟩
      case measure => simp [intOf]; omega
    · obtain rfl : k = zs.length := by omega
      rw [List.take_length] at ho
      go_wp2
      go_ret
      exact ⟨_, rfl, ho, hb⟩

end Go.Proofs.Ytfahnjicinpahaa
