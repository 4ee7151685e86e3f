/- Contracts of package word's Chunks and of the document's own answer for it. -/
import Derived.Test.YtkmiijmoejcjgaaGreatProg
import Derived.Test.YtkmiijmoejcjgaaGreatKit
import Derived.Lib.Hide
import Derived.OwnWalk
import Derived.Maps.AppendAt
import Derived.WalkSmall
namespace Go.Proofs.YtkmiijmoejcjgaaGreat
open Go.RowKit
set_option linter.unusedVariables false

/-- 8, 8, .., and what is left of m, if something is. -/
def ch (m : Nat) : List Int := List.replicate (m / 8) 8 ++ if m % 8 = 0 then [] else [((m % 8 : Nat) : Int)]
set_option maxRecDepth 100000 in
theorem ch_zero : ch 0 = [] := rfl
set_option maxRecDepth 100000 in
theorem ch_more (m : Nat) (h : 8 ≤ m) : ch m = 8 :: ch (m - 8) := by
  have e1 : m / 8 = (m - 8) / 8 + 1 := by omega
  have e2 : (m - 8) % 8 = m % 8 := by omega
  unfold ch
  rw [e1, e2, List.replicate_succ, List.cons_append]
set_option maxRecDepth 100000 in
theorem ch_less (m : Nat) (h : 0 < m) (h8 : m ≤ 8) : ch m = [(m : Int)] := by
  by_cases e : m = 8
  · subst e; rfl
  · have e1 : m / 8 = 0 := by omega
    have e2 : m % 8 = m := by omega
    unfold ch
    rw [e1, e2]; simp; omega
set_option maxRecDepth 100000 in
theorem ch_step (m : Nat) (h : 0 < m) : ch m = ((min m 8 : Nat) : Int) :: ch (m - min m 8) := by
  by_cases e : 8 ≤ m
  · rw [show min m 8 = 8 by omega]; exact ch_more m e
  · rw [show min m 8 = m by omega, ch_less m h (by omega), Nat.sub_self, ch_zero]
set_option maxRecDepth 100000 in
theorem ch_len (m : Nat) : (ch m).length ≤ m := by
  unfold ch; split <;> simp <;> omega
set_option maxRecDepth 100000 in
theorem ch_range (m : Nat) : ∀ x ∈ ch m, 1 ≤ x ∧ x ≤ 8 := by
  intro x hx
  unfold ch at hx
  rw [List.mem_append] at hx
  rcases hx with hx | hx
  · have := List.eq_of_mem_replicate hx; omega
  · split at hx
    · simp at hx
    · simp at hx; omega
set_option maxRecDepth 100000 in
theorem ch_sum (m : Nat) : (ch m).sum = m := by
  unfold ch; split <;> simp [List.sum_replicate_int] <;> omega

set_option maxRecDepth 100000 in
theorem Tryz.infoInt : (Tryz.prog.info? 3).map (fun i => (i.zero, i.size, i.bytes)) = some (some (.int .i64 0), 1, 8) := by kernel_rfl

/-- A slice of the call's own that holds numbers. -/
def ownsInts (w : World) (base : Nat) (s : Value) (l : List Int) : Prop := w.ownsRow base 3 1 s l.length (l.map (Value.int .i64))

set_option maxRecDepth 100000 in
theorem chunks_in (n : Nat) (h1 : 1 ≤ n) (h2 : n ≤ 131072) (w : World) :
    Calls Tryz.prog 78 #[.int .i64 n] w fun e w' => ∃ s, e = .returned s ∧ ownsInts w' w.heap.size s (ch n) ∧ Below w.heap.size w w' := by
  obtain ⟨i0, hi, hz0, hz1, hz2⟩ := info_parts Tryz.infoInt
  go_enter Tryz.func78, Tryz.ntmps78
  go_wp2
  go_loopw [0, 3] (fun x s wr => ∃ (m : Nat) (l : List Int), m ≤ n ∧ l ++ ch m = ch n ∧ x = .int .i64 m ∧ ownsInts wr w.heap.size s l ∧ Below w.heap.size w wr) (fun x _ _ => (intOf x).toNat)
  case atStart => exact ⟨n, [], by omega, rfl, rfl, World.ownsRow_nil _ _ _ _, Below.refl _ _⟩
  case round =>
    obtain ⟨m, l, hm, hl, rfl, ho, hb⟩ := hrel
    have hlen : l.length + (ch m).length ≤ n := by
      have := ch_len n; rw [← hl, List.length_append] at this; exact this
    by_cases hlt : 0 < m
    · have hsz := hb.size
      have hst := ch_step m hlt
      have hlen2 : l.length + 1 ≤ n := by rw [hst] at hlen; simp at hlen; omega
      have hl2 : (l ++ [((min m 8 : Nat) : Int)]) ++ ch (m - min m 8) = ch n := by rw [← hl, hst]; simp
      clear hl hst hlen
      unfold ownsInts at ho
      have hmx : l.length + 1 ≤ maxLen := by unfold maxLen; omega
      have hby : (l.length + 1) * 8 ≤ 140737488355328 := by omega
      have HM := Lib.hid hmx
      have HB := Lib.hid hby
      clear hmx hby
      by_cases h8 : 8 < m
      · rw [show min m 8 = 8 by omega] at hl2
        have HL := Lib.hid hl2
        clear hl2
        go_wp2_with (at_builtin; refine wpList_append_own _ rfl _ _ 127 rfl w.heap.size 3 i0 (.int .i64 0) 1 8 Tryz.underlying127 hi hz0 hz1 hz2 rfl (by decide) _ _ _ rfl (ho.alloc _) ⟨wr.heap.size, 0, none⟩ 1 1 [.int .i64 8] rfl rfl ?c1 ?c2 HM.out HB.out ?c5 ?_)
        case c1 => exact cell_one_new _ _ _
        case c2 => intro u hu; simp at hu; subst hu; rfl
        case c5 => simp; omega
        intro s' w2 hown2 hg2 _
        have hb2 : Below w.heap.size w w2 := (hb.alloc hsz _).grown hg2 (by simp; omega) (fun j hj => (ho.lt j hj).1)
        have ho2 : ownsInts w2 w.heap.size s' (l ++ [8]) := by
          unfold ownsInts; rw [List.length_append, List.map_append]; exact hown2
        clear hown2 hg2 ho hb
        go_wp2
        go_roundw
        case rel => exact ⟨m - 8, l ++ [8], by omega, HL.out, by go_num, ho2, hb2⟩
        case measure => simp [intOf]; omega
      · rw [show min m 8 = m by omega] at hl2
        have HL := Lib.hid hl2
        clear hl2
        go_wp2_with (at_builtin; refine wpList_append_own _ rfl _ _ 127 rfl w.heap.size 3 i0 (.int .i64 0) 1 8 Tryz.underlying127 hi hz0 hz1 hz2 rfl (by decide) _ _ _ rfl (ho.alloc _) ⟨wr.heap.size, 0, none⟩ 1 1 [.int .i64 m] rfl rfl ?c1 ?c2 HM.out HB.out ?c5 ?_)
        case c1 => exact cell_one_new _ _ _
        case c2 => intro u hu; simp at hu; subst hu; rfl
        case c5 => simp; omega
        intro s' w2 hown2 hg2 _
        have hb2 : Below w.heap.size w w2 := (hb.alloc hsz _).grown hg2 (by simp; omega) (fun j hj => (ho.lt j hj).1)
        have ho2 : ownsInts w2 w.heap.size s' (l ++ [(m : Int)]) := by
          unfold ownsInts; rw [List.length_append, List.map_append]; exact hown2
        clear hown2 hg2 ho hb
        go_wp2
        go_roundw
        case rel => exact ⟨m - m, l ++ [(m : Int)], by omega, HL.out, by go_num, ho2, hb2⟩
        case measure => simp [intOf]; omega
    · obtain rfl : m = 0 := by omega
      rw [ch_zero, List.append_nil] at hl
      rw [hl] at ho
      clear hl
      go_wp2
      go_ret
      exact ⟨_, rfl, ho, hb⟩

set_option maxRecDepth 100000 in
theorem chunks_out (n : Int) (hn : n < 1 ∨ 131072 < n) (w : World) :
    Calls Tryz.prog 78 #[.int .i64 n] w fun e w' => e = .returned (.slice none 0 0) ∧ w = w' := by
  rcases hn with hn | hn
  · go_enter Tryz.func78, Tryz.ntmps78
    go_wp2
    go_ret
    exact ⟨rfl, rfl⟩
  · go_enter Tryz.func78, Tryz.ntmps78
    go_wp2
    go_ret
    exact ⟨rfl, rfl⟩

set_option maxRecDepth 100000 in
theorem rchunks_in (n : Nat) (h1 : 1 ≤ n) (h2 : n ≤ 131072) (w : World) :
    Calls Tryz.prog 74 #[.int .i64 n] w fun e w' => ∃ s, e = .returned s ∧ ownsInts w' w.heap.size s (ch n) ∧ Below w.heap.size w w' := by
  obtain ⟨i0, hi, hz0, hz1, hz2⟩ := info_parts Tryz.infoInt
  go_enter Tryz.func74, Tryz.ntmps74
  go_wp2
  go_loopw [0, 3] (fun x s wr => ∃ (m : Nat) (l : List Int), 1 ≤ m ∧ m ≤ n ∧ l ++ ch m = ch n ∧ x = .int .i64 m ∧ ownsInts wr w.heap.size s l ∧ Below w.heap.size w wr) (fun x _ _ => (intOf x).toNat)
  case atStart => exact ⟨n, [], by omega, by omega, rfl, rfl, World.ownsRow_nil _ _ _ _, Below.refl _ _⟩
  case round =>
    obtain ⟨m, l, hm1, hm, hl, rfl, ho, hb⟩ := hrel
    have hlen : l.length + (ch m).length ≤ n := by
      have := ch_len n; rw [← hl, List.length_append] at this; exact this
    have hsz := hb.size
    have hst := ch_step m hm1
    have hlen2 : l.length + 1 ≤ n := by rw [hst] at hlen; simp at hlen; omega
    have hmx : l.length + 1 ≤ maxLen := by unfold maxLen; omega
    have hby : (l.length + 1) * 8 ≤ 140737488355328 := by omega
    have hl2 : (l ++ [((min m 8 : Nat) : Int)]) ++ ch (m - min m 8) = ch n := by rw [← hl, hst]; simp
    have HM := Lib.hid hmx
    have HB := Lib.hid hby
    clear hmx hby hl hst hlen
    unfold ownsInts at ho
    by_cases h8 : 8 < m
    · rw [show min m 8 = 8 by omega] at hl2
      have HL := Lib.hid hl2
      clear hl2
      go_wp2_with (at_builtin; refine wpList_append_own _ rfl _ _ 127 rfl w.heap.size 3 i0 (.int .i64 0) 1 8 Tryz.underlying127 hi hz0 hz1 hz2 rfl (by decide) _ _ _ rfl (ho.alloc _) ⟨wr.heap.size, 0, none⟩ 1 1 [.int .i64 8] rfl rfl ?c1 ?c2 HM.out HB.out ?c5 ?_)
      case c1 => exact cell_one_new _ _ _
      case c2 => intro u hu; simp at hu; subst hu; rfl
      case c5 => simp; omega
      intro s' w2 hown2 hg2 _
      have hb2 : Below w.heap.size w w2 := (hb.alloc hsz _).grown hg2 (by simp; omega) (fun j hj => (ho.lt j hj).1)
      have ho2 : ownsInts w2 w.heap.size s' (l ++ [8]) := by
        unfold ownsInts; rw [List.length_append, List.map_append]; exact hown2
      clear hown2 hg2 ho hb
      go_wp2
      go_roundw
      case rel => exact ⟨m - 8, l ++ [8], by omega, by omega, HL.out, by go_num, ho2, hb2⟩
      case measure => simp [intOf]; omega
    · rw [show min m 8 = m by omega, Nat.sub_self, ch_zero, List.append_nil] at hl2
      have HL := Lib.hid hl2
      clear hl2
      go_wp2_with (at_builtin; refine wpList_append_own _ rfl _ _ 127 rfl w.heap.size 3 i0 (.int .i64 0) 1 8 Tryz.underlying127 hi hz0 hz1 hz2 rfl (by decide) _ _ _ rfl (ho.alloc _) ⟨wr.heap.size, 0, none⟩ 1 1 [.int .i64 m] rfl rfl ?c1 ?c2 HM.out HB.out ?c5 ?_)
      case c1 => exact cell_one_new _ _ _
      case c2 => intro u hu; simp at hu; subst hu; rfl
      case c5 => simp; omega
      intro s' w2 hown2 hg2 _
      have hb2 : Below w.heap.size w w2 := (hb.alloc hsz _).grown hg2 (by simp; omega) (fun j hj => (ho.lt j hj).1)
      have ho2 : ownsInts w2 w.heap.size s' (ch n) := by
        rw [← HL.out]; unfold ownsInts; rw [List.length_append, List.map_append]; exact hown2
      clear hown2 hg2 ho hb
      go_wp2
      go_ret
      exact ⟨_, rfl, ho2, hb2⟩

set_option maxRecDepth 100000 in
theorem rchunks_out (n : Int) (hn : n < 1 ∨ 131072 < n) (w : World) :
    Calls Tryz.prog 74 #[.int .i64 n] w fun e w' => e = .returned (.slice none 0 0) ∧ w = w' := by
  rcases hn with hn | hn
  · go_enter Tryz.func74, Tryz.ntmps74
    go_wp2
    go_loop [0, 3] (fun x s => x = .int .i64 n ∧ s = .slice none 0 0) (fun _ _ => 0)
    case atStart => exact ⟨rfl, rfl⟩
    case round =>
      obtain ⟨rfl, rfl⟩ := hrel
      go_wp2
      go_ret
      exact ⟨rfl, rfl⟩
  · go_enter Tryz.func74, Tryz.ntmps74
    go_wp2
    go_ret
    exact ⟨rfl, rfl⟩

/-- The cells of a row that isn't empty. -/
def RowAt (w : World) (g : Nat) (l : List Int) : Prop := g < w.heap.size ∧ ∀ i, i < l.length → w.cell? ⟨g, i, none⟩ = some (.int .i64 (l.getD i 0))
set_option maxRecDepth 100000 in
theorem RowAt.kept {w w' : World} {B g : Nat} {l : List Int} (h : RowAt w g l) (hb : Below B w w') (hB : g < B) : RowAt w' g l :=
  ⟨Nat.lt_of_lt_of_le h.1 hb.size, fun i hi => by rw [hb.cell (p := ⟨g, i, none⟩) hB]; exact h.2 i hi⟩
set_option maxRecDepth 100000 in
theorem RowAt.drewN {w : World} {g : Nat} {l : List Int} (h : RowAt w g l) (n : Nat) : RowAt (w.drewN n) g l := ⟨h.1, h.2⟩
set_option maxRecDepth 100000 in
theorem rowAt_of {w : World} {base : Nat} {s : Value} {l : List Int} (h : ownsInts w base s l) (hl : l ≠ []) : ∃ g cap, s = .slice (some ⟨g, 0, none⟩) l.length cap ∧ base ≤ g ∧ RowAt w g l := by
  rcases h.2 with ⟨hv, hn⟩ | ⟨g, cap, cur, hv, hb, hg, hnc, hcm, hcs, htk⟩
  · exact absurd (List.eq_nil_of_length_eq_zero hn) hl
  · refine ⟨g, cap, hv, hb, (Array.getElem?_eq_some_iff.1 hg).1, fun i hi => ?_⟩
    subst hv
    rw [World.ownsRow.cellAt h i (by omega)]
    simp [List.getD_eq_getElem?_getD, hi]

set_option maxRecDepth 100000 in
theorem chunks_at (n : Nat) (h1 : 1 ≤ n) (h2 : n ≤ 131072) (w : World) :
    Calls Tryz.prog 78 #[.int .i64 n] w fun e w' => ∃ g cap, e = .returned (.slice (some ⟨g, 0, none⟩) (ch n).length cap) ∧ w.heap.size ≤ g ∧ RowAt w' g (ch n) ∧ Below w.heap.size w w' := by
  refine (chunks_in n h1 h2 w).mono ?_
  rintro e w' ⟨s, rfl, ho, hb⟩
  obtain ⟨g, cap, rfl, hg, hr⟩ := rowAt_of ho (by rw [ch_step n h1]; simp)
  exact ⟨g, cap, rfl, hg, hr, hb⟩
set_option maxRecDepth 100000 in
theorem rchunks_at (n : Nat) (h1 : 1 ≤ n) (h2 : n ≤ 131072) (w : World) :
    Calls Tryz.prog 74 #[.int .i64 n] w fun e w' => ∃ g cap, e = .returned (.slice (some ⟨g, 0, none⟩) (ch n).length cap) ∧ w.heap.size ≤ g ∧ RowAt w' g (ch n) ∧ Below w.heap.size w w' := by
  refine (rchunks_in n h1 h2 w).mono ?_
  rintro e w' ⟨s, rfl, ho, hb⟩
  obtain ⟨g, cap, rfl, hg, hr⟩ := rowAt_of ho (by rw [ch_step n h1]; simp)
  exact ⟨g, cap, rfl, hg, hr, hb⟩

end Go.Proofs.YtkmiijmoejcjgaaGreat
