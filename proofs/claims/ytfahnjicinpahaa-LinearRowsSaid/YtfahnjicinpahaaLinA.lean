/- Contracts: linear.isRow. -/
import Derived.Test.YtfahnjicinpahaaProg
import Derived.Test.YtfahnjicinpahaaKit
import Derived.Lib.Hide
import Derived.OwnWalk
import Derived.WalkSmall
namespace Go.Proofs.Ytfahnjicinpahaa
open Go.RowKit
set_option linter.unusedVariables false

theorem Try.infoBool : (Try.prog.info? 4).map (fun i => (i.zero, i.size, i.bytes)) = some (some (.bool false), 1, 1) := by kernel_rfl

/-- Which numbers below n stand in a list. -/
def marks (n : Nat) (l : List Int) : Array Value := ((List.range n).map fun (j : Nat) => Value.bool (l.contains (j : Int))).toArray
theorem marks_at (n : Nat) (l : List Int) (x : Nat) (h : x < n) : (marks n l)[x]? = some (.bool (l.contains (x : Int))) := by simp [marks, h]
theorem marks_set (n : Nat) (l : List Int) (x : Nat) (h : x < n) : (marks n l).setIfInBounds x (.bool true) = marks n (l ++ [(x : Int)]) := by
  apply Array.ext
  · simp [marks]
  · intro i h1 h2
    have hi : i < n := by simpa [marks] using h2
    rw [Array.getElem_setIfInBounds (by simpa [marks] using hi)]
    by_cases e : x = i
    · subst e; simp [marks]
    · have : ¬ (i : Int) = (x : Int) := by omega
      simp [marks, e, this]
theorem marks_nil (n : Nat) : madeCells #[Value.bool false] n = marks n [] := by
  apply Array.ext'
  rw [toList_madeCells_one]
  simp [marks]
  apply List.ext_getElem <;> simp

/-- May these stand in a row of n, one behind the other? -/
def rowOk (n : Nat) (l : List Int) : Prop := l.Nodup ∧ ∀ x ∈ l, 0 ≤ x ∧ x < n

set_option maxRecDepth 100000 in
theorem isRow_any (w : World) (n : Nat) (s : Value) (zs : List Int) (hs : Ints .i64 w s zs) (hz : ∀ x ∈ zs, (Lit.int .i64 x).wf = true) (hn : n ≤ 60) (hlen : zs.length ≤ 60) [Decidable (rowOk n zs)] :
    Calls Try.prog 36 #[.int .i64 n, s] w fun e w' => e = .returned (.bool (decide (zs.length = n ∧ rowOk n zs))) ∧ Below w.heap.size w w' := by
  obtain ⟨i0, hi, hz0, hz1, hz2⟩ := info_parts Try.infoBool
  obtain ⟨a, cap, rfl, hl⟩ := hs
  by_cases hne : zs.length = n
  · subst hne
    have HM := Lib.hid (show zs.length ≤ maxLen by unfold maxLen; omega)
    have HB := Lib.hid (show i0.bytes * zs.length ≤ 281474976710656 by rw [hz2]; omega)
    go_enter Try.func36, Try.ntmps36
    go_wp2_with (at_make; refine wpList_make_full _ rfl _ _ 83 rfl w.heap.size 4 i0 (.bool false) 1 Try.underlying83 hi hz0 hz1 .i64 .i64 _ _ zs.length rfl rfl rfl rfl HB.out HM.out (Nat.le_refl _) ?_)
    intro w1 hown1 hg1
    have hb1 : Below w.heap.size w w1 := (Below.refl _ _).grown hg1 (Nat.le_refl _) (by simp)
    have hsz1 := hb1.size
    by_cases h0 : zs.length = 0
    · obtain rfl : zs = [] := List.eq_nil_of_length_eq_zero h0
      clear hown1 hg1
      go_wp2
      go_loopw [16] (fun c wr => c = .int .i64 0 ∧ wr = w1) (fun c _ => 0)
      case atStart => exact ⟨rfl, rfl⟩
      case round =>
        obtain ⟨rfl, rfl⟩ := hrel
        go_wp2
        go_ret
        exact ⟨by simp [rowOk], hb1⟩
    have hrow : w1.heap[w.heap.size]? = some (.cells (marks zs.length []) 4 (0, 0)) := by
      rcases hown1.2 with ⟨hv, _⟩ | ⟨g, cap, cur, hv, _, hgg, _, _, hcs, htk⟩
      · simp at hv
      · simp only [Value.slice.injEq, Option.some.injEq, Addr.mk.injEq, and_true, true_and] at hv
        obtain ⟨rfl, rfl⟩ := hv
        rw [hgg]
        congr 2
        rw [← marks_nil]
        apply Array.ext'
        have : cur.toList.take (zs.length * 1) = cur.toList := List.take_of_length_le (by simp [hcs])
        rw [← this, htk]
        try simp
    obtain ⟨b, off, rfl, hc⟩ : ∃ b off, a = some ⟨b, off, none⟩ ∧ ∀ i, i < zs.length → w.cell? ⟨b, off + i, none⟩ = some (.int .i64 (zs.getD i 0)) := by
      rcases hl with hl | h
      · subst hl; simp at h0
      · exact h
    have hblt : b < w.heap.size := World.block_lt_of_cell? w _ (hc 0 (by omega))
    clear hown1 hg1 hl hi hz0 hz1 hz2
    go_wp2
    go_loopw [16] (fun c wr => ∃ k : Nat, k ≤ zs.length ∧ c = .int .i64 k ∧ rowOk zs.length (zs.take k) ∧ wr.heap[w.heap.size]? = some (.cells (marks zs.length (zs.take k)) 4 (0, 0)) ∧ Below w.heap.size w wr) (fun c _ => zs.length - (intOf c).toNat)
    case atStart => exact ⟨0, by omega, rfl, by simp [rowOk], by simpa using hrow, hb1⟩
    case round =>
      obtain ⟨k, hk, rfl, hok, hrow, hb⟩ := hrel
      by_cases hlt : k < zs.length
      · have hx := hc k hlt
        rw [← hb.cell (p := ⟨b, off + k, none⟩) hblt] at hx
        have hxw := hz (zs.getD k 0) (by simp [List.getD_eq_getElem?_getD, hlt])
        obtain ⟨x0, x1⟩ := range_i64 hxw
        have htk : zs.take (k + 1) = zs.take k ++ [zs.getD k 0] := by rw [List.take_succ_eq_append_getElem hlt]; simp [List.getD_eq_getElem?_getD, hlt]
        have hin : zs.getD k 0 ∈ zs := by simp [List.getD_eq_getElem?_getD, hlt]
        have hbad : ¬ rowOk zs.length (zs.take (k + 1)) → ¬ rowOk zs.length zs := fun h1 h2 => h1 ⟨h2.1.sublist (List.take_sublist _ _), fun x hx => h2.2 x (List.mem_of_mem_take hx)⟩
        generalize zs.getD k 0 = x at *
        have hsp : w.heap.size < wr.heap.size := (Array.getElem?_eq_some_iff.1 hrow).1
        have HRW := Lib.hid hrow
        by_cases hneg : x < 0
        · have hnot : ¬ rowOk zs.length zs := hbad (by rw [htk]; intro h; have := h.2 x (by simp); omega)
          have HNOT := Lib.hid hnot
          clear hbad hok htk hrow hnot hin
          go_wp2
          go_ret
          exact ⟨by simp [HNOT.out], hb⟩
        · by_cases hge : (zs.length : Int) ≤ x
          · have hnot : ¬ rowOk zs.length zs := hbad (by rw [htk]; intro h; have := h.2 x (by simp); omega)
            have HNOT := Lib.hid hnot
            clear hbad hok htk hrow hnot hin
            go_wp2
            go_ret
            exact ⟨by simp [HNOT.out], hb⟩
          · obtain ⟨j, rfl⟩ := Int.eq_ofNat_of_zero_le (show 0 ≤ x by omega)
            have hj : j < zs.length := by omega
            have hcell : wr.cell? ⟨w.heap.size, j, none⟩ = some (.bool ((zs.take k).contains (j : Int))) := by
              simp [World.cell?, hrow, marks_at _ _ _ hj]
            have hfz : wr.frozen? ⟨w.heap.size, j, none⟩ = false := by
              simp [World.frozen?, hrow]
            cases hct : (zs.take k).contains (j : Int) with
            | true =>
              rw [hct] at hcell
              have hnot : ¬ rowOk zs.length zs := hbad (by rw [htk]; intro h; have := List.nodup_append.1 h.1; exact this.2.2 (j : Int) (by simpa using hct) (j : Int) (by simp) rfl)
              have HNOT := Lib.hid hnot
              clear hbad hok htk hrow hnot hin
              go_wp2
              go_ret
              exact ⟨by simp [HNOT.out], hb⟩
            | false =>
              rw [hct] at hcell
              have hok2 : rowOk zs.length (zs.take (k + 1)) := by
                rw [htk]
                refine ⟨List.nodup_append.2 ⟨hok.1, by simp, fun a ha b hb e => ?_⟩, fun y hy => ?_⟩
                · simp at hb; subst hb; subst e; rw [List.contains_eq_mem] at hct; simp at hct; exact hct ha
                · rcases List.mem_append.1 hy with h | h
                  · exact hok.2 y h
                  · simp at h; omega
              have hrow2 : (wr.setCell ⟨w.heap.size, j, none⟩ (.bool true)).heap[w.heap.size]? = some (.cells (marks zs.length (zs.take (k + 1))) 4 (0, 0)) := by
                rw [htk, ← marks_set _ _ _ hj]
                simp [World.setCell, Array.getElem?_modify, hrow]
              have hb2 : Below w.heap.size w (wr.setCell ⟨w.heap.size, j, none⟩ (.bool true)) := hb.setCell (by simp) _
              have H2 := Lib.hid (And.intro hok2 (And.intro hrow2 hb2))
              clear hbad hok htk hrow hin hok2 hrow2 hb2 hct
              go_wp2
              go_roundw
              case rel => exact ⟨k + 1, by omega, by go_num, H2.out⟩
              case measure => simp [intOf]; omega
      · obtain rfl : k = zs.length := by omega
        rw [List.take_length] at hok
        have HOK := Lib.hid hok
        clear hok hrow
        go_wp2
        go_ret
        exact ⟨by simp [HOK.out], hb⟩
  · have hd : ((zs.length : Int) != (n : Int)) = true := by simp; omega
    have hd2 : ¬ ((zs.length : Int) = (n : Int)) := by omega
    go_enter Try.func36, Try.ntmps36
    go_wp2
    go_ret
    exact ⟨by simp [hne], Below.refl _ _⟩

end Go.Proofs.Ytfahnjicinpahaa
