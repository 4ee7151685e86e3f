/- Rows of integers that are written in place; contracts: Clone, Reverse. -/
import Derived.Test.YtfahnjicinpahaaProg
import Derived.Test.YtfahnjicinpahaaKit
import Derived.Test.YtfahnjicinpahaaKept
import Derived.Lib.Hide
import Derived.OwnWalk
import Derived.WalkSmall
import Derived.Maps.AppendAt
import Derived.BigRegion
import Derived.Deep.Upon
namespace Go.Proofs.Ytfahnjicinpahaa
open Go.RowKit
set_option linter.unusedVariables false

theorem Try.infoInt : (Try.prog.info? 3).map (fun i => (i.zero, i.size, i.bytes)) = some (some (.int .i64 0), 1, 8) := by kernel_rfl

/-- A block that holds integers, and may be written. -/
def RowG (w : World) (g : Nat) (L : List Int) : Prop := ∃ cs : Array Value, w.heap[g]? = some (.cells cs 3 (0, 0)) ∧ L.length ≤ cs.size ∧ ∀ i, i < L.length → cs[i]? = some (.int .i64 (L.getD i 0))
theorem RowG.lt {w : World} {g : Nat} {L : List Int} (h : RowG w g L) : g < w.heap.size := by
  obtain ⟨cs, h, _⟩ := h
  exact (Array.getElem?_eq_some_iff.1 h).1
theorem RowG.cell {w : World} {g : Nat} {L : List Int} (h : RowG w g L) {i : Nat} (hi : i < L.length) : w.cell? ⟨g, i, none⟩ = some (.int .i64 (L.getD i 0)) := by
  obtain ⟨cs, h, _, hc⟩ := h
  simp [World.cell?, h, hc i hi]
theorem RowG.frozen {w : World} {g : Nat} {L : List Int} (h : RowG w g L) (i : Nat) : w.frozen? ⟨g, i, none⟩ = false := by
  obtain ⟨cs, h, _, hc⟩ := h
  simp [World.frozen?, h]
theorem getD_set (L : List Int) (a t : Nat) (v : Int) (ha : a < L.length) : (L.set a v).getD t 0 = if t = a then v else L.getD t 0 := by
  rw [List.getD_eq_getElem?_getD, List.getElem?_set]
  by_cases h : a = t
  · subst h; simp [ha]
  · simp [h, Ne.symm h, List.getD_eq_getElem?_getD]
theorem RowG.set {w : World} {g : Nat} {L : List Int} (h : RowG w g L) {a : Nat} (ha : a < L.length) (v : Int) : RowG (w.setCell ⟨g, a, none⟩ (.int .i64 v)) g (L.set a v) := by
  obtain ⟨cs, h, hs, hc⟩ := h
  refine ⟨cs.setIfInBounds a (.int .i64 v), by simp [World.setCell, Array.getElem?_modify, h], by simpa using hs, fun i hi => ?_⟩
  have hi' : i < L.length := by simpa using hi
  rw [getD_set _ _ _ _ ha, Array.getElem?_setIfInBounds]
  by_cases e : a = i
  · subst e; simp; try omega
  · rw [if_neg e, if_neg (Ne.symm e)]; exact hc i hi'
theorem RowG.drewN {w : World} {g : Nat} {L : List Int} (h : RowG w g L) (n : Nat) : RowG (w.drewN n) g L := h
theorem RowG.drew {w : World} {g : Nat} {L : List Int} (h : RowG w g L) : RowG w.drew g L := h
theorem RowG.kept {S : Nat → Prop} {w w' : World} {g : Nat} {L : List Int} (h : RowG w g L) (k : Kept S w w') (hg : ¬ S g) : RowG w' g L := by
  have := h.lt
  obtain ⟨cs, h, r⟩ := h
  exact ⟨cs, (k.block g this hg).trans h, r⟩

theorem rowG_of_own {w : World} {base : Nat} {s : Value} {L : List Int} (h : w.ownsRow base 3 1 s L.length (L.map (Value.int .i64))) (hn : 0 < L.length) : ∃ g cap, s = .slice (some ⟨g, 0, none⟩) L.length cap ∧ L.length ≤ cap ∧ base ≤ g ∧ RowG w g L := by
  rcases h.2 with ⟨hv, h0⟩ | ⟨g, cap, cur, hv, hb, hg, hnc, hcm, hcs, htk⟩
  · omega
  · refine ⟨g, cap, hv, hnc, hb, cur, hg, by omega, fun i hi => ?_⟩
    subst hv
    have := World.ownsRow.cellAt h i (by omega)
    have hcell : w.cell? ⟨g, i, none⟩ = cur[i]? := by simp [World.cell?, hg]
    rw [← hcell, this]
    simp [List.getD_eq_getElem?_getD, hi]

set_option maxRecDepth 100000 in
theorem clone_any (w : World) (a : Option Addr) (cap : Nat) (L : List Int) (hs : Ints .i64 w (.slice a L.length cap) L) (hn : 0 < L.length) (hlen : L.length ≤ 60) :
    Calls Try.prog 43 #[.slice a L.length cap] w fun e w' => ∃ g cap', e = .returned (.slice (some ⟨g, 0, none⟩) L.length cap') ∧ L.length ≤ cap' ∧ w.heap.size ≤ g ∧ RowG w' g L ∧ Below w.heap.size w w' := by
  obtain ⟨i0, hi, hz0, hz1, hz2⟩ := info_parts Try.infoInt
  obtain ⟨a', cap', h1, hl⟩ := hs
  cases h1
  obtain ⟨b, off, rfl, hc⟩ : ∃ b off, a = some ⟨b, off, none⟩ ∧ ∀ i, i < L.length → w.cell? ⟨b, off + i, none⟩ = some (.int .i64 (L.getD i 0)) := by
    rcases hl with hl | h
    · subst hl; simp at hn
    · exact h
  have hblt : b < w.heap.size := World.block_lt_of_cell? w _ (hc 0 hn)
  have hnews : Hid (∀ W : World, Below w.heap.size w W → ∀ j u, (L.map (Value.int .i64))[j]? = some u → W.cell? ((⟨b, off, none⟩ : Addr).add j) = some u) := Lib.hid fun W hb j u hj => by
    have hjl : j < L.length := by have := (List.getElem?_eq_some_iff.1 hj).1; simpa using this
    have hadd : (⟨b, off, none⟩ : Addr).add j = ⟨b, off + j, none⟩ := by unfold Addr.add; split <;> simp_all
    rw [hadd, hb.cell (p := ⟨b, off + j, none⟩) hblt, hc j hjl, ← hj]
    simp [List.getD_eq_getElem?_getD, hjl]
  have hone : Hid (∀ u ∈ L.map (Value.int .i64), u.oneCell' = true) := Lib.hid fun u hu => by obtain ⟨x, _, rfl⟩ := List.mem_map.1 hu; rfl
  have HM := Lib.hid (show 0 + L.length ≤ maxLen by unfold maxLen; omega)
  clear hc hl
  have hcmp : ∀ w, Sem.run Try.prog (binOp .eql 43 (Value.slice (some ⟨b, off, none⟩) L.length cap) (Value.slice none 0 0)) w = .ok (.bool false) w := fun _ => by kernel_rfl
  go_enter Try.func43, Try.ntmps43
  go_wp2_with (at_builtin; refine wpList_append_grows _ rfl (.tmp 5) (.tmp 6) 43 rfl 3 i0 (.int .i64 0) 1 8 Try.underlying43 hi hz0 hz1 hz2 rfl (by decide) _ 0 0 [] (by rfl) (by simp) (by simp) (fun _ _ j u h => by simp at h) ⟨b, off, none⟩ L.length cap (L.map (Value.int .i64)) (by rfl) (by simp) (hnews.out _ (by repeat (first | exact Below.refl _ _ | refine Below.alloc ?_ (by simp) _ | refine Below.drew ?_))) hone.out (by omega) HM.out (by omega) ?_)
  intro s3 w3 ho3 hg3
  have hb3 : Below w.heap.size w w3 := Below.trans (by repeat (first | exact Below.refl _ _ | refine Below.alloc ?_ (by simp) _ | refine Below.drew ?_)) (((Below.refl _ _).grown hg3 (Nat.le_refl _) (by simp)).mono (by simp))
  obtain ⟨g, c3, rfl, hgc, hge, hrow⟩ := rowG_of_own (L := L) ho3 hn
  have hge2 : w.heap.size ≤ g := by first | omega | (simp at hge; omega)
  have HR := Lib.hid hrow
  clear ho3 hg3 hrow hge
  go_wp2
  go_ret
  exact ⟨g, c3, rfl, hgc, hge2, HR.out, hb3⟩

/-- How far Reverse has come: k pairs are swapped. -/
def revAt (X : List Int) (off n k t : Nat) : Int := if t < off then X.getD t 0 else if t < off + n ∧ (t < off + k ∨ off + n ≤ t + k) then X.getD (off + (off + n - 1 - t)) 0 else X.getD t 0

theorem revAt_zero (X : List Int) (off n : Nat) : ∀ t, t < X.length → X.getD t 0 = revAt X off n 0 t := fun t ht => by
  unfold revAt
  by_cases h1 : t < off
  · rw [if_pos h1]
  · rw [if_neg h1, if_neg (by omega)]
theorem revAt_step {X Y : List Int} {off n k : Nat} (hY : ∀ t, t < X.length → Y.getD t 0 = revAt X off n k t) (hl : Y.length = X.length) (hn : off + n ≤ X.length) (hk : 2 * k + 1 < n) : ∀ t, t < X.length →
    ((Y.set (off + k) (Y.getD (off + (n - 1 - k)) 0)).set (off + (n - 1 - k)) (Y.getD (off + k) 0)).getD t 0 = revAt X off n (k + 1) t := fun t ht => by
  rw [getD_set _ _ _ _ (by simp; omega), getD_set _ _ _ _ (by omega), hY _ (by omega), hY _ (by omega), hY t ht]
  unfold revAt
  by_cases e1 : t = off + (n - 1 - k)
  · rw [if_pos e1, if_neg (show ¬ off + k < off by omega), if_neg (show ¬ (off + k < off + n ∧ (off + k < off + k ∨ off + n ≤ off + k + k)) by omega), if_neg (show ¬ t < off by omega), if_pos (by omega)]
    congr 1; omega
  · rw [if_neg e1]
    by_cases e2 : t = off + k
    · rw [if_pos e2, if_neg (show ¬ off + (n - 1 - k) < off by omega), if_neg (show ¬ (off + (n - 1 - k) < off + n ∧ (off + (n - 1 - k) < off + k ∨ off + n ≤ off + (n - 1 - k) + k)) by omega), if_neg (show ¬ t < off by omega), if_pos (by omega)]
      congr 1; omega
    · rw [if_neg e2]
      by_cases e3 : t < off
      · rw [if_pos e3, if_pos e3]
      · rw [if_neg e3, if_neg e3]
        by_cases e4 : t < off + n ∧ (t < off + k ∨ off + n ≤ t + k)
        · rw [if_pos e4, if_pos (by omega)]
        · rw [if_neg e4, if_neg (by omega)]
theorem revAt_end {X Y : List Int} {off n k : Nat} (hY : ∀ t, t < X.length → Y.getD t 0 = revAt X off n k t) (hn : off + n ≤ X.length) (hk : n ≤ 2 * k + 1) : ∀ t, t < X.length →
    Y.getD t 0 = (if t < off then X.getD t 0 else if t < off + n then X.getD (off + (off + n - 1 - t)) 0 else X.getD t 0) := fun t ht => by
  rw [hY t ht]
  unfold revAt
  by_cases e3 : t < off
  · rw [if_pos e3, if_pos e3]
  · rw [if_neg e3, if_neg e3]
    by_cases e4 : t < off + n
    · rw [if_pos e4]
      by_cases e5 : t < off + k ∨ off + n ≤ t + k
      · rw [if_pos ⟨e4, e5⟩]
      · rw [if_neg (by omega)]
        congr 1; omega
    · rw [if_neg e4, if_neg (by omega)]

set_option maxRecDepth 100000 in
set_option maxHeartbeats 1000000 in
theorem reverse_any (w : World) (g off n cap : Nat) (X : List Int) (hr : RowG w g X) (hn : off + n ≤ X.length) (hcap : n ≤ cap) (hlen : X.length ≤ 60) :
    Calls Try.prog 44 #[.slice (some ⟨g, off, none⟩) n cap] w fun e w' => e = .returned (.tuple #[]) ∧ Kept (fun k => k = g) w w' ∧ ∃ Y : List Int, Y.length = X.length ∧ RowG w' g Y ∧ ∀ t, t < X.length → Y.getD t 0 = (if t < off then X.getD t 0 else if t < off + n then X.getD (off + (off + n - 1 - t)) 0 else X.getD t 0) := by
  have HR0 := Lib.hid hr
  clear hr
  go_enter Try.func44, Try.ntmps44
  go_wp2
  go_loopw [2, 3] (fun i j wr => ∃ (k : Nat) (Y : List Int), 2 * k ≤ n + 1 ∧ i = .int .i64 k ∧ j = .int .i64 ((n : Int) - 1 - k) ∧ Hid (RowG wr g Y) ∧ Hid (Kept (fun k => k = g) w wr) ∧ Y.length = X.length ∧ Hid (∀ t, t < X.length → Y.getD t 0 = revAt X off n k t)) (fun i _ _ => n - (intOf i).toNat)
  case atStart => exact ⟨0, X, by omega, rfl, by simp, HR0, Lib.hid (Kept.refl _ _), rfl, Lib.hid (revAt_zero X off n)⟩
  case round =>
    clear HR0
    obtain ⟨k, Y, hk, rfl, rfl, HR, HK, hYl, HY⟩ := hrel
    by_cases hlt : 2 * k + 1 < n
    · have c1 := HR.out.cell (i := off + k) (by omega)
      have c2 := HR.out.cell (i := off + (n - 1 - k)) (by omega)
      have f1 := HR.out.frozen (off + k)
      have f2 := HR.out.frozen (off + (n - 1 - k))
      have y1 := HY.out (off + k) (by omega)
      have y2 := HY.out (off + (n - 1 - k)) (by omega)
      have hne : off + k ≠ off + (n - 1 - k) := by omega
      have HRN : Hid (RowG ((wr.setCell ⟨g, off + k, none⟩ (.int .i64 (Y.getD (off + (n - 1 - k)) 0))).setCell ⟨g, off + (n - 1 - k), none⟩ (.int .i64 (Y.getD (off + k) 0))) g ((Y.set (off + k) (Y.getD (off + (n - 1 - k)) 0)).set (off + (n - 1 - k)) (Y.getD (off + k) 0))) :=
        Lib.hid ((HR.out.set (a := off + k) (by omega) _).set (by simp; omega) _)
      have HKN : Hid (∀ m, Kept (fun k => k = g) w (((wr.setCell ⟨g, off + k, none⟩ (.int .i64 (Y.getD (off + (n - 1 - k)) 0))).setCell ⟨g, off + (n - 1 - k), none⟩ (.int .i64 (Y.getD (off + k) 0))).drewN m)) := Lib.hid fun m => ((HK.out.setCell (p := ⟨g, off + k, none⟩) rfl _).setCell (p := ⟨g, off + (n - 1 - k), none⟩) rfl _).drewN m
      have HYN : Hid (∀ t, t < X.length → ((Y.set (off + k) (Y.getD (off + (n - 1 - k)) 0)).set (off + (n - 1 - k)) (Y.getD (off + k) 0)).getD t 0 = revAt X off n (k + 1) t) := Lib.hid (revAt_step HY.out hYl hn hlt)
      generalize hv1 : Y.getD (off + k) 0 = v1 at *
      generalize hv2 : Y.getD (off + (n - 1 - k)) 0 = v2 at *
      rw [show off + (n - 1 - k) = off + (n - 1 - k) from rfl] at c2
      obtain ⟨m, hm⟩ : ∃ m, m = n - 1 - k := ⟨_, rfl⟩
      rw [← hm] at c2 f2 hne HRN HKN HYN
      rw [show (n : Int) - 1 - k = (m : Int) by omega]
      have hmn : m < n := by omega
      have hkm : k < m := by omega
      have hkn : k < n := by omega
      have HM := Lib.hid hm
      clear y1 y2 hv1 hv2 hm
      go_wp2
      go_region
      go_wp2
      go_roundw
      case rel => exact ⟨k + 1, _, by omega, by go_num, by have h := HM.out; congr 1; omega, Lib.hid (HRN.out.drew), HKN.out 1, by simp [hYl], HYN⟩
      case measure => simp [intOf]; omega
    · have HE := Lib.hid (revAt_end HY.out hn (by omega))
      clear HY
      go_wp2
      go_end0
      exact ⟨rfl, HK.out, Y, hYl, HR.out, HE.out⟩

end Go.Proofs.Ytfahnjicinpahaa
