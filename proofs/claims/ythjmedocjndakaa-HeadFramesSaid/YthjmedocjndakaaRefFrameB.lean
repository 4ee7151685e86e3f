/- The bytes of a frame's header, by the document. -/
import Derived.Test.YthjmedocjndakaaRefFrame
import Derived.Deep.RegionHeldLaw
import Derived.Deep.AppendLies
import Derived.Deep.Onto
import Derived.Maps.AppendAt
import Derived.Deep.RegionWith
import Derived.Deep.DeepCutAuto
namespace Go.Proofs.Ythjmedocjndakaa
open Go.RowKit
set_option linter.unusedVariables false

theorem rbytes3_own (v n : Int) (L : List Int) (k : Nat) (hL : byteL (v % 18446744073709551616) n = L) (hk : L.length = k) (h0 : 0 < k) (B0 : Nat) (W : World) (hB : B0 ≤ W.heap.size) :
    Calls Try.prog 44 #[.int .i64 v, .int .i64 n] W fun e w' => ∃ g cap, e = .returned (.slice (some ⟨g, 0, none⟩) k cap) ∧ W.heap.size ≤ g ∧ Hid (∀ j u, (L.map (Value.int .u8))[j]? = some u → w'.cell? ((⟨g, 0, none⟩ : Addr).add j) = some u) ∧ Hid (w'.ownsRow B0 5 1 (.slice (some ⟨g, 0, none⟩) k cap) k (L.map (Value.int .u8))) ∧ Hid (Below W.heap.size W w') := by
  refine (rbytes3_any v n W).mono ?_
  rintro e w' ⟨s, rfl, ho, hb⟩
  unfold ownsBytes at ho
  rw [hL] at ho
  obtain ⟨g, cap, rfl, hg, _, _, _, hc⟩ := owns_open ho (by intro h; rw [h] at hk; simp at hk; omega)
  subst hk
  refine ⟨g, cap, rfl, hg, Lib.hid ?_, Lib.hid (ho.mono hB), Lib.hid hb⟩
  intro j u hu
  have hj : j < L.length := by have := (List.getElem?_eq_some_iff.1 hu).1; simpa using this
  have hadd : (⟨g, 0, none⟩ : Addr).add j = ⟨g, j, none⟩ := by unfold Addr.add; split <;> simp_all
  rw [hadd, hc j hj, ← hu]
  simp [List.getD_eq_getElem?_getD, hj]

theorem rbytes1_own (v : Int) (h0 : 0 ≤ v) (h1 : v ≤ 18446744073709551615) (B0 : Nat) (W : World) (hB : B0 ≤ W.heap.size) :
    Calls Try.prog 41 #[.int .u64 v, .int .i64 8] W fun e w' => ∃ g cap, e = .returned (.slice (some ⟨g, 0, none⟩) 8 cap) ∧ W.heap.size ≤ g ∧ Hid (∀ j u, ((byteL v 8).map (Value.int .u8))[j]? = some u → w'.cell? ((⟨g, 0, none⟩ : Addr).add j) = some u) ∧ Hid (Below W.heap.size W w') := by
  refine (rbytes_any v 8 W h0 h1).mono ?_
  rintro e w' ⟨s, rfl, ho, hb⟩
  unfold ownsBytes at ho
  obtain ⟨g, cap, rfl, hg, _, _, _, hc⟩ := owns_open ho (by simp [byteL_eight])
  refine ⟨g, cap, rfl, hg, Lib.hid ?_, Lib.hid hb⟩
  intro j u hu
  have hj : j < (byteL v 8).length := by have := (List.getElem?_eq_some_iff.1 hu).1; simpa using this
  have hadd : (⟨g, 0, none⟩ : Addr).add j = ⟨g, j, none⟩ := by unfold Addr.add; split <;> simp_all
  rw [hadd, hc j hj, ← hu]
  simp [List.getD_eq_getElem?_getD, hj]

def fo4V (o s st tm : Int) (k : Nat) : Int := [o, s, st, tm].getD k 0
def fo4 (o s st tm : Int) (k : Nat) : List Int := ([o, s, st, tm].take k).flatMap fun x => byteL (wrap64 x % 18446744073709551616) 4
theorem fo4_succ (o s st tm : Int) (k : Nat) (h : k < 4) : fo4 o s st tm (k + 1) = fo4 o s st tm k ++ byteL (wrap64 (fo4V o s st tm k) % 18446744073709551616) 4 := by
  have hk : k = 0 ∨ k = 1 ∨ k = 2 ∨ k = 3 := by omega
  rcases hk with rfl | rfl | rfl | rfl <;> simp [fo4, fo4V]

set_option maxHeartbeats 4000000 in
set_option maxRecDepth 100000 in
theorem rbytesF_any (l v f t o s st tm r : Int) (w : World) (T : List Int) (hT : byteL (wrap64 t % 18446744073709551616) 2 = T) (hT2 : T.length = 2) (hr0 : 0 ≤ r) (hr1 : r ≤ 18446744073709551615) (L : List Int) (hL : byteL (IntKind.i64.wrap l % 18446744073709551616) 4 = L) (hl4 : L.length = 4) :
    Calls Try.prog 45 #[.agg #[.int .i32 l, .int .u8 v, .int .u8 f, .int .u16 t, .int .i32 o, .int .i32 s, .int .i32 st, .int .i32 tm, .int .u64 r]] w fun e w' => ∃ s', e = .returned s' ∧ w'.ownsRow (w.heap.size + 1) 5 1 s' 32 ((L ++ [v, f] ++ T ++ fo4 o s st tm 4 ++ byteL r 8).map (Value.int .u8)) ∧ Below w.heap.size w w' := by
  obtain ⟨ti, hi, hz0, hz1, hz2⟩ := info_parts Try.info5
  go_enter Try.func45, Try.ntmps45
  go_wp2_with fail
  go_cut [3] (fun sx wx => wx.ownsRow (w.heap.size + 1) 5 1 sx 6 ((L ++ [v, f]).map (Value.int .u8)) ∧ Hid (Below (w.heap.size + 1) (w.alloc (Obj.cells #[.int .i32 l, .int .u8 v, .int .u8 f, .int .u16 t, .int .i32 o, .int .i32 s, .int .i32 st, .int .i32 tm, .int .u64 r] 30)) wx))
  case first =>
    go_region_held_law (fun w' => w'.cell? ⟨w.heap.size, 0, none⟩ = some (.int .i32 l) ∧ w'.cell? ⟨w.heap.size, 1, none⟩ = some (.int .u8 v) ∧ w'.cell? ⟨w.heap.size, 2, none⟩ = some (.int .u8 f))
      (first
        | go_keep
        | exact ⟨hx0, hx1, hx2⟩
        | exact ⟨hy0, hy1, hy2⟩)
      (first
        | (go_simp; go_at_call 44; refine (rbytes3_own _ _ L 4 hL hl4 (by omega) (w.heap.size + 1) _ (by simp)).mono ?_; rintro e w1 ⟨g1, c1, rfl, hg1, HN1, HO1, HB1⟩; have hx0 : w1.cell? ⟨w.heap.size, 0, none⟩ = some (.int .i32 l) := (HB1.out.cell (p := ⟨w.heap.size, 0, none⟩) (by simp; try omega)).trans (by simp); have hx1 : w1.cell? ⟨w.heap.size, 1, none⟩ = some (.int .u8 v) := (HB1.out.cell (p := ⟨w.heap.size, 1, none⟩) (by simp; try omega)).trans (by simp); have hx2 : w1.cell? ⟨w.heap.size, 2, none⟩ = some (.int .u8 f) := (HB1.out.cell (p := ⟨w.heap.size, 2, none⟩) (by simp; try omega)).trans (by simp))
        | (refine step_append_lies _ (by rfl) _ _ _ (by rfl) (w.heap.size + 1) 5 ti _ 1 1 Try.underlying57 hi hz0 hz1 hz2 rfl (by omega) (.slice (some ⟨g1, 0, none⟩) 4 c1) 4 (L.map (Value.int .u8)) (by rfl) (HO1.out.alloc _) ⟨w1.heap.size, 0, none⟩ 2 2 [.int .u8 v, .int .u8 f] (by rfl) (by rfl) (by intro j u hu; have hj : j = 0 ∨ j = 1 := (by have := (List.getElem?_eq_some_iff.1 hu).1; simp at this; omega); rcases hj with rfl | rfl <;> simp at hu <;> subst hu <;> simp [Addr.add]) (by simp [Value.oneCell']) (by omega) (by unfold maxLen; omega) (by omega) (by have := HB1.out.size; simp at this; simp; omega) _ rfl ?_; intro g3 c3 w3 ho3 hg3 hat hlt; have hy0 : w3.cell? ⟨w.heap.size, 0, none⟩ = some (.int .i32 l) := (by rw [hg3.cell_far _ (by have := HB1.out.size; simp at this; simp; try omega) (by (try simp at hg1); simp [Value.ownBlock]; omega)]; first | exact hx0 | exact (((Below.refl _ w1).alloc (Nat.le_refl _) _).cell (p := ⟨w.heap.size, 0, none⟩) (by have := HB1.out.size; simp at this; simp; omega)).trans hx0); have hy1 : w3.cell? ⟨w.heap.size, 1, none⟩ = some (.int .u8 v) := (by rw [hg3.cell_far _ (by have := HB1.out.size; simp at this; simp; try omega) (by (try simp at hg1); simp [Value.ownBlock]; omega)]; first | exact hx1 | exact (((Below.refl _ w1).alloc (Nat.le_refl _) _).cell (p := ⟨w.heap.size, 1, none⟩) (by have := HB1.out.size; simp at this; simp; omega)).trans hx1); have hy2 : w3.cell? ⟨w.heap.size, 2, none⟩ = some (.int .u8 f) := (by rw [hg3.cell_far _ (by have := HB1.out.size; simp at this; simp; try omega) (by (try simp at hg1); simp [Value.ownBlock]; omega)]; first | exact hx2 | exact (((Below.refl _ w1).alloc (Nat.le_refl _) _).cell (p := ⟨w.heap.size, 2, none⟩) (by have := HB1.out.size; simp at this; simp; omega)).trans hx2))
        | (refine step_append_lies _ (by rfl) _ _ _ (by rfl) (w.heap.size + 1) 5 ti _ 1 1 Try.underlying57 hi hz0 hz1 hz2 rfl (by omega) (.slice (some ⟨g1, 0, none⟩) 4 c1) 4 (L.map (Value.int .u8)) (by rfl) (HO1.out) ⟨w.heap.size + 1, 0, none⟩ 2 2 [.int .u8 v, .int .u8 f] (by rfl) (by rfl) (by intro j u hu; have hj : j = 0 ∨ j = 1 := (by have := (List.getElem?_eq_some_iff.1 hu).1; simp at this; omega); rcases hj with rfl | rfl <;> simp at hu <;> subst hu <;> (refine (HB1.out.cell (by simp [Addr.add])).trans ?_; simp [Addr.add])) (by simp [Value.oneCell']) (by omega) (by unfold maxLen; omega) (by omega) (by have := HB1.out.size; simp at this; simp; omega) _ rfl ?_; intro g3 c3 w3 ho3 hg3 hat hlt; have hy0 : w3.cell? ⟨w.heap.size, 0, none⟩ = some (.int .i32 l) := (by rw [hg3.cell_far _ (by have := HB1.out.size; simp at this; simp; try omega) (by (try simp at hg1); simp [Value.ownBlock]; omega)]; first | exact hx0 | exact (((Below.refl _ w1).alloc (Nat.le_refl _) _).cell (p := ⟨w.heap.size, 0, none⟩) (by have := HB1.out.size; simp at this; simp; omega)).trans hx0); have hy1 : w3.cell? ⟨w.heap.size, 1, none⟩ = some (.int .u8 v) := (by rw [hg3.cell_far _ (by have := HB1.out.size; simp at this; simp; try omega) (by (try simp at hg1); simp [Value.ownBlock]; omega)]; first | exact hx1 | exact (((Below.refl _ w1).alloc (Nat.le_refl _) _).cell (p := ⟨w.heap.size, 1, none⟩) (by have := HB1.out.size; simp at this; simp; omega)).trans hx1); have hy2 : w3.cell? ⟨w.heap.size, 2, none⟩ = some (.int .u8 f) := (by rw [hg3.cell_far _ (by have := HB1.out.size; simp at this; simp; try omega) (by (try simp at hg1); simp [Value.ownBlock]; omega)]; first | exact hx2 | exact (((Below.refl _ w1).alloc (Nat.le_refl _) _).cell (p := ⟨w.heap.size, 2, none⟩) (by have := HB1.out.size; simp at this; simp; omega)).trans hx2)))
    all_goals
      simp only [List.getElem_toArray, List.getElem_cons_succ, List.getElem_cons_zero, List.set_cons_succ, List.set_cons_zero, List.setIfInBounds_toArray]
      go_wp2
      go_meet
      have hsz := HB1.out.size
      simp at hsz
      refine ⟨by rw [List.map_append]; exact ho3, Lib.hid ?_⟩
      first
      | exact ((((Below.refl _ _).drew.trans (HB1.out.mono (by simp))).alloc (by omega) _).grown hg3 (by simp; omega) (fun j hj => by (try simp at hg1); simp [Value.ownBlock] at hj; omega))
      | exact (((((Below.refl _ _).drew.alloc (by simp) _).trans (HB1.out.mono (by simp)))).grown hg3 (by omega) (fun j hj => by (try simp at hg1); simp [Value.ownBlock] at hj; omega))
      | (trace_state; sorry)
  case rest =>
    obtain ⟨ho, hB⟩ := hcut
    have k3 := (hB.out.cell (p := ⟨w.heap.size, 3, none⟩) (by simp)).trans (show _ = some (.int .u16 t) by simp)
    have k4 := (hB.out.cell (p := ⟨w.heap.size, 4, none⟩) (by simp)).trans (show _ = some (.int .i32 o) by simp)
    have k5 := (hB.out.cell (p := ⟨w.heap.size, 5, none⟩) (by simp)).trans (show _ = some (.int .i32 s) by simp)
    have k6 := (hB.out.cell (p := ⟨w.heap.size, 6, none⟩) (by simp)).trans (show _ = some (.int .i32 st) by simp)
    have k7 := (hB.out.cell (p := ⟨w.heap.size, 7, none⟩) (by simp)).trans (show _ = some (.int .i32 tm) by simp)
    have k8 := (hB.out.cell (p := ⟨w.heap.size, 8, none⟩) (by simp)).trans (show _ = some (.int .u64 r) by simp)
    have hsz := hB.out.size
    simp at hsz
    have hmx : 6 + 2 ≤ maxLen := by unfold maxLen; omega
    have HMX := Lib.hid hmx
    clear hmx
    go_wp2_with fail
    refine (rbytes3_own _ _ T 2 hT hT2 (by omega) (w.heap.size + 1) _ (by omega)).mono ?_
    rintro e w1 ⟨g1, c1, rfl, hg1, HN1, HO1, HB1⟩
    go_wp2_with (at_builtin; refine wpList_append_own_at _ rfl _ _ 57 rfl (w.heap.size + 1) 5 ti (.int .u8 0) 1 1 Try.underlying57 hi hz0 hz1 hz2 rfl (by decide) _ _ _ rfl (owns_below ho HB1.out) ⟨g1, 0, none⟩ 2 c1 (T.map (Value.int .u8)) rfl ?c0 HN1.out ?c2 HMX.out ?c4 ?c5 ?_)
    case c0 => simp [hT2]
    case c2 => intro u hu; obtain ⟨x, _, rfl⟩ := List.mem_map.1 hu; rfl
    case c4 => omega
    case c5 => have := HB1.out.size; omega
    intro s2 w2 ho2 hg2 _ hat2
    have ho2' : w2.ownsRow (w.heap.size + 1) 5 1 s2 8 ((L ++ [v, f] ++ T).map (Value.int .u8)) := by simpa using ho2
    have hB2 : Below (w.heap.size + 1) (w.alloc (Obj.cells #[.int .i32 l, .int .u8 v, .int .u8 f, .int .u16 t, .int .i32 o, .int .i32 s, .int .i32 st, .int .i32 tm, .int .u64 r] 30)) w2 := (hB.out.trans (HB1.out.mono (by omega))).grown hg2 (by have := HB1.out.size; omega) (fun j hj => (ho.lt j hj).1)
    have hs2 := hB2.size
    simp at hs2
    have hne2 : s2.ownBlock ≠ some w2.heap.size := fun h => by have := (ho2'.lt _ h).2; omega
    obtain ⟨D, hD⟩ : ∃ D, D = L ++ [v, f] ++ T := ⟨_, rfl⟩
    rw [← hD] at ho2'
    have HD := Lib.hid hD
    clear hD
    clear k3 k4 k5 k6 k7 k8 ho hB HN1 HO1 HB1 ho2 hg2 hat2 HMX
    have k4 := (hB2.cell (p := ⟨w.heap.size, 4, none⟩) (by simp)).trans (show _ = some (.int .i32 o) by simp)
    have k5 := (hB2.cell (p := ⟨w.heap.size, 5, none⟩) (by simp)).trans (show _ = some (.int .i32 s) by simp)
    have k6 := (hB2.cell (p := ⟨w.heap.size, 6, none⟩) (by simp)).trans (show _ = some (.int .i32 st) by simp)
    have k7 := (hB2.cell (p := ⟨w.heap.size, 7, none⟩) (by simp)).trans (show _ = some (.int .i32 tm) by simp)
    have HB2 := Lib.hid hB2
    clear hB2
    go_wp2_with fail
    clear k4 k5 k6 k7
    go_loopw [3, 5, 32] (fun sx x c wr => ∃ k : Nat, k ≤ 4 ∧ c = .int .i64 k ∧ wr.ownsRow (w.heap.size + 1) 5 1 sx (8 + 4 * k) ((D ++ fo4 o s st tm k).map (Value.int .u8)) ∧ sx.ownBlock ≠ some w2.heap.size ∧ w2.heap.size + 1 ≤ wr.heap.size ∧ Hid (∀ i, i < 4 → wr.cell? ⟨w2.heap.size, i, none⟩ = some (.int .i32 (fo4V o s st tm i))) ∧ Hid (Below (w.heap.size + 1) (w.alloc (Obj.cells #[.int .i32 l, .int .u8 v, .int .u8 f, .int .u16 t, .int .i32 o, .int .i32 s, .int .i32 st, .int .i32 tm, .int .u64 r] 30)) wr)) (fun _ _ c _ => 4 - (intOf c).toNat)
    case atStart =>
      refine ⟨0, by omega, rfl, by simpa [fo4] using ho2'.alloc _, hne2, by simp, Lib.hid ?_, Lib.hid (HB2.out.alloc (by omega) _)⟩
      intro i hi
      have hk : i = 0 ∨ i = 1 ∨ i = 2 ∨ i = 3 := by omega
      rcases hk with rfl | rfl | rfl | rfl <;> simp [fo4V]
    case round =>
      obtain ⟨k, hk, rfl, ho, hne, hsz, HC, HB⟩ := hrel
      clear HB2 ho2'
      by_cases hlt : k < 4
      · have hck := HC.out k hlt
        have hfs := Lib.hid (fo4_succ o s st tm k hlt)
        generalize fo4V o s st tm k = x at *
        have hmx : 8 + 4 * k + 4 ≤ maxLen := by unfold maxLen; omega
        have HMX := Lib.hid hmx
        clear hmx
        go_wp2_with fail
        refine (rbytes3_own _ _ (byteL (wrap64 x % 18446744073709551616) 4) 4 rfl rfl (by omega) (w.heap.size + 1) _ (by omega)).mono ?_
        rintro e w1 ⟨g1, c1, rfl, hg1, HN1, HO1, HB1⟩
        go_wp2_with (at_builtin; refine wpList_append_own_at _ rfl _ _ 57 rfl (w.heap.size + 1) 5 ti (.int .u8 0) 1 1 Try.underlying57 hi hz0 hz1 hz2 rfl (by decide) _ _ _ rfl (owns_below ho HB1.out) ⟨g1, 0, none⟩ 4 c1 ((byteL (wrap64 x % 18446744073709551616) 4).map (Value.int .u8)) rfl ?c0 HN1.out ?c2 HMX.out ?c4 ?c5 ?_)
        case c0 => simp [byteL_four]
        case c2 => intro u hu; obtain ⟨x, _, rfl⟩ := List.mem_map.1 hu; rfl
        case c4 => omega
        case c5 => have := HB1.out.size; omega
        intro s3 w3 ho3 hg3 _ hat3
        have hs1 := HB1.out.size
        have hs3 := hg3.size
        have hB3 := Lib.hid ((HB.out.trans (HB1.out.mono (by omega))).grown hg3 (by omega) (fun j hj => (ho.lt j hj).1))
        have ho3' : w3.ownsRow (w.heap.size + 1) 5 1 s3 (8 + 4 * (k + 1)) ((D ++ fo4 o s st tm (k + 1)).map (Value.int .u8)) := by
          rw [hfs.out, ← List.append_assoc, List.map_append, show 8 + 4 * (k + 1) = 8 + 4 * k + 4 by omega]; simpa using ho3
        have hne3 : s3.ownBlock ≠ some w2.heap.size := by
          rcases hat3 with h | h
          · rw [h]; exact hne
          · rw [h]; simp; omega
        have hC3 : ∀ i, i < 4 → w3.cell? ⟨w2.heap.size, i, none⟩ = some (.int .i32 (fo4V o s st tm i)) := by
          intro i hi
          rw [hg3.cell_far _ (by show w2.heap.size < w1.heap.size; omega) (Ne.symm hne)]
          exact (HB1.out.cell (p := ⟨w2.heap.size, i, none⟩) (by show w2.heap.size < wr.heap.size; omega)).trans (HC.out i hi)
        have HC3 := Lib.hid hC3
        have HO3 := Lib.hid ho3'
        clear ho3 hg3 hat3 ho hC3 ho3' HC HB HN1 HO1 HB1
        go_wp2_with fail
        go_roundw
        case rel => exact ⟨k + 1, by omega, by go_num, HO3.out, hne3, by omega, HC3, hB3⟩
        case measure => simp [intOf]; omega
      · obtain rfl : k = 4 := by omega
        have k8 := (HB.out.cell (p := ⟨w.heap.size, 8, none⟩) (by simp)).trans (show _ = some (.int .u64 r) by simp)
        have hmx : 8 + 4 * 4 + 8 ≤ maxLen := by unfold maxLen; omega
        have HMX := Lib.hid hmx
        clear hmx
        go_wp2_with fail
        refine (rbytes1_own _ hr0 hr1 (w.heap.size + 1) _ (by omega)).mono ?_
        rintro e w1 ⟨g1, c1, rfl, hg1, HN1, HB1⟩
        go_wp2_with (at_builtin; refine wpList_append_own_at _ rfl _ _ 57 rfl (w.heap.size + 1) 5 ti (.int .u8 0) 1 1 Try.underlying57 hi hz0 hz1 hz2 rfl (by decide) _ _ _ rfl (owns_below ho HB1.out) ⟨g1, 0, none⟩ 8 c1 ((byteL r 8).map (Value.int .u8)) rfl ?c0 HN1.out ?c2 HMX.out ?c4 ?c5 ?_)
        case c0 => simp [byteL_eight]
        case c2 => intro u hu; obtain ⟨x, _, rfl⟩ := List.mem_map.1 hu; rfl
        case c4 => omega
        case c5 => have := HB1.out.size; omega
        intro s3 w3 ho3 hg3 _ hat3
        have hs1 := HB1.out.size
        have hB3 := Lib.hid ((HB.out.trans (HB1.out.mono (by omega))).grown hg3 (by omega) (fun j hj => (ho.lt j hj).1))
        have ho3' : w3.ownsRow (w.heap.size + 1) 5 1 s3 32 ((D ++ fo4 o s st tm 4 ++ byteL r 8).map (Value.int .u8)) := by
          rw [List.map_append]; simpa using ho3
        have HO3 := Lib.hid ho3'
        clear ho3 hg3 hat3 ho ho3' HC HB HN1 HB1
        go_wp2_with fail
        go_ret
        exact ⟨s3, rfl, by rw [← HD.out]; exact HO3.out, ((Below.refl _ _).alloc (Nat.le_refl _) _).trans (hB3.out.mono (by omega))⟩

end Go.Proofs.Ythjmedocjndakaa
