/- The document's words of a frame's header. -/
import Derived.Test.YthjmedocjndakaaRefFrameB
namespace Go.Proofs.Ythjmedocjndakaa
open Go.RowKit
set_option linter.unusedVariables false

def wdL (l v f t o s st tm r : Int) : List Int := byteL (IntKind.i64.wrap l % 18446744073709551616) 4 ++ [v, f] ++ byteL (wrap64 t % 18446744073709551616) 2 ++ fo4 o s st tm 4 ++ byteL r 8
def wdV (l v f t o s st tm r : Int) (k : Nat) : Int := [w0I l v f t, recI o s, recI st tm, r].getD k 0
theorem wdL_get (l v f t o s st tm r : Int) : wdL l v f t o s st tm r = (byteL (IntKind.i64.wrap l % 18446744073709551616) 4 ++ [v, f, byteI (wrap64 t % 18446744073709551616) 0, byteI (wrap64 t % 18446744073709551616) 1]) ++ ((byteL (wrap64 o % 18446744073709551616) 4 ++ byteL (wrap64 s % 18446744073709551616) 4) ++ ((byteL (wrap64 st % 18446744073709551616) 4 ++ byteL (wrap64 tm % 18446744073709551616) 4) ++ byteL r 8)) := rfl
theorem wdL_length (l v f t o s st tm r : Int) : (wdL l v f t o s st tm r).length = 32 := rfl

theorem wd_q0 (l v f t : Int) (ht0 : 0 ≤ t) (ht : t ≤ 65535) : num (byteL (IntKind.i64.wrap l % 18446744073709551616) 4 ++ [v, f, byteI (wrap64 t % 18446744073709551616) 0, byteI (wrap64 t % 18446744073709551616) 1]) = w0I l v f t := by
  have hl : (IntKind.i64.wrap l % 18446744073709551616) % 4294967296 = l % 4294967296 := by rw [IntKind.wrap_i64]; omega
  have ht' : wrap64 t % 18446744073709551616 = t := by unfold wrap64; omega
  have e0 : byteI t 0 = t % 256 := by unfold byteI; simp
  have e1 : byteI t 1 = t / 256 % 256 := rfl
  rw [num_app, byteL_four, num_four _ (by omega), hl, ht', e0, e1]
  simp only [num, List.length_cons, List.length_nil]
  unfold w0I
  omega
theorem wd_q1 (o s : Int) : num (byteL (wrap64 o % 18446744073709551616) 4 ++ byteL (wrap64 s % 18446744073709551616) 4) = recI o s := by
  have ho : (wrap64 o % 18446744073709551616) % 4294967296 = o % 4294967296 := by unfold wrap64; omega
  have hs : (wrap64 s % 18446744073709551616) % 4294967296 = s % 4294967296 := by unfold wrap64; omega
  rw [num_app, byteL_four, byteL_four, num_four _ (by omega), num_four _ (by omega), ho, hs]
  simp only [List.length_cons, List.length_nil]
  unfold recI
  omega
theorem wd_q3 (r : Int) (h0 : 0 ≤ r) (h1 : r ≤ 18446744073709551615) : num (byteL r 8) = r := by
  have e := num_byteL r 8 (by omega) h0
  rw [show num (byteL r 8) = r % 2 ^ (8 * 8) from e]; omega

theorem get_app (A C : List Int) (n i : Nat) (h : A.length = n) : (A ++ C).getD (n + i) 0 = C.getD i 0 := by
  subst h
  simp [List.getD_eq_getElem?_getD, List.getElem?_append_right]
theorem get_left (A C : List Int) (i : Nat) (h : i < A.length) : (A ++ C).getD i 0 = A.getD i 0 := by
  simp [List.getD_eq_getElem?_getD, List.getElem?_append_left h]

set_option maxHeartbeats 4000000 in
set_option maxRecDepth 100000 in
theorem rwords_any (l v f t o s st tm r : Int) (w : World) (hv0 : 0 ≤ v) (hv : v ≤ 255) (hf0 : 0 ≤ f) (hf : f ≤ 255) (ht0 : 0 ≤ t) (ht : t ≤ 65535) (hr0 : 0 ≤ r) (hr1 : r ≤ 18446744073709551615) :
    Calls Try.prog 16 #[.agg #[.int .i32 l, .int .u8 v, .int .u8 f, .int .u16 t, .int .i32 o, .int .i32 s, .int .i32 st, .int .i32 tm, .int .u64 r]] w fun e w' => e = .returned (.agg #[.int .u64 (w0I l v f t), .int .u64 (recI o s), .int .u64 (recI st tm), .int .u64 r]) ∧ Below w.heap.size w w' := by
  have hby : ∀ v, ∀ x ∈ byteL v 8, 0 ≤ x ∧ x < 256 := fun v => byteL_range v 8
  have hb4 : ∀ v, ∀ x ∈ byteL v 4, 0 ≤ x ∧ x < 256 := fun v => byteL_range v 4
  have B := fun W => Lib.hid (rbytesF_any l v f t o s st tm r W _ rfl rfl hr0 hr1 _ rfl rfl)
  have q0 := wd_q0 l v f t ht0 ht
  have q1 := wd_q1 o s
  have q2 := wd_q1 st tm
  have q3 := wd_q3 r hr0 hr1
  have m0 : ∀ x ∈ byteL (IntKind.i64.wrap l % 18446744073709551616) 4 ++ [v, f, byteI (wrap64 t % 18446744073709551616) 0, byteI (wrap64 t % 18446744073709551616) 1], 0 ≤ x ∧ x < 256 := by
    intro x hx
    rcases List.mem_append.1 hx with h | h
    · exact hb4 _ x h
    · simp at h
      rcases h with rfl | rfl | rfl | rfl
      · omega
      · omega
      · exact byteI_range _ _
      · exact byteI_range _ _
  have m1 : ∀ a b, ∀ x ∈ byteL a 4 ++ byteL b 4, 0 ≤ x ∧ x < 256 := by
    intro a b x hx
    rcases List.mem_append.1 hx with h | h <;> exact hb4 _ x h
  have M0 := Lib.hid m0
  have M1 := Lib.hid m1
  have HQ := Lib.hid (And.intro q0 (And.intro q1 (And.intro q2 q3)))
  clear m0 m1 q0 q1 q2 q3 hb4
  go_enter Try.func16, Try.ntmps16
  go_wp2_with fail
  refine (B _).out.mono ?_
  rintro e w1 ⟨s', rfl, ho, hB⟩
  have hlen := wdL_length l v f t o s st tm r
  replace ho : w1.ownsRow _ 5 1 s' (wdL l v f t o s st tm r).length ((wdL l v f t o s st tm r).map (Value.int .u8)) := ho
  obtain ⟨g, cap, rfl, hg, hgs, hcap, hcm, hc⟩ := owns_open ho (by intro h; rw [h] at hlen; simp at hlen)
  rw [hlen] at hcap hc ⊢
  have hsz := hB.size
  simp at hsz hg
  have hfz : ∀ i, w1.frozen? ⟨w.heap.size + 1, i, none⟩ = false := fun i => (hB.frozen (p := ⟨w.heap.size + 1, i, none⟩) (by simp)).trans (by simp)
  have d0 : w1.cell? ⟨w.heap.size + 1, 0, none⟩ = some (.int .u64 0) := (hB.cell (p := ⟨w.heap.size + 1, 0, none⟩) (by simp)).trans (by simp)
  have d1 : w1.cell? ⟨w.heap.size + 1, 1, none⟩ = some (.int .u64 0) := (hB.cell (p := ⟨w.heap.size + 1, 1, none⟩) (by simp)).trans (by simp)
  have d2 : w1.cell? ⟨w.heap.size + 1, 2, none⟩ = some (.int .u64 0) := (hB.cell (p := ⟨w.heap.size + 1, 2, none⟩) (by simp)).trans (by simp)
  have d3 : w1.cell? ⟨w.heap.size + 1, 3, none⟩ = some (.int .u64 0) := (hB.cell (p := ⟨w.heap.size + 1, 3, none⟩) (by simp)).trans (by simp)
  have HB := Lib.hid (((((Below.refl _ w).alloc (Nat.le_refl _) _).alloc (by simp) _).trans (hB.mono (by simp; omega)) : Below w.heap.size w w1))
  have HZ := Lib.hid hfz
  have HD := Lib.hid (And.intro d0 (And.intro d1 (And.intro d2 d3)))
  clear hB ho hfz d0 d1 d2 d3 B
  have HC := Lib.hid hc
  clear hc
  go_wp2_with fail
  go_loopw [5, 8] (fun x c wr => ∃ k : Nat, k ≤ 4 ∧ c = .int .i64 k ∧ Hid (Kept (fun b => b = w1.heap.size) (w1.alloc (Obj.cells #[.int .u64 0, .int .u64 0, .int .u64 0, .int .u64 0] 31)) wr) ∧ Hid (∀ i, i < 4 → wr.cell? ⟨w1.heap.size, i, none⟩ = some (.int .u64 (if i < k then wdV l v f t o s st tm r i else 0))) ∧ Hid (∀ i, wr.frozen? ⟨w1.heap.size, i, none⟩ = false)) (fun _ c _ => 4 - (intOf c).toNat)
  case atStart =>
    refine ⟨0, by omega, rfl, Lib.hid (Kept.refl _ _), Lib.hid ?_, Lib.hid (fun i => by simp)⟩
    intro i hi
    have hk : i = 0 ∨ i = 1 ∨ i = 2 ∨ i = 3 := by omega
    rcases hk with rfl | rfl | rfl | rfl <;> simp
  case round =>
    obtain ⟨k, hk, rfl, HK, HW, HF⟩ := hrel
    by_cases hlt : k < 4
    · have hcw : ∀ i, i < 32 → wr.cell? ⟨g, i, none⟩ = some (.int .u8 ((wdL l v f t o s st tm r).getD i 0)) := fun i hi =>
        (HK.out.cell (p := ⟨g, i, none⟩) (by simp; omega) (show ¬ g = w1.heap.size by omega)).trans ((((Below.refl _ w1).alloc (Nat.le_refl _) _).cell (p := ⟨g, i, none⟩) hgs).trans (HC.out i hi))
      rw [wdL_get] at hcw
      obtain ⟨e0, e1, e2, e3⟩ := HQ.out
      have N0 := fun cap => Lib.hid (rnumber_at8 wr g 0 cap _ (fun i hi => by rw [hcw (0 + i) (by omega), Nat.zero_add, get_left _ _ i (by show i < 8; omega)]) rfl M0.out)
      have N1 := fun cap => Lib.hid (rnumber_at8 wr g 8 cap _ (fun i hi => by rw [hcw (8 + i) (by omega), get_app _ _ 8 i rfl, get_left _ _ i (by show i < 8; omega)]) rfl (M1.out _ _))
      have N2 := fun cap => Lib.hid (rnumber_at8 wr g 16 cap _ (fun i hi => by rw [hcw (16 + i) (by omega), show 16 + i = 8 + (8 + i) by omega, get_app _ _ 8 (8 + i) rfl, get_app _ _ 8 i rfl, get_left _ _ i (by show i < 8; omega)]) rfl (M1.out _ _))
      have N3 := fun cap => Lib.hid (rnumber_at8 wr g 24 cap _ (fun i hi => by rw [hcw (24 + i) (by omega), show 24 + i = 8 + (8 + (8 + i)) by omega, get_app _ _ 8 (8 + (8 + i)) rfl, get_app _ _ 8 (8 + i) rfl, get_app _ _ 8 i rfl]) rfl (hby r))
      rw [e0] at N0
      rw [e1] at N1
      rw [e2] at N2
      rw [e3] at N3
      clear hcw e0 e1 e2 e3 M0 M1 hby HZ HD HC
      have z1 : (8 : Int) ≤ (cap : Int) := by omega
      have z2 : (16 : Int) ≤ (cap : Int) := by omega
      have z3 : (24 : Int) ≤ (cap : Int) := by omega
      have z4 : (32 : Int) ≤ (cap : Int) := by omega
      have y1 : ¬ cap = 8 := by omega
      have y2 : ¬ cap = 16 := by omega
      have y3 : ¬ cap = 24 := by omega
      have hck : wr.cell? ⟨w1.heap.size, k, none⟩ = some (.int .u64 0) := by simpa using HW.out k hlt
      have hfk := HF.out k
      have hk4 : k = 0 ∨ k = 1 ∨ k = 2 ∨ k = 3 := by omega
      rcases hk4 with rfl | rfl | rfl | rfl
      all_goals
        go_wp2_with fail
        first
        | (with_reducible refine ((N0 _).out).mono ?_)
        | (with_reducible refine ((N1 _).out).mono ?_)
        | (with_reducible refine ((N2 _).out).mono ?_)
        | (with_reducible refine ((N3 _).out).mono ?_)
        rintro e w' ⟨rfl, hw'⟩
        subst hw'
        clear N0 N1 N2 N3
        go_wp2_with fail
        go_roundw
        case rel =>
          first
          | refine ⟨1, by omega, rfl, Lib.hid (HK.out.setCell (p := ⟨w1.heap.size, _, none⟩) rfl _), Lib.hid ?_, Lib.hid (fun i => by simpa using HF.out i)⟩
          | refine ⟨2, by omega, rfl, Lib.hid (HK.out.setCell (p := ⟨w1.heap.size, _, none⟩) rfl _), Lib.hid ?_, Lib.hid (fun i => by simpa using HF.out i)⟩
          | refine ⟨3, by omega, rfl, Lib.hid (HK.out.setCell (p := ⟨w1.heap.size, _, none⟩) rfl _), Lib.hid ?_, Lib.hid (fun i => by simpa using HF.out i)⟩
          | refine ⟨4, by omega, rfl, Lib.hid (HK.out.setCell (p := ⟨w1.heap.size, _, none⟩) rfl _), Lib.hid ?_, Lib.hid (fun i => by simpa using HF.out i)⟩
          · intro i hi
            have hi4 : i = 0 ∨ i = 1 ∨ i = 2 ∨ i = 3 := by omega
            rcases hi4 with rfl | rfl | rfl | rfl
            all_goals first | (simpa [wdV] using World.cell?_setCell_same _ _ _ hck) | (rw [World.cell?_setCell_other _ _ _ _ (by simp)]; simpa using HW.out _ hi)
        case measure => simp [intOf]
    · obtain rfl : k = 4 := by omega
      have hdd : ∀ i, wr.cell? ⟨w.heap.size + 1, i, none⟩ = w1.cell? ⟨w.heap.size + 1, i, none⟩ := fun i =>
        (HK.out.cell (p := ⟨w.heap.size + 1, i, none⟩) (by simp; omega) (show ¬ w.heap.size + 1 = w1.heap.size by omega)).trans (((Below.refl _ w1).alloc (Nat.le_refl _) _).cell (p := ⟨w.heap.size + 1, i, none⟩) (by show w.heap.size + 1 < w1.heap.size; omega))
      have hff : ∀ i, wr.frozen? ⟨w.heap.size + 1, i, none⟩ = false := fun i =>
        ((HK.out.frozen (p := ⟨w.heap.size + 1, i, none⟩) (by simp; omega) (show ¬ w.heap.size + 1 = w1.heap.size by omega)).trans (((Below.refl _ w1).alloc (Nat.le_refl _) _).frozen (p := ⟨w.heap.size + 1, i, none⟩) (by show w.heap.size + 1 < w1.heap.size; omega))).trans (HZ.out i)
      obtain ⟨p0, p1, p2, p3⟩ := HD.out
      rw [← hdd] at p0 p1 p2 p3
      have c0 : wr.cell? ⟨w1.heap.size, 0, none⟩ = some (.int .u64 (w0I l v f t)) := by simpa [wdV] using HW.out 0 (by omega)
      have c1 : wr.cell? ⟨w1.heap.size, 1, none⟩ = some (.int .u64 (recI o s)) := by simpa [wdV] using HW.out 1 (by omega)
      have c2 : wr.cell? ⟨w1.heap.size, 2, none⟩ = some (.int .u64 (recI st tm)) := by simpa [wdV] using HW.out 2 (by omega)
      have c3 : wr.cell? ⟨w1.heap.size, 3, none⟩ = some (.int .u64 r) := by simpa [wdV] using HW.out 3 (by omega)
      have hBw := HB.out.trans ((((Below.refl _ w1).alloc (Nat.le_refl _) _).mono (by omega)).trans (HK.out.below (n := w.heap.size) (by simp; omega) (by intro b hb; omega)))
      have HBW := Lib.hid hBw
      clear hBw HW HK HF HZ HD HC HQ M0 M1 hby hdd
      go_wp2_with fail
      refine bodyPost_ret (v := .agg #[.int .u64 (w0I l v f t), .int .u64 (recI o s), .int .u64 (recI st tm), .int .u64 r]) (by simp [results, Try.results16, go_sem, p0, p1, p2, p3]) rfl ⟨rfl, ?_⟩
      have stc : ∀ (W : World) i u, Below w.heap.size w W → Below w.heap.size w (W.setCell ⟨w.heap.size + 1, i, none⟩ u) := fun W i u h => h.setCell (by simp) u
      exact stc _ _ _ (stc _ _ _ (stc _ _ _ (stc _ _ _ HBW.out)))

end Go.Proofs.Ythjmedocjndakaa
