/- Contracts: Next of the document. -/
import Derived.Test.YtfahnjicinpahaaNxB
namespace Go.Proofs.Ytfahnjicinpahaa
open Go.RowKit
set_option linter.unusedVariables false

/-- Which place behind i is best, of those ahead of k. -/
def BestAt (L : List Int) (i k : Nat) (v : Int) : Prop :=
  (v = -1 ∧ ∀ t, i < t → t < k → L.getD t 0 ≤ L.getD i 0) ∨ ∃ b : Nat, v = b ∧ i < b ∧ b < k ∧ L.getD i 0 < L.getD b 0 ∧ ∀ t, i < t → t < k → L.getD i 0 < L.getD t 0 → L.getD b 0 ≤ L.getD t 0

/-- How far the rest is in order. -/
structure Sorting (L R0 Y : List Int) (i a b : Nat) : Prop where
  len : Y.length = L.length
  perm : Y.Perm R0
  front : ∀ t, t ≤ i → Y.getD t 0 = R0.getD t 0
  done : ∀ t u, i < t → t < i + 1 + a → t < u → u < L.length → Y.getD t 0 ≤ Y.getD u 0
  here : ∀ u, i + 1 + a < u → u < b → Y.getD (i + 1 + a) 0 ≤ Y.getD u 0

theorem Sorting.start {L R0 : List Int} {i : Nat} (h : R0.length = L.length) : Sorting L R0 R0 i 0 (i + 1 + 0 + 1) := ⟨h, .refl _, fun _ _ => rfl, fun t u h1 h2 => by omega, fun u h1 h2 => by omega⟩
theorem Sorting.skip {L R0 Y : List Int} {i a b : Nat} (h : Sorting L R0 Y i a b) (hle : Y.getD (i + 1 + a) 0 ≤ Y.getD b 0) : Sorting L R0 Y i a (b + 1) :=
  ⟨h.len, h.perm, h.front, h.done, fun u h1 h2 => by
    rcases Nat.lt_or_ge u b with h3 | h3
    · exact h.here u h1 h3
    · obtain rfl : u = b := by omega
      exact hle⟩
theorem Sorting.swap {L R0 Y : List Int} {i a b : Nat} (h : Sorting L R0 Y i a b) (hab : i + 1 + a < b) (hb : b < L.length) (hlt : Y.getD b 0 < Y.getD (i + 1 + a) 0) :
    Sorting L R0 ((Y.set (i + 1 + a) (Y.getD b 0)).set b (Y.getD (i + 1 + a) 0)) i a (b + 1) := by
  have hl := h.len
  have hX : ∀ t, ((Y.set (i + 1 + a) (Y.getD b 0)).set b (Y.getD (i + 1 + a) 0)).getD t 0 = if t = b then Y.getD (i + 1 + a) 0 else if t = i + 1 + a then Y.getD b 0 else Y.getD t 0 := fun t => by
    rw [getD_set _ _ _ _ (by simp; omega), getD_set _ _ _ _ (by omega)]
  refine ⟨by simp [hl], (swap_perm (by omega) (by omega)).trans h.perm, fun t ht => ?_, fun t u h1 h2 h3 h4 => ?_, fun u h1 h2 => ?_⟩
  · rw [hX, if_neg (by omega), if_neg (by omega)]; exact h.front t ht
  · rw [hX, hX, if_neg (show ¬ t = b by omega), if_neg (show ¬ t = i + 1 + a by omega)]
    split
    · exact h.done t _ h1 h2 (by omega) (by omega)
    · split
      · exact h.done t _ h1 h2 (by omega) hb
      · exact h.done t u h1 h2 h3 h4
  · rw [hX, hX, if_neg (show ¬ i + 1 + a = b by omega), if_pos rfl]
    split
    · omega
    · rw [if_neg (by omega)]
      have := h.here u h1 (by omega)
      omega
theorem Sorting.next {L R0 Y : List Int} {i a b : Nat} (h : Sorting L R0 Y i a b) (hb : L.length ≤ b) : Sorting L R0 Y i (a + 1) (i + 1 + (a + 1) + 1) :=
  ⟨h.len, h.perm, h.front, fun t u h1 h2 h3 h4 => by
    rcases Nat.lt_or_ge t (i + 1 + a) with h5 | h5
    · exact h.done t u h1 h5 h3 h4
    · obtain rfl : t = i + 1 + a := by omega
      exact h.here u h3 (by omega), fun u h1 h2 => by omega⟩
theorem Sorting.ends {L R0 Y : List Int} {i a b c : Nat} (h : Sorting L R0 Y i a b) (ha : L.length ≤ i + 1 + a) (hb : BestAt L i L.length (c : Nat)) (hR : R0 = (L.set i (L.getD c 0)).set c (L.getD i 0))
    (hflat : ∀ j, i < j → j + 1 < L.length → L.getD (j + 1) 0 ≤ L.getD j 0) : IsNext L i Y := by
  rcases hb with ⟨h1, _⟩ | ⟨c', h1, h2, h3, h4, h5⟩
  · omega
  obtain rfl : c = c' := by omega
  have hX : ∀ t, R0.getD t 0 = if t = c then L.getD i 0 else if t = i then L.getD c 0 else L.getD t 0 := fun t => by
    rw [hR, getD_set _ _ _ _ (by simp; omega), getD_set _ _ _ _ (by omega)]
  have hYi : Y.getD i 0 = L.getD c 0 := by rw [h.front i (by omega), hX, if_neg (by omega), if_pos rfl]
  have hg : L.getD i 0 < L.getD (i + 1) 0 := by
    have := mono_le hflat (a := i + 1) (b := c) (by omega) (by omega) h3
    omega
  refine ⟨h.len, by omega, hflat, hg, fun t ht => ?_, h.perm.trans (hR ▸ swap_perm (by omega) h3), by rw [hYi]; exact h4, fun t h6 h7 h8 => by rw [hYi]; exact h5 t h6 h7 h8, ⟨c, h2, h3, hYi.symm⟩, fun t h6 h7 => h.done t (t + 1) h6 (by omega) (by omega) h7⟩
  rw [h.front t (by omega), hX, if_neg (by omega), if_neg (by omega)]

set_option maxRecDepth 100000 in
set_option maxHeartbeats 600000 in
theorem rnext_any (w : World) (a : Option Addr) (cap : Nat) (L : List Int) (hs : Ints .i64 w (.slice a L.length cap) L) (hlen : L.length ≤ 60) :
    Calls Try.prog 27 #[.slice a L.length cap] w fun e w' => Below w.heap.size w w' ∧
      ((e = .returned (.tuple #[.slice none 0 0, .bool false]) ∧ NoNext L) ∨ ∃ g cap' i R, e = .returned (.tuple #[.slice (some ⟨g, 0, none⟩) L.length cap', .bool true]) ∧ IsNext L i R ∧ L.length ≤ cap' ∧ RowG w' g R) := by
  obtain ⟨i0, hi, hz0, hz1, hz2⟩ := info_parts Try.infoInt
  obtain ⟨a', cap', h1, hl⟩ := hs
  cases h1
  have HL := Lib.hid hl
  clear hl
  go_enter Try.func27, Try.ntmps27
  go_wp2_with fail
  go_loopw [4] (fun v wr => ∃ i : Int, v = .int .i64 i ∧ -2 ≤ i ∧ i + 2 ≤ L.length ∧ (0 < L.length → -1 ≤ i) ∧ (∀ j : Nat, i < j → j + 1 < L.length → L.getD (j + 1) 0 ≤ L.getD j 0) ∧ Hid (Below w.heap.size w wr)) (fun v _ => (intOf v + 2).toNat)
  case atStart => exact ⟨(L.length : Int) - 2, by go_num, by omega, by omega, by omega, fun j h1 h2 => by omega, Lib.hid (Below.refl _ _)⟩
  case round =>
    obtain ⟨i, rfl, hi0, hi1, hi2, hflat, HB⟩ := hrel
    have HF := Lib.hid hflat
    clear hflat
    by_cases hneg : i < 0
    · have hno : Hid (NoNext L) := Lib.hid fun j hj => HF.out j (by omega) hj
      go_wp2_with fail
      go_ret2
      exact ⟨HB.out, .inl ⟨rfl, hno.out⟩⟩
    · obtain ⟨k, rfl⟩ := Int.eq_ofNat_of_zero_le (show 0 ≤ i by omega)
      obtain ⟨b, off, rfl, hc⟩ : ∃ b off, a = some ⟨b, off, none⟩ ∧ ∀ i, i < L.length → w.cell? ⟨b, off + i, none⟩ = some (.int .i64 (L.getD i 0)) := by
        rcases HL.out with hl | h
        · subst hl; simp at hi1; omega
        · exact h
      have hblt : b < w.heap.size := World.block_lt_of_cell? w _ (hc k (by omega))
      have HC := Lib.hid hc
      clear hc
      have hkl : k + 2 ≤ L.length := by omega
      have HF2 : Hid (∀ j, k < j → j + 1 < L.length → L.getD (j + 1) 0 ≤ L.getD j 0) := Lib.hid fun j h1 h2 => HF.out j (by omega) h2
      clear hi0 hi1 hi2 HF
      go_wp2_with fail
      go_loopw [5, 6] (fun v c wr => ∃ (m : Nat) (bv : Int), c = .int .i64 m ∧ v = .int .i64 bv ∧ k < m ∧ m ≤ L.length ∧ Hid (BestAt L k m bv) ∧ Hid (Below w.heap.size w wr)) (fun _ c _ => L.length - (intOf c).toNat)
      case atStart => exact ⟨k + 1, -1, by go_num, rfl, by omega, by omega, Lib.hid (.inl ⟨rfl, fun t h1 h2 => by omega⟩), HB⟩
      case round =>
        clear HB
        obtain ⟨m, bv, rfl, rfl, hkm, hml, HBT, HB⟩ := hrel
        by_cases hlt : m < L.length
        · have c1 := (HB.out.cell (p := ⟨b, off + k, none⟩) hblt).trans (HC.out k (by omega))
          have c2 := (HB.out.cell (p := ⟨b, off + m, none⟩) hblt).trans (HC.out m hlt)
          obtain ⟨x1, hx1⟩ : ∃ x, x = L.getD k 0 := ⟨_, rfl⟩
          obtain ⟨x2, hx2⟩ : ∃ x, x = L.getD m 0 := ⟨_, rfl⟩
          rw [← hx1] at c1
          rw [← hx2] at c2
          have HX1 := Lib.hid hx1
          have HX2 := Lib.hid hx2
          clear hx1 hx2
          have go : ∀ bv', BestAt L k (m + 1) bv' → True := fun _ _ => trivial
          by_cases hgt : x1 < x2
          · rcases HBT.out with ⟨rfl, hb⟩ | ⟨bb, rfl, hb1, hb2, hb3, hb4⟩
            · have hN : Hid (BestAt L k (m + 1) m) := Lib.hid (.inr ⟨m, rfl, hkm, by omega, by rw [← HX1.out, ← HX2.out]; exact hgt, fun t h1 h2 h3 => by
                rcases Nat.lt_or_ge t m with h | h
                · have := hb t h1 h; omega
                · obtain rfl : t = m := by omega
                  exact Int.le_refl _⟩)
              clear hb HBT
              go_wp2_with fail
              go_quiet (fail)
              go_wp2_with fail
              go_roundw
              case rel => exact ⟨m + 1, m, by go_num, rfl, by omega, by omega, hN, Lib.hid (below_drewN HB.out _)⟩
              case measure => simp [intOf]; omega
            · have c3 := (HB.out.cell (p := ⟨b, off + bb, none⟩) hblt).trans (HC.out bb (by omega))
              obtain ⟨x3, hx3⟩ : ∃ x, x = L.getD bb 0 := ⟨_, rfl⟩
              rw [← hx3] at c3
              have HX3 := Lib.hid hx3
              have hbbl : bb < L.length := by omega
              have hdn : decide ((bb : Int) < 0) = false := decide_eq_false (by omega)
              by_cases h32 : x2 < x3
              · have hN : Hid (BestAt L k (m + 1) m) := Lib.hid (.inr ⟨m, rfl, hkm, by omega, by rw [← HX1.out, ← HX2.out]; exact hgt, fun t h1 h2 h3 => by
                  rcases Nat.lt_or_ge t m with h | h
                  · have := hb4 t h1 h h3; rw [← HX3.out] at this; rw [← HX2.out]; omega
                  · obtain rfl : t = m := by omega
                    exact Int.le_refl _⟩)
                clear hb3 hb4 hx3 HBT
                go_wp2_with fail
                go_quiet (fail)
                go_wp2_with fail
                go_roundw
                case rel => exact ⟨m + 1, m, by go_num, rfl, by omega, by omega, hN, Lib.hid (below_drewN HB.out _)⟩
                case measure => simp [intOf]; omega
              · have hN : Hid (BestAt L k (m + 1) bb) := Lib.hid (.inr ⟨bb, rfl, hb1, by omega, hb3, fun t h1 h2 h3 => by
                  rcases Nat.lt_or_ge t m with h | h
                  · exact hb4 t h1 h h3
                  · obtain rfl : t = m := by omega
                    rw [← HX2.out, ← HX3.out]; omega⟩)
                clear hb3 hb4 hx3 HBT
                go_wp2_with fail
                go_quiet (fail)
                go_wp2_with fail
                go_roundw
                case rel => exact ⟨m + 1, bb, by go_num, rfl, by omega, by omega, hN, Lib.hid (below_drewN HB.out _)⟩
                case measure => simp [intOf]; omega
          · have hdc : decide (x1 < x2) = false := decide_eq_false hgt
            have hN : Hid (BestAt L k (m + 1) bv) := Lib.hid (by
              rcases HBT.out with ⟨h0, hb⟩ | ⟨bb, h0, hb1, hb2, hb3, hb4⟩
              · exact .inl ⟨h0, fun t h1 h2 => by
                  rcases Nat.lt_or_ge t m with h | h
                  · exact hb t h1 h
                  · obtain rfl : t = m := by omega
                    rw [← HX1.out, ← HX2.out]; omega⟩
              · exact .inr ⟨bb, h0, hb1, by omega, hb3, fun t h1 h2 h3 => by
                  rcases Nat.lt_or_ge t m with h | h
                  · exact hb4 t h1 h h3
                  · obtain rfl : t = m := by omega
                    rw [← HX1.out, ← HX2.out] at h3; omega⟩)
            clear HBT
            go_wp2_with fail
            go_quiet (fail)
            go_wp2_with fail
            go_roundw
            case rel => exact ⟨m + 1, bv, by go_num, rfl, by omega, by omega, hN, Lib.hid (below_drewN HB.out _)⟩
            case measure => simp [intOf]; omega
        · obtain rfl : m = L.length := by omega
          rcases HBT.out with ⟨rfl, hb⟩ | ⟨bb, rfl, hb1, hb2, hb3, hb4⟩
          · have hf3 : Hid (∀ j : Nat, (k : Int) - 1 < j → j + 1 < L.length → L.getD (j + 1) 0 ≤ L.getD j 0) := Lib.hid fun j h1 h2 => by
              by_cases e : j = k
              · subst e; exact hb _ (by omega) h2
              · exact HF2.out j (by omega) h2
            clear hb HBT
            go_wp2_with fail
            go_roundw
            case rel => exact ⟨(k : Int) - 1, by go_num, by omega, by omega, by omega, hf3.out, HB⟩
            case measure => simp [intOf]; omega
          · clear hb3 hb4
            have hn0 : 0 < L.length := by omega
            have hnews : Hid (∀ W : World, Below w.heap.size w W → ∀ j u, (L.map (Value.int .i64))[j]? = some u → W.cell? ((⟨b, off, none⟩ : Addr).add j) = some u) := Lib.hid fun W hb j u hj => by
              have hjl : j < L.length := by have := (List.getElem?_eq_some_iff.1 hj).1; simpa using this
              have hadd : (⟨b, off, none⟩ : Addr).add j = ⟨b, off + j, none⟩ := by unfold Addr.add; split <;> simp_all
              rw [hadd, hb.cell (p := ⟨b, off + j, none⟩) hblt, HC.out j hjl, ← hj]
              simp [List.getD_eq_getElem?_getD, hjl]
            have hone : Hid (∀ u ∈ L.map (Value.int .i64), u.oneCell' = true) := Lib.hid fun u hu => by obtain ⟨x, _, rfl⟩ := List.mem_map.1 hu; rfl
            have HM := Lib.hid (show 0 + L.length ≤ maxLen by unfold maxLen; omega)
            have hsz := HB.out.size
            go_wp2_with (at_builtin; refine wpList_append_grows _ rfl (.tmp 53) (.tmp 54) 43 rfl 3 i0 (.int .i64 0) 1 8 Try.underlying43 hi hz0 hz1 hz2 rfl (by decide) _ 0 0 [] (by rfl) (by simp) (by simp) (fun _ _ j u h => by simp at h) ⟨b, off, none⟩ L.length cap (L.map (Value.int .i64)) (by rfl) (by simp) (hnews.out _ (HB.out.alloc hsz _)) hone.out (by omega) HM.out (by omega) ?_)
            intro s3 w3 ho3 hg3
            have hb3 : Below w.heap.size w w3 := (HB.out.alloc hsz _).trans (((Below.refl _ _).grown hg3 (Nat.le_refl _) (by simp)).mono (by simp; omega))
            have ho3' : w3.ownsRow (wr.alloc (.cells #[] 3)).heap.size 3 1 s3 L.length (L.map (Value.int .i64)) := by simpa using ho3
            obtain ⟨g, c3, rfl, hgc, hge, hrow⟩ := rowG_of_own (L := L) ho3' hn0
            have hge2 : w.heap.size ≤ g := by have h5 : (wr.alloc (.cells #[] 3)).heap.size = wr.heap.size + 1 := by simp
                                              omega
            have HR := Lib.hid hrow
            have HB3 := Lib.hid hb3
            clear ho3 ho3' hg3 hrow hge hb3 hnews hone HB hsz
            have c1 := HR.out.cell (i := k) (by omega)
            have c2 := HR.out.cell (i := bb) (by omega)
            obtain ⟨x1, hx1⟩ : ∃ x, x = L.getD k 0 := ⟨_, rfl⟩
            obtain ⟨x2, hx2⟩ : ∃ x, x = L.getD bb 0 := ⟨_, rfl⟩
            rw [← hx1] at c1
            rw [← hx2] at c2
            have HX1 := Lib.hid hx1
            have HX2 := Lib.hid hx2
            clear hx1 hx2
            have f1 := HR.out.frozen k
            have f2 := HR.out.frozen bb
            have hne : k ≠ bb := by omega
            have hbbl : bb < L.length := hb2
            have HR0 : Hid (∀ n, RowG (((w3.setCell ⟨g, k, none⟩ (.int .i64 x2)).setCell ⟨g, bb, none⟩ (.int .i64 x1)).drewN n) g ((L.set k x2).set bb x1)) := Lib.hid fun n => (HR.out.set (a := k) (by omega) _).set (by simp; omega) _
            have HB0 : Hid (∀ n, Below w.heap.size w (((w3.setCell ⟨g, k, none⟩ (.int .i64 x2)).setCell ⟨g, bb, none⟩ (.int .i64 x1)).drewN n)) := Lib.hid fun n => below_drewN ((HB3.out.setCell (by simpa using hge2) _).setCell (by simpa using hge2) _) _
            have hcg2 : ¬ (c3 : Int) = (k : Int) + 1 := by omega
            have hcg3 : ¬ c3 = k + 1 := by omega
            have hcg4 : k + 1 ≤ L.length := by omega
            go_wp2_with fail
            go_region
            go_wp2_with fail
            obtain ⟨R0, hR0⟩ : ∃ R0, R0 = (L.set k x2).set bb x1 := ⟨_, rfl⟩
            have HR1 := HR0.out 1
            have hRl : R0.length = L.length := by rw [hR0]; simp
            have HRE : Hid (R0 = (L.set k (L.getD bb 0)).set bb (L.getD k 0)) := Lib.hid (by rw [hR0, HX1.out, HX2.out])
            rw [← hR0] at HR1
            have HR1 := Lib.hid HR1
            clear c1 c2 f1 f2 HR HR0 hR0
            go_loopw [76] (fun c wr => ∃ (a : Nat) (Y : List Int), c = .int .i64 a ∧ a ≤ L.length - (k + 1) ∧ Hid (RowG wr g Y) ∧ Hid (Sorting L R0 Y k a (k + 1 + a + 1)) ∧ Hid (Below w.heap.size w wr)) (fun c _ => L.length - (k + 1) - (intOf c).toNat)
            case atStart => exact ⟨0, R0, rfl, by omega, HR1, Lib.hid (Sorting.start hRl), Lib.hid (HB0.out 1)⟩
            case round =>
              clear HR1 HB0
              obtain ⟨a, Y, rfl, han, HR, HS, HB⟩ := hrel
              by_cases hal : a < L.length - (k + 1)
              · go_wp2_with fail
                go_loopw [10] (fun c wr => ∃ (b' : Nat) (Y : List Int), c = .int .i64 b' ∧ a < b' ∧ b' ≤ L.length - (k + 1) ∧ Hid (RowG wr g Y) ∧ Hid (Sorting L R0 Y k a (k + 1 + b')) ∧ Hid (Below w.heap.size w wr)) (fun c _ => L.length - (k + 1) - (intOf c).toNat)
                case atStart => exact ⟨a + 1, Y, by go_num, by omega, by omega, HR, HS, HB⟩
                case round =>
                  clear HR HS HB
                  obtain ⟨b', Z, rfl, hab, hbn, HR, HS, HB⟩ := hrel
                  by_cases hbl : b' < L.length - (k + 1)
                  · have hZl := HS.out.len
                    have c1 := HR.out.cell (i := k + 1 + a) (by omega)
                    have c2 := HR.out.cell (i := k + 1 + b') (by omega)
                    obtain ⟨y1, hy1⟩ : ∃ x, x = Z.getD (k + 1 + a) 0 := ⟨_, rfl⟩
                    obtain ⟨y2, hy2⟩ : ∃ x, x = Z.getD (k + 1 + b') 0 := ⟨_, rfl⟩
                    rw [← hy1] at c1
                    rw [← hy2] at c2
                    have HY1 := Lib.hid hy1
                    have HY2 := Lib.hid hy2
                    clear hy1 hy2
                    by_cases hlt2 : y2 < y1
                    · have HSN : Hid (Sorting L R0 ((Z.set (k + 1 + a) y2).set (k + 1 + b') y1) k a (k + 1 + (b' + 1))) := Lib.hid (by
                        rw [HY1.out, HY2.out]
                        exact HS.out.swap (by omega) (by omega) (by rw [← HY1.out, ← HY2.out]; exact hlt2))
                      go_wp2_with fail
                      go_quiet (fail)
                      go_wp2_with fail
                      obtain ⟨wq, hwq⟩ : ∃ wq, wq = wr.drewN nq := ⟨_, rfl⟩
                      rw [← hwq]
                      have HRq : Hid (RowG wq g Z) := Lib.hid (by rw [hwq]; exact HR.out)
                      have HBq : Hid (Below w.heap.size w wq) := Lib.hid (by rw [hwq]; exact below_drewN HB.out _)
                      clear hwq HR HB c1 c2
                      have c1 := HRq.out.cell (i := k + 1 + a) (by omega)
                      have c2 := HRq.out.cell (i := k + 1 + b') (by omega)
                      rw [← HY1.out] at c1
                      rw [← HY2.out] at c2
                      have f1 := HRq.out.frozen (k + 1 + a)
                      have f2 := HRq.out.frozen (k + 1 + b')
                      have hne2 : k + 1 + a ≠ k + 1 + b' := by omega
                      have HRN : Hid (∀ n, RowG (((wq.setCell ⟨g, k + 1 + a, none⟩ (.int .i64 y2)).setCell ⟨g, k + 1 + b', none⟩ (.int .i64 y1)).drewN n) g ((Z.set (k + 1 + a) y2).set (k + 1 + b') y1)) := Lib.hid fun n => (HRq.out.set (a := k + 1 + a) (by omega) _).set (by simp; omega) _
                      have HBN : Hid (∀ n, Below w.heap.size w (((wq.setCell ⟨g, k + 1 + a, none⟩ (.int .i64 y2)).setCell ⟨g, k + 1 + b', none⟩ (.int .i64 y1)).drewN n)) := Lib.hid fun n => below_drewN ((HBq.out.setCell (by simpa using hge2) _).setCell (by simpa using hge2) _) _
                      clear hZl
                      go_region
                      go_wp2_with fail
                      go_roundw
                      case rel => exact ⟨b' + 1, _, by go_num, by omega, by omega, Lib.hid (HRN.out 1), HSN, Lib.hid (HBN.out 1)⟩
                      case measure => simp [intOf]; omega
                    · have HSN : Hid (Sorting L R0 Z k a (k + 1 + (b' + 1))) := Lib.hid (HS.out.skip (by rw [← HY1.out, ← HY2.out]; omega))
                      clear hZl
                      go_wp2_with fail
                      go_quiet (fail)
                      go_wp2_with fail
                      go_roundw
                      case rel => exact ⟨b' + 1, Z, by go_num, by omega, by omega, HR, HSN, Lib.hid (below_drewN HB.out _)⟩
                      case measure => simp [intOf]; omega
                  · have HSN : Hid (Sorting L R0 Z k (a + 1) (k + 1 + (a + 1) + 1)) := Lib.hid (HS.out.next (by omega))
                    clear HS
                    go_wp2_with fail
                    go_roundw
                    case rel => exact ⟨a + 1, Z, by go_num, by omega, HR, HSN, HB⟩
                    case measure => simp [intOf]; omega
              · have HN : Hid (IsNext L k Y) := Lib.hid (HS.out.ends (c := bb) (by omega) HBT.out HRE.out HF2.out)
                clear HS
                go_wp2_with fail
                go_ret2
                exact ⟨HB.out, .inr ⟨g, c3, k, Y, rfl, HN.out, hgc, HR.out⟩⟩

end Go.Proofs.Ytfahnjicinpahaa
