/- Contracts: Next of the program; what the next row is. -/
import Derived.Test.YtfahnjicinpahaaNxA
import Derived.Deep.QuietTactic
import Derived.BigQuiet
namespace Go.Proofs.Ytfahnjicinpahaa
open Go.RowKit
set_option linter.unusedVariables false

/-- R is the row behind L, that grows at place i. -/
structure IsNext (L : List Int) (i : Nat) (R : List Int) : Prop where
  len : R.length = L.length
  lt : i + 1 < L.length
  flat : ∀ j, i < j → j + 1 < L.length → L.getD (j + 1) 0 ≤ L.getD j 0
  grows : L.getD i 0 < L.getD (i + 1) 0
  front : ∀ t, t < i → R.getD t 0 = L.getD t 0
  perm : R.Perm L
  more : L.getD i 0 < R.getD i 0
  least : ∀ t, i < t → t < L.length → L.getD i 0 < L.getD t 0 → R.getD i 0 ≤ L.getD t 0
  among : ∃ t, i < t ∧ t < L.length ∧ L.getD t 0 = R.getD i 0
  sorted : ∀ t, i < t → t + 1 < L.length → R.getD t 0 ≤ R.getD (t + 1) 0
/-- No place can grow. -/
def NoNext (L : List Int) : Prop := ∀ j, j + 1 < L.length → L.getD (j + 1) 0 ≤ L.getD j 0

theorem ext_getD {A B : List Int} (hl : A.length = B.length) (h : ∀ t, t < A.length → A.getD t 0 = B.getD t 0) : A = B := by
  apply List.ext_getElem hl
  intro i h1 h2
  have := h i h1
  simpa [List.getD_eq_getElem?_getD, h1, h2] using this
theorem mono_of {L : List Int} {k : Nat} (h : ∀ j, k < j → j + 1 < L.length → L.getD (j + 1) 0 ≤ L.getD j 0) : ∀ d a, k < a → a + d < L.length → L.getD (a + d) 0 ≤ L.getD a 0
  | 0, a, _, _ => Int.le_refl _
  | d + 1, a, ha, hd => Int.le_trans (h (a + d) (by omega) (by omega)) (mono_of h d a ha (by omega))
theorem mono_le {L : List Int} {k : Nat} (h : ∀ j, k < j → j + 1 < L.length → L.getD (j + 1) 0 ≤ L.getD j 0) {a b : Nat} (ha : k < a) (hab : a ≤ b) (hb : b < L.length) : L.getD b 0 ≤ L.getD a 0 := by
  have := mono_of h (b - a) a ha (by omega)
  rwa [show a + (b - a) = b by omega] at this
theorem swap_perm {L : List Int} {k m : Nat} (hk : k < L.length) (hm : m < L.length) : ((L.set k (L.getD m 0)).set m (L.getD k 0)).Perm L := by
  have := List.set_set_perm hk hm
  simpa [List.getD_eq_getElem?_getD, hk, hm] using this
theorem rev_perm {X Y : List Int} {o : Nat} (ho : o ≤ X.length) (hl : Y.length = X.length) (h : ∀ t, t < X.length → Y.getD t 0 = if t < o then X.getD t 0 else X.getD (o + (X.length - 1 - t)) 0) : Y.Perm X := by
  have e : Y = X.take o ++ (X.drop o).reverse := by
    apply ext_getD (by simp [hl]; omega)
    intro t ht
    rw [h t (by omega)]
    by_cases h1 : t < o
    · rw [if_pos h1, List.getD_eq_getElem?_getD, List.getD_eq_getElem?_getD, List.getElem?_append_left (by simp; omega), List.getElem?_take_of_lt h1]
    · rw [if_neg h1, List.getD_eq_getElem?_getD, List.getD_eq_getElem?_getD, List.getElem?_append_right (by simp; omega), List.getElem?_reverse (by simp; omega), List.getElem?_drop]
      congr 2
      simp
      omega
  rw [e]
  refine ((List.reverse_perm _).append_left _).trans ?_
  rw [List.take_append_drop]

theorem next_math {L Y : List Int} {k m : Nat} (hkm : k < m) (hml : m < L.length) (hflat : ∀ j, k < j → j + 1 < L.length → L.getD (j + 1) 0 ≤ L.getD j 0) (hg : L.getD k 0 < L.getD (k + 1) 0) (hgm : L.getD k 0 < L.getD m 0) (hles : ∀ t, m < t → t < L.length → L.getD t 0 ≤ L.getD k 0)
    (hYl : Y.length = L.length) (hY : ∀ t, t < L.length → Y.getD t 0 = if t < k + 1 then ((L.set k (L.getD m 0)).set m (L.getD k 0)).getD t 0 else ((L.set k (L.getD m 0)).set m (L.getD k 0)).getD (k + 1 + (L.length - 1 - t)) 0) : IsNext L k Y := by
  have hX : ∀ t, ((L.set k (L.getD m 0)).set m (L.getD k 0)).getD t 0 = if t = m then L.getD k 0 else if t = k then L.getD m 0 else L.getD t 0 := fun t => by
    rw [getD_set _ _ _ _ (by simp; omega), getD_set _ _ _ _ (by omega)]
  have hp := rev_perm (X := (L.set k (L.getD m 0)).set m (L.getD k 0)) (Y := Y) (o := k + 1) (by simp; omega) (by simp [hYl]) (by simpa using hY)
  have hYk : Y.getD k 0 = L.getD m 0 := by rw [hY k (by omega), if_pos (by omega), hX, if_neg (by omega), if_pos rfl]
  refine ⟨hYl, by omega, hflat, hg, fun t ht => ?_, hp.trans (swap_perm (by omega) hml), by rw [hYk]; exact hgm, fun t h1 h2 h3 => ?_, ⟨m, hkm, hml, hYk.symm⟩, fun t h1 h2 => ?_⟩
  · rw [hY t (by omega), if_pos (by omega), hX, if_neg (by omega), if_neg (by omega)]
  · rw [hYk]
    rcases Nat.lt_or_ge m t with h | h
    · have := hles t h h2; omega
    · exact mono_le hflat h1 h hml
  · rw [hY t (by omega), hY (t + 1) h2, if_neg (by omega), if_neg (by omega)]
    obtain ⟨p, hp'⟩ : ∃ p, p = k + 1 + (L.length - 1 - (t + 1)) := ⟨_, rfl⟩
    rw [show k + 1 + (L.length - 1 - t) = p + 1 by omega, ← hp', hX, hX, if_neg (show ¬ p + 1 = k by omega), if_neg (show ¬ p = k by omega)]
    have hfp := hflat p (by omega) (by omega)
    by_cases e1 : p + 1 = m
    · have h4 : L.getD m 0 ≤ L.getD p 0 := by rw [← e1]; exact hfp
      rw [if_pos e1, if_neg (show ¬ p = m by omega)]; omega
    · rw [if_neg e1]
      by_cases e2 : p = m
      · rw [if_pos e2, e2]; exact hles (m + 1) (by omega) (by omega)
      · rw [if_neg e2]; exact hfp

set_option maxRecDepth 100000 in
set_option maxHeartbeats 600000 in
theorem next_any (w : World) (a : Option Addr) (cap : Nat) (L : List Int) (hs : Ints .i64 w (.slice a L.length cap) L) (hlen : L.length ≤ 60) (hz : ∀ x ∈ L, (Lit.int .i64 x).wf = true) :
    Calls Try.prog 26 #[.slice a L.length cap] w fun e w' => Below w.heap.size w w' ∧
      ((e = .returned (.tuple #[.slice none 0 0, .bool false]) ∧ NoNext L) ∨ ∃ g cap' i R, e = .returned (.tuple #[.slice (some ⟨g, 0, none⟩) L.length cap', .bool true]) ∧ IsNext L i R ∧ L.length ≤ cap' ∧ RowG w' g R) := by
  have hs0 := hs
  obtain ⟨a', cap', h1, hl⟩ := hs
  cases h1
  have HS := Lib.hid hs0
  have HL := Lib.hid hl
  clear hs0 hl hz
  go_enter Try.func26, Try.ntmps26
  go_wp2_with fail
  go_loopw [4] (fun v wr => ∃ i : Int, v = .int .i64 i ∧ -2 ≤ i ∧ i + 2 ≤ L.length ∧ (0 < L.length → -1 ≤ i) ∧ (∀ j : Nat, i < j → j + 1 < L.length → L.getD (j + 1) 0 ≤ L.getD j 0) ∧ Hid (Below w.heap.size w wr)) (fun v _ => (intOf v + 2).toNat)
  case atStart => exact ⟨(L.length : Int) - 2, by go_num, by omega, by omega, by omega, fun j h1 h2 => by omega, Lib.hid (Below.refl _ _)⟩
  case round =>
    obtain ⟨i, rfl, hi0, hi1, hi2, hflat, HB⟩ := hrel
    have HF := Lib.hid hflat
    clear hflat
    by_cases hneg : i < 0
    · have hno : Hid (NoNext L) := Lib.hid fun j hj => HF.out j (by omega) hj
      have hdc : decide (0 ≤ i) = false := decide_eq_false (by omega)
      go_wp2_with fail
      go_quiet (fail)
      go_wp2_with fail
      go_ret2
      exact ⟨below_drewN HB.out _, .inl ⟨rfl, hno.out⟩⟩
    · obtain ⟨k, rfl⟩ := Int.eq_ofNat_of_zero_le (show 0 ≤ i by omega)
      obtain ⟨b, off, rfl, hc⟩ : ∃ b off, a = some ⟨b, off, none⟩ ∧ ∀ i, i < L.length → w.cell? ⟨b, off + i, none⟩ = some (.int .i64 (L.getD i 0)) := by
        rcases HL.out with hl | h
        · subst hl; simp at hi1; omega
        · exact h
      have hblt : b < w.heap.size := World.block_lt_of_cell? w _ (hc k (by omega))
      have c1 := (HB.out.cell (p := ⟨b, off + k, none⟩) hblt).trans (hc k (by omega))
      have c2 := (HB.out.cell (p := ⟨b, off + (k + 1), none⟩) hblt).trans (hc (k + 1) (by omega))
      have HC := Lib.hid hc
      clear hc
      obtain ⟨x1, hx1⟩ : ∃ x, x = L.getD k 0 := ⟨_, rfl⟩
      obtain ⟨x2, hx2⟩ : ∃ x, x = L.getD (k + 1) 0 := ⟨_, rfl⟩
      rw [← hx1] at c1
      rw [← hx2] at c2
      have HX1 := Lib.hid hx1
      have HX2 := Lib.hid hx2
      clear hx1 hx2
      have hk2 : ((k : Int) + 1).toNat = k + 1 := by omega
      have hk3 : (k : Int) + 1 < (L.length : Int) := by omega
      by_cases hge : x2 ≤ x1
      · have hf2 : Hid (∀ j : Nat, (k : Int) - 1 < j → j + 1 < L.length → L.getD (j + 1) 0 ≤ L.getD j 0) := Lib.hid fun j h1 h2 => by
          by_cases e : j = k
          · subst e; rw [← HX1.out, ← HX2.out]; exact hge
          · exact HF.out j (by omega) h2
        go_wp2_with fail
        go_quiet (fail)
        go_wp2_with fail
        go_roundw
        case rel => exact ⟨(k : Int) - 1, by go_num, by omega, by omega, by omega, hf2.out, Lib.hid (below_drewN HB.out _)⟩
        case measure => simp [intOf]; omega
      · go_wp2
        go_quiet (fail)
        go_wp2_with fail
        have HW1 := Lib.hid (below_drewN HB.out nq)
        have HCL := Lib.hid (fun (h : 0 < L.length) => clone_any (wr.drewN nq) _ cap L (HS.out.kept HW1.out) h hlen)
        go_wp2_with (go_at_call 43; refine (HCL.out (by omega)).mono ?_; rintro e w2 ⟨g, cg, rfl, hcg, hge, hrow, hb2⟩)
        have HB2 := Lib.hid (HW1.out.trans (hb2.mono HW1.out.size))
        have HR2 := Lib.hid hrow
        have hge2 : w.heap.size ≤ g := Nat.le_trans HW1.out.size hge
        have HF2 : Hid (∀ j, k < j → j + 1 < L.length → L.getD (j + 1) 0 ≤ L.getD j 0) := Lib.hid fun j h1 h2 => HF.out j (by omega) h2
        clear hb2 hrow HB HF c1 c2 hge
        go_loopw [6] (fun v wr => ∃ m : Nat, v = .int .i64 m ∧ k < m ∧ m < L.length ∧ (∀ t, m < t → t < L.length → L.getD t 0 ≤ L.getD k 0) ∧ Hid (RowG wr g L) ∧ Hid (Below w.heap.size w wr)) (fun v _ => (intOf v).toNat)
        case atStart => exact ⟨L.length - 1, by go_num, by omega, by omega, fun t h1 h2 => by omega, HR2, HB2⟩
        case round =>
          clear HR2 HB2
          obtain ⟨m, rfl, hkm, hml, hles, HR, HB⟩ := hrel
          have HLE := Lib.hid hles
          clear hles
          have c1 := HR.out.cell (i := k) (by omega)
          have c2 := HR.out.cell (i := m) hml
          rw [← HX1.out] at c1
          obtain ⟨x3, hx3⟩ : ∃ x, x = L.getD m 0 := ⟨_, rfl⟩
          rw [← hx3] at c2
          have HX3 := Lib.hid hx3
          clear hx3
          by_cases hle : x3 ≤ x1
          · have hm2 : k + 1 ≠ m := fun e => by
              have h1 := HX2.out; rw [e, ← HX3.out] at h1; omega
            have hl2 : Hid (∀ t, m - 1 < t → t < L.length → L.getD t 0 ≤ L.getD k 0) := Lib.hid fun t h1 h2 => by
              by_cases e : t = m
              · subst e; rw [← HX1.out, ← HX3.out]; exact hle
              · exact HLE.out t (by omega) h2
            go_wp2_with fail
            go_quiet (fail)
            go_wp2_with fail
            go_roundw
            case rel => exact ⟨m - 1, by go_num, by omega, by omega, hl2.out, HR, Lib.hid (below_drewN HB.out _)⟩
            case measure => simp [intOf]; omega
          · go_wp2_with fail
            go_quiet (fail)
            go_wp2_with fail
            obtain ⟨wq, hwq⟩ : ∃ wq, wq = wr.drewN nq := ⟨_, rfl⟩
            rw [← hwq]
            have HRq : Hid (RowG wq g L) := Lib.hid (by rw [hwq]; exact HR.out)
            have HBq : Hid (Below w.heap.size w wq) := Lib.hid (by rw [hwq]; exact below_drewN HB.out _)
            clear hwq HR HB c1 c2
            have c1 := HRq.out.cell (i := k) (by omega)
            have c2 := HRq.out.cell (i := m) hml
            rw [← HX1.out] at c1
            rw [← HX3.out] at c2
            have f1 := HRq.out.frozen k
            have f2 := HRq.out.frozen m
            have hne : k ≠ m := by omega
            have HRN : Hid (∀ n, RowG (((wq.setCell ⟨g, k, none⟩ (.int .i64 x3)).setCell ⟨g, m, none⟩ (.int .i64 x1)).drewN n) g ((L.set k x3).set m x1)) := Lib.hid fun n => (HRq.out.set (a := k) (by omega) _).set (by simp; omega) _
            have HBN : Hid (∀ n, Below w.heap.size w (((wq.setCell ⟨g, k, none⟩ (.int .i64 x3)).setCell ⟨g, m, none⟩ (.int .i64 x1)).drewN n)) := Lib.hid fun n => below_drewN ((HBq.out.setCell (by simpa using hge2) _).setCell (by simpa using hge2) _) _
            have HRV : Hid (∀ n, Calls Try.prog 44 #[.slice (some ⟨g, k + 1, none⟩) (L.length - (k + 1)) (cg - (k + 1))] (((wq.setCell ⟨g, k, none⟩ (.int .i64 x3)).setCell ⟨g, m, none⟩ (.int .i64 x1)).drewN n) _) := Lib.hid fun n => reverse_any _ g (k + 1) (L.length - (k + 1)) (cg - (k + 1)) _ (HRN.out n) (by simp; omega) (by omega) (by simp; omega)
            have hcg2 : ¬ (cg : Int) = (k : Int) + 1 := by omega
            have hcg3 : ¬ cg = k + 1 := by omega
            have hcg4 : k + 1 ≤ L.length := by omega
            have HNX : Hid (∀ Y : List Int, Y.length = ((L.set k x3).set m x1).length → (∀ t, t < ((L.set k x3).set m x1).length → Y.getD t 0 = (if t < k + 1 then ((L.set k x3).set m x1).getD t 0 else if t < k + 1 + (L.length - (k + 1)) then ((L.set k x3).set m x1).getD (k + 1 + (k + 1 + (L.length - (k + 1)) - 1 - t)) 0 else ((L.set k x3).set m x1).getD t 0)) → IsNext L k Y) := Lib.hid fun Y h1 h2 => by
              have e1 := HX1.out
              have e3 := HX3.out
              refine next_math (m := m) (by omega) hml HF2.out (by rw [← HX1.out, ← HX2.out]; omega) (by rw [← HX1.out, ← HX3.out]; omega) HLE.out (by simpa using h1) fun t ht => ?_
              rw [← e1, ← e3, h2 t (by simpa using ht)]
              by_cases h5 : t < k + 1
              · rw [if_pos h5, if_pos h5]
              · rw [if_neg h5, if_neg h5, if_pos (by omega)]
                congr 1; omega
            go_region
            go_wp2_with fail
            refine (HRV.out 1).mono ?_
            rintro e w3 ⟨rfl, hk3, Y, hYl, hYr, hY⟩
            have HN := Lib.hid (HNX.out Y hYl hY)
            have HB3 := Lib.hid ((HBN.out 1).trans (hk3.below (n := w.heap.size) (HBN.out 1).size (fun j hj => by subst hj; exact hge2)))
            have HY3 := Lib.hid hYr
            clear hk3 hYl hYr hY
            go_wp2_with fail
            go_ret2
            exact ⟨HB3.out, .inr ⟨g, cg, k, Y, rfl, HN.out, hcg, HY3.out⟩⟩

end Go.Proofs.Ytfahnjicinpahaa
