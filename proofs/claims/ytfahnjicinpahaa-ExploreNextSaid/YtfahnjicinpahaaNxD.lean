/- The next row is one; contracts: the same row; the statement. -/
import Derived.Test.YtfahnjicinpahaaNxC
namespace Go.Proofs.Ytfahnjicinpahaa
open Go.RowKit
set_option linter.unusedVariables false

theorem IsNext.not_no {L R : List Int} {i : Nat} (h : IsNext L i R) (n : NoNext L) : False := by
  have := n i h.lt
  have := h.grows
  omega
theorem IsNext.place {L R R' : List Int} {i i' : Nat} (h : IsNext L i R) (h' : IsNext L i' R') : i = i' := by
  rcases Nat.lt_trichotomy i i' with hlt | he | hlt
  · have := h.flat i' hlt h'.lt; have := h'.grows; omega
  · exact he
  · have := h'.flat i hlt h.lt; have := h.grows; omega
theorem pair_of {R : List Int} {i : Nat} (h : ∀ t, i < t → t + 1 < R.length → R.getD t 0 ≤ R.getD (t + 1) 0) : (R.drop (i + 1)).Pairwise (· ≤ ·) := by
  have up : ∀ d a, i < a → a + d < R.length → R.getD a 0 ≤ R.getD (a + d) 0 := by
    intro d
    induction d with
    | zero => intro a _ _; exact Int.le_refl _
    | succ d ih => intro a ha hd; exact Int.le_trans (ih a ha (by omega)) (h (a + d) (by omega) (by omega))
  rw [List.pairwise_iff_getElem]
  intro p q hp hq hpq
  have hp' : i + 1 + p < R.length := by simp at hp; omega
  have hq' : i + 1 + q < R.length := by simp at hq; omega
  have := up (q - p) (i + 1 + p) (by omega) (by omega)
  rw [show i + 1 + p + (q - p) = i + 1 + q by omega] at this
  simpa [List.getD_eq_getElem?_getD, hp', hq'] using this
theorem IsNext.one {L R R' : List Int} {i i' : Nat} (h : IsNext L i R) (h' : IsNext L i' R') : R = R' := by
  obtain rfl := h.place h'
  have e1 : R.getD i 0 = R'.getD i 0 := by
    obtain ⟨t, a1, a2, a3⟩ := h.among
    obtain ⟨t', b1, b2, b3⟩ := h'.among
    have m := h.more
    have m' := h'.more
    have := h'.least t a1 a2 (by rw [a3]; exact m)
    have := h.least t' b1 b2 (by rw [b3]; exact m')
    omega
  have hl : R.length = R'.length := h.len.trans h'.len.symm
  have hlt := h.lt
  have hL := h.len
  have hfront : R.take (i + 1) = R'.take (i + 1) := by
    apply ext_getD (by simp [hl])
    intro t ht
    have ht' : t < i + 1 := by simp at ht; omega
    have g1 : (R.take (i + 1)).getD t 0 = R.getD t 0 := by simp [List.getD_eq_getElem?_getD, List.getElem?_take_of_lt ht']
    have g2 : (R'.take (i + 1)).getD t 0 = R'.getD t 0 := by simp [List.getD_eq_getElem?_getD, List.getElem?_take_of_lt ht']
    rw [g1, g2]
    rcases Nat.lt_or_ge t i with hh | hh
    · rw [h.front t hh, h'.front t hh]
    · obtain rfl : t = i := by omega
      exact e1
  have hp : (R.drop (i + 1)).Perm (R'.drop (i + 1)) := by
    have hpp : R.Perm R' := h.perm.trans h'.perm.symm
    rw [← List.take_append_drop (i + 1) R, ← List.take_append_drop (i + 1) R', hfront] at hpp
    exact (List.perm_append_left_iff _).1 hpp
  have hd : R.drop (i + 1) = R'.drop (i + 1) := List.Perm.eq_of_pairwise (le := (· ≤ ·)) (fun a b _ _ h1 h2 => Int.le_antisymm h1 h2) (pair_of fun t h1 h2 => h.sorted t h1 (by omega)) (pair_of fun t h1 h2 => h'.sorted t h1 (by have := h'.len; omega)) hp
  rw [← List.take_append_drop (i + 1) R, ← List.take_append_drop (i + 1) R', hfront, hd]

theorem RowG.ints {w : World} {g : Nat} {R : List Int} (h : RowG w g R) (cap : Nat) : Ints .i64 w (.slice (some ⟨g, 0, none⟩) R.length cap) R :=
  ⟨_, cap, rfl, .inr ⟨g, 0, rfl, fun i hi => by rw [Nat.zero_add]; exact h.cell hi⟩⟩

set_option maxRecDepth 100000 in
set_option maxHeartbeats 600000 in
theorem same39_any (w : World) (aA : Option Addr) (cA : Nat) (aB : Option Addr) (cB : Nat) (R : List Int) (hA : Ints .i64 w (.slice aA R.length cA) R) (hB : Ints .i64 w (.slice aB R.length cB) R) (hlen : R.length ≤ 60) :
    Calls Try.prog 28 #[.slice aA R.length cA, .slice aB R.length cB] w fun e w' => e = .returned (.bool true) ∧ Below w.heap.size w w' := by
  have HA := Lib.hid hA
  have HB := Lib.hid hB
  clear hA hB
  go_enter Try.func28, Try.ntmps28
  go_wp2_with fail
  go_loopw [13] (fun c wr => ∃ k : Nat, c = .int .i64 k ∧ k ≤ R.length ∧ Hid (Below w.heap.size w wr)) (fun c _ => R.length - (intOf c).toNat)
  case atStart => exact ⟨0, rfl, by omega, Lib.hid (Below.refl _ _)⟩
  case round =>
    obtain ⟨k, rfl, hk, HW⟩ := hrel
    by_cases hlt : k < R.length
    · obtain ⟨a1, c1', e1, h1⟩ := HA.out
      cases e1
      obtain ⟨a2, c2', e2, h2⟩ := HB.out
      cases e2
      obtain ⟨b1, o1, rfl, hc1⟩ : ∃ b off, aA = some ⟨b, off, none⟩ ∧ ∀ i, i < R.length → w.cell? ⟨b, off + i, none⟩ = some (.int .i64 (R.getD i 0)) := by
        rcases h1 with hl | h
        · subst hl; simp at hlt
        · exact h
      obtain ⟨b2, o2, rfl, hc2⟩ : ∃ b off, aB = some ⟨b, off, none⟩ ∧ ∀ i, i < R.length → w.cell? ⟨b, off + i, none⟩ = some (.int .i64 (R.getD i 0)) := by
        rcases h2 with hl | h
        · subst hl; simp at hlt
        · exact h
      have x1 := (HW.out.cell (p := ⟨b1, o1 + k, none⟩) (World.block_lt_of_cell? w _ (hc1 k hlt))).trans (hc1 k hlt)
      have x2 := (HW.out.cell (p := ⟨b2, o2 + k, none⟩) (World.block_lt_of_cell? w _ (hc2 k hlt))).trans (hc2 k hlt)
      clear h1 h2 hc1 hc2
      generalize R.getD k 0 = x at *
      have hdn : (x != x) = false := by simp
      go_wp2_with fail
      go_quiet (fail)
      go_wp2_with fail
      go_roundw
      case rel => exact ⟨k + 1, by go_num, by omega, Lib.hid (below_drewN HW.out _)⟩
      case measure => simp [intOf]; omega
    · obtain rfl : k = R.length := by omega
      go_wp2_with fail
      go_ret
      exact ⟨rfl, HW.out⟩

set_option maxRecDepth 100000 in
set_option maxHeartbeats 600000 in
theorem nextLaw_any (w : World) (a : Option Addr) (cap : Nat) (L : List Int) (hs : Ints .i64 w (.slice a L.length cap) L) (hlen : L.length ≤ 60) (hz : ∀ x ∈ L, (Lit.int .i64 x).wf = true) (hf : Calls Try.prog 25 #[] w fun e w' => e = .returned (.bool true) ∧ Below w.heap.size w w') :
    Calls Try.prog 7 #[.slice a L.length cap] w fun e w' => e = .returned (.bool true) ∧ Below w.heap.size w w' := by
  have HN := Lib.hid (fun w2 (hb : Below w.heap.size w w2) => next_any w2 a cap L (hs.kept hb) hlen hz)
  have HM := Lib.hid (fun w2 (hb : Below w.heap.size w w2) => rnext_any w2 a cap L (hs.kept hb) hlen)
  have HF := Lib.hid hf
  clear hs hf hz
  go_enter Try.func7, Try.ntmps7
  go_wp2_with (go_at_call 25; refine HF.out.mono ?_; rintro e w1 ⟨rfl, hb1⟩)
  refine (HN.out _ hb1).mono ?_
  rintro e w2 ⟨hb2, ⟨rfl, hno⟩ | ⟨g, cg, i, R, rfl, hnx, hcg, hrow⟩⟩
  · have hb2' := hb1.trans (hb2.mono hb1.size)
    go_wp2_with fail
    refine (HM.out _ hb2').mono ?_
    rintro e w3 ⟨hb3, ⟨rfl, hno'⟩ | ⟨g', cg', i', R', rfl, hnx', _⟩⟩
    · have hb3' := hb2'.trans (hb3.mono hb2'.size)
      have HS := Lib.hid (same39_any w3 none 0 none 0 [] ⟨none, 0, rfl, .inl rfl⟩ ⟨none, 0, rfl, .inl rfl⟩ (by simp))
      clear hno hno'
      go_wp2_with (go_at_call 28; refine HS.out.mono ?_; rintro e w4 ⟨rfl, hb4⟩)
      go_ret
      exact ⟨by simp, hb3'.trans (hb4.mono hb3'.size)⟩
    · exact absurd hno (fun h => hnx'.not_no h)
  · have hb2' := hb1.trans (hb2.mono hb1.size)
    have HR := Lib.hid hrow
    have HX := Lib.hid hnx
    clear hrow hnx
    go_wp2_with fail
    refine (HM.out _ hb2').mono ?_
    rintro e w3 ⟨hb3, ⟨rfl, hno'⟩ | ⟨g', cg', i', R', rfl, hnx', hcg', hrow'⟩⟩
    · exact absurd hno' (fun h => HX.out.not_no h)
    · have hb3' := hb2'.trans (hb3.mono hb2'.size)
      obtain rfl := HX.out.one hnx'
      have hRl : R.length = L.length := HX.out.len
      have HS : Hid (Calls Try.prog 28 #[.slice (some ⟨g, 0, none⟩) L.length cg, .slice (some ⟨g', 0, none⟩) L.length cg'] w3 fun e w' => e = .returned (.bool true) ∧ Below w3.heap.size w3 w') := Lib.hid (by
        rw [← hRl]
        exact same39_any w3 _ cg _ cg' R ((HR.out.ints cg).kept hb3) (hrow'.ints cg') (by omega))
      clear hrow' hnx' hRl
      go_wp2_with (go_at_call 28; refine HS.out.mono ?_; rintro e w4 ⟨rfl, hb4⟩)
      go_ret
      exact ⟨by simp, hb3'.trans (hb4.mono hb3'.size)⟩

end Go.Proofs.Ytfahnjicinpahaa
