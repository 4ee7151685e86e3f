/- Contracts: what a queue does. -/
import Derived.Test.YtfahnjicinpahaaLinD
import Derived.Deep.RegionHeldLaw
import Derived.Deep.RegionLawGrows
import Derived.ArgAppend
namespace Go.Proofs.Ytfahnjicinpahaa
open Go.RowKit
set_option linter.unusedVariables false

theorem Try.infoInt : (Try.prog.info? 3).map (fun i => (i.zero, i.size, i.bytes)) = some (some (.int .i64 0), 1, 8) := by kernel_rfl

/-- How a queue stands behind a call, and whether it does it. -/
def qnext (q : List Int) (x : QOp) : List Int := if x.put then q ++ [x.v] else if x.v < 0 then q else if q.head? = some x.v then q.tail else q
def qdoes (q : List Int) (x : QOp) : Bool := x.put || (if x.v < 0 then q.isEmpty else decide (q.head? = some x.v))

theorem IntsC.below {k : IntKind} {w w' : World} {s : Value} {l : List Int} (h : IntsC k w s l) (hb : Below w.heap.size w w') : IntsC k w' s l := by
  obtain ⟨a, cap, h1, h2, h3⟩ := h
  refine ⟨a, cap, h1, h2, h3.imp_right ?_⟩
  rintro ⟨b, off, rfl, hc⟩
  exact ⟨b, off, rfl, fun i hi => (hb.cell (p := ⟨b, off + i, none⟩) (World.block_lt_of_cell? w _ (hc i hi))).trans (hc i hi)⟩

theorem IntsC.of_owned {k : IntKind} {w : World} {base : Nat} {e : TypeId} {s : Value} {n : Nat} {l : List Int} (h : w.ownsRow base e 1 s n (l.map (Value.int k))) (hn : n = l.length) : IntsC k w s l := by
  subst hn
  rcases h.2 with ⟨hv, hn⟩ | ⟨g, cap, cur, hv, hb, hg, hnc, hcm, hcs, htk⟩
  · exact ⟨none, 0, by rw [hv, hn], by omega, .inl (List.eq_nil_of_length_eq_zero hn)⟩
  · refine ⟨_, cap, hv, hnc, .inr ⟨g, 0, rfl, fun i hi => ?_⟩⟩
    subst hv
    rw [Nat.zero_add, World.ownsRow.cellAt h i (by omega)]
    simp [List.getD_eq_getElem?_getD, hi]

set_option maxRecDepth 100000 in
set_option maxHeartbeats 2000000 in
theorem does_any (w : World) (s : Value) (q : List Int) (x : QOp) (hs : IntsC .i64 w s q) (hlen : q.length ≤ 60) :
    Calls Try.prog 38 #[s, .agg #[.bool x.put, .int .i64 x.v, .int .i64 x.f, .int .i64 x.t]] w fun e w' => ∃ s', e = .returned (.tuple #[s', .bool (qdoes q x)]) ∧ IntsC .i64 w' s' (qnext q x) ∧ Below w.heap.size w w' := by
  obtain ⟨i0, hi, hz0, hz1, hz2⟩ := info_parts Try.infoInt
  have hs0 := hs
  obtain ⟨a, cap, rfl, hcz, hl⟩ := hs
  have HL := Lib.hid hl
  obtain ⟨p, v, f, t⟩ := x
  have HM := Lib.hid (show q.length + 1 ≤ maxLen by unfold maxLen; omega)
  clear hl
  cases p with
  | true =>
    have HS0 := Lib.hid hs0
    clear hs0
    go_enter Try.func38, Try.ntmps38
    go_wp2
    have hnone : Hid (a = none → q.length = 0 ∧ q.length = 0) := Lib.hid fun h => by
      rcases HL.out with hl | ⟨b, off, h2, _⟩
      · subst hl; simp
      · rw [h] at h2; cases h2
    have holds : Hid (∀ W : World, Below w.heap.size w W → ∀ b, a = some b → ∀ j u, (q.map (Value.int .i64))[j]? = some u → W.cell? (b.add j) = some u) := Lib.hid fun W hb b hab j u hj => by
      have hjl : j < q.length := by have := (List.getElem?_eq_some_iff.1 hj).1; simpa using this
      rcases HL.out with hl | ⟨b', off, h2, hc⟩
      · subst hl; simp at hjl
      · rw [hab] at h2
        cases h2
        have hadd : (⟨b', off, none⟩ : Addr).add j = ⟨b', off + j, none⟩ := by unfold Addr.add; split <;> simp_all
        rw [hadd, hb.cell (p := ⟨b', off + j, none⟩) (World.block_lt_of_cell? w _ (hc j hjl)), hc j hjl, ← hj]
        simp [List.getD_eq_getElem?_getD, hjl]
    go_region_held_law (fun w' => w'.cell? ⟨w.heap.size, 1, none⟩ = some (.int .i64 v))
      (first | go_keep | exact hk)
      ((refine step_append_grows rfl (.tmp 14) (.tmp 17) 43 rfl 3 i0 (.int .i64 0) 1 8 Try.underlying43 hi hz0 hz1 hz2 rfl (by decide) a q.length q.length (q.map (Value.int .i64)) (by rfl) hnone.out (by simp) (holds.out _ (by repeat (first | exact Below.refl _ _ | refine Below.alloc ?_ (by simp) _ | refine Below.drew ?_))) ⟨w.heap.size + 1, 0, none⟩ 1 1 [.int .i64 v] (by rfl) (by simp) (by intro j u hu; have hj : j = 0 := (by have := (List.getElem?_eq_some_iff.1 hu).1; simp at this; omega); subst hj; simp at hu; subst hu; simp [Addr.add]) (by simp [Value.oneCell']) (by omega) HM.out (by omega) ?_; intro s3 w3 ho3 hg3; have hb3 := (Below.refl _ _).grown hg3 (Nat.le_refl _) (by simp); have hk : w3.cell? ⟨w.heap.size, 1, none⟩ = some (.int .i64 v) := (hb3.cell (p := ⟨w.heap.size, 1, none⟩) (by simp; try omega)).trans (by simp)))
    all_goals
      have ho4 : Hid (IntsC .i64 w3 s3 (q ++ [v])) := Lib.hid (IntsC.of_owned (l := q ++ [v]) (by rw [List.map_append]; exact ho3) (by simp))
      have hb4 : Hid (Below w.heap.size w w3) := Lib.hid (Below.trans (by repeat (first | exact Below.refl _ _ | refine Below.alloc ?_ (by simp) _ | refine Below.drew ?_)) (hb3.mono (by simp; try omega)))
      clear ho3 hg3 hb3
      simp only [List.getElem_toArray, List.getElem_cons_succ, List.getElem_cons_zero, List.set_cons_succ, List.set_cons_zero, List.setIfInBounds_toArray]
      go_wp2
      go_ret2
      exact ⟨s3, by simp [qdoes], by simpa [qnext] using ho4.out, hb4.out⟩
  | false =>
    have HS0 := Lib.hid hs0
    clear hs0
    by_cases hv : v < 0
    · go_enter Try.func38, Try.ntmps38
      go_wp2
      go_ret2
      exact ⟨.slice a q.length cap, by cases q <;> simp [qdoes, hv] <;> omega, by simpa [qnext, hv] using HS0.out.below ((Below.refl _ w).alloc (Nat.le_refl _) _), (Below.refl _ w).alloc (Nat.le_refl _) _⟩
    · cases q with
      | nil =>
        go_enter Try.func38, Try.ntmps38
        go_wp2
        go_quiet (fail)
        go_wp2
        go_ret2
        exact ⟨.slice a 0 cap, by simp [qdoes, hv], by simpa [qnext, hv] using (HS0.out.below (below_drewN ((Below.refl _ w).alloc (Nat.le_refl _) _) _)), below_drewN ((Below.refl _ w).alloc (Nat.le_refl _) _) _⟩
      | cons h tl =>
        obtain ⟨b, off, rfl, hc⟩ : ∃ b off, a = some ⟨b, off, none⟩ ∧ ∀ i, i < (h :: tl).length → w.cell? ⟨b, off + i, none⟩ = some (.int .i64 ((h :: tl).getD i 0)) := by
          rcases HL.out with hl | h
          · cases hl
          · exact h
        have hx : w.cell? ⟨b, off, none⟩ = some (.int .i64 h) := hc 0 (by simp)
        have hblt : b < w.heap.size := World.block_lt_of_cell? w _ hx
        have hx2 : (w.alloc (.cells #[.bool false, .int .i64 v, .int .i64 f, .int .i64 t] 65)).cell? ⟨b, off, none⟩ = some (.int .i64 h) := ((Below.refl _ w).alloc (Nat.le_refl _) _ |>.cell (p := ⟨b, off, none⟩) hblt).trans hx
        have HC := Lib.hid hc
        clear hc hx
        by_cases hhv : h = v
        · subst hhv
          have hdn : ((h != h) : Bool) = false := by simp
          have hq1 : Hid (qnext (h :: tl) ⟨false, h, f, t⟩ = tl) := Lib.hid (by simp [qnext, hv])
          have hq2 : Hid (qdoes (h :: tl) ⟨false, h, f, t⟩ = true) := Lib.hid (by simp [qdoes, hv])
          go_enter Try.func38, Try.ntmps38
          go_wp2
          go_quiet (fail)
          go_wp2
          · have htl : tl = [] := List.eq_nil_of_length_eq_zero (by simp at hcz; omega)
            subst htl
            go_ret2
            exact ⟨.slice (some ⟨b, off, none⟩) 0 0, by rw [hq2.out]; rfl, by rw [hq1.out]; exact ⟨some ⟨b, off, none⟩, 0, rfl, by simp, .inl rfl⟩, below_drewN ((Below.refl _ w).alloc (Nat.le_refl _) _) _⟩
          · have hT : Hid (IntsC .i64 w (.slice (some ⟨b, off + 1, none⟩) tl.length (cap - 1)) tl) := Lib.hid ⟨some ⟨b, off + 1, none⟩, cap - 1, rfl, by simp at hcz; omega, .inr ⟨b, off + 1, rfl, fun i hi => by
              have := HC.out (i + 1) (by simp; omega)
              rw [show off + 1 + i = off + (i + 1) by omega, this]
              simp [List.getD_eq_getElem?_getD]⟩⟩
            go_ret2
            exact ⟨.slice (some ⟨b, off + 1, none⟩) tl.length (cap - 1), by rw [hq2.out]; rfl, by rw [hq1.out]; exact (hT.out.below (below_drewN ((Below.refl _ w).alloc (Nat.le_refl _) _) _)), below_drewN ((Below.refl _ w).alloc (Nat.le_refl _) _) _⟩
        · have hdn : (h != v) = true := by simp [hhv]
          go_enter Try.func38, Try.ntmps38
          go_wp2
          go_quiet (fail)
          go_wp2
          go_ret2
          exact ⟨.slice (some ⟨b, off, none⟩) (tl.length + 1) cap, by simp [qdoes, hhv], by simpa [qnext, hv, hhv] using (HS0.out.below (below_drewN ((Below.refl _ w).alloc (Nat.le_refl _) _) _)), below_drewN ((Below.refl _ w).alloc (Nat.le_refl _) _) _⟩

end Go.Proofs.Ytfahnjicinpahaa
