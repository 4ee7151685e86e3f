/- Contracts: a queue's calls, by the document. -/
import Derived.Test.YtfahnjicinpahaaLinF
import Derived.Deep.AppendLies
import Derived.Deep.Upon
namespace Go.Proofs.Ytfahnjicinpahaa
open Go.RowKit
set_option linter.unusedVariables false

/-- Nothing is appended, at a step of a region that draws its order. -/
theorem step_append_none {P : Program} {ops : Array Oper} {o : Oper} {a : Act} {w : World} {K : Act → World → Prop} {Q : Exit → Act → World → Prop} {E : Prop}
    (hg : o.guard = none) (s x : Operand) (t : TypeId) (hop : o.op = Op.call { callee := Callee.builtin Builtin.append, args := #[s, x], argTypes := #[t, t] })
    (e : TypeId) (i : TypeInfo) (h1 : P.underlying t = some (.slice e)) (h2 : P.info? e = some i) (ao : Option Addr) (n cap : Nat) (hs : a.eval s = .slice ao n cap) (hle : n ≤ cap) (xo : Option Addr) (c : Nat) (hx : a.eval x = .slice xo 0 c)
    (hK : K (a.put o.dst (.slice ao n cap)) w) : if Region.wanted o (yielded ops a.tmps) = true then Oper.wp P o a w K Q else E := by
  have hw : Region.wanted o (yielded ops a.tmps) = true := by simp [Region.wanted, hg]
  rw [if_pos hw]
  have hsrc : Src P i.size t (.slice xo 0 c) 0 [] w := by
    cases xo with
    | none => exact Src.ofNil w h1 c
    | some b => exact Src.ofSlice w h1 b 0 c [] (by simp) (fun j u h => by simp at h) (fun u h => by cases h)
  have hrun := run_append_nothing (P := P) w t t o.type e i h1 h2 ao n cap hle _ hsrc
  unfold Oper.wp
  simp [execOp, hop, resolve, invoke, builtin, hs, hx, hrun, Result.andThen]
  exact hK

theorem add0 (b : Nat) : (⟨b, 0, none⟩ : Addr).add 0 = ⟨b, 0, none⟩ := by simp [Addr.add]
theorem cell_last (w : World) (v : Value) (t : TypeId) (k : Nat) (hk : k = w.heap.size) : (w.alloc (.cells #[v] t)).drew.cell? ⟨k, 0, none⟩ = some v := by
  subst hk
  simp

theorem cell_last2 (w : World) (v : Value) (t : TypeId) (k : Nat) (hk : k = w.heap.size) : (w.alloc (.cells #[v] t)).cell? ((⟨k, 0, none⟩ : Addr).add 0) = some v := by
  subst hk
  rw [add0]
  simp
theorem owns_mono {w : World} {b b' : Nat} {e : TypeId} {size : Nat} {v : Value} {n : Nat} {xs : List Value} (h : w.ownsRow b e size v n xs) (hb : b' ≤ b) : w.ownsRow b' e size v n xs := by
  refine ⟨h.1, h.2.imp_right ?_⟩
  rintro ⟨g, cap, cur, hv, hg, r⟩
  exact ⟨g, cap, cur, hv, Nat.le_trans hb hg, r⟩

set_option maxRecDepth 100000 in
set_option maxHeartbeats 4000000 in
theorem plays_any (w : World) (al : Option Addr) (capl : Nat) (a : Option Addr) (cap : Nat) (qs : List QOp) (zs : List Int) (hcl : qs.length ≤ capl) (hcz : zs.length ≤ cap)
    (hql : qs = [] ∨ ∃ b off, al = some ⟨b, off, none⟩ ∧ ∀ i, i < qs.length →
      w.cell? ⟨b, off + i * 4, none⟩ = some (.bool (qs.getD i q0).put) ∧ w.cell? ⟨b, off + i * 4 + 1, none⟩ = some (.int .i64 (qs.getD i q0).v) ∧ w.cell? ⟨b, off + i * 4 + 2, none⟩ = some (.int .i64 (qs.getD i q0).f) ∧ w.cell? ⟨b, off + i * 4 + 3, none⟩ = some (.int .i64 (qs.getD i q0).t))
    (hl : zs = [] ∨ ∃ b off, a = some ⟨b, off, none⟩ ∧ ∀ i, i < zs.length → w.cell? ⟨b, off + i, none⟩ = some (.int .i64 (zs.getD i 0))) (hn : qs.length ≤ 60) (hlen : zs.length ≤ 60) (hrow : rowOk qs.length zs) (B : Bool) (hB : B = true ↔ (qst qs zs zs.length).isSome = true) :
    Calls Try.prog 39 #[.slice al qs.length capl, .slice a zs.length cap] w fun e w' => e = .returned (.bool B) ∧ Below w.heap.size w w' := by
  obtain ⟨i0, hi, hz0, hz1, hz2⟩ := info_parts Try.infoInt
  have HQL := Lib.hid hql
  have HL := Lib.hid hl
  have HB := Lib.hid hB
  have HROW := Lib.hid hrow
  clear hql hl hB hrow
  go_enter Try.func39, Try.ntmps39
  go_wp2
  by_cases h0 : 0 < zs.length
  rotate_left
  · go_loop [11] (fun c => c = .int .i64 0) (fun c => 0)
    case atStart => rfl
    case round =>
      obtain rfl := hrel
      have hz0 : zs.length = 0 := by omega
      have hyes : Hid (B = true) := Lib.hid (HB.out.2 (by rw [hz0]; rfl))
      go_wp2
      go_ret
      exact ⟨by rw [hyes.out]; rfl, Below.refl _ _⟩
  obtain ⟨b, off, b2, off2, rfl, rfl, hW⟩ := fitW_of (cap := cap) (capl := capl) HL.out HQL.out h0 HROW.out (Below.refl _ _)
  have HW0 := Lib.hid hW
  clear hW HL HQL
  go_loopw [5, 11] (fun v c wr => ∃ (k : Nat) (q : List Int), k ≤ zs.length ∧ c = .int .i64 k ∧ Hid (FitW w wr b off zs b2 off2 qs) ∧ Hid (IntsC .i64 wr v q) ∧ Hid (qst qs zs k = some q) ∧ q.length ≤ k) (fun _ c _ => zs.length - (intOf c).toNat)
  case atStart => exact ⟨0, [], by omega, rfl, HW0, Lib.hid ⟨none, 0, rfl, by simp, .inl rfl⟩, Lib.hid rfl, by simp⟩
  case round =>
    clear HW0
    obtain ⟨k, q, hk, rfl, HW, HQ, HST, hql⟩ := hrel
    by_cases hlt : k < zs.length
    · have hx := HW.out.row k hlt
      have hrn := (rn_ok HROW.out hlt).2
      obtain ⟨c1, c2, c3, c4⟩ := HW.out.opx hrn
      have hst2 : qst qs zs (k + 1) = if qdoes q (opAt qs zs k) = true then some (qnext q (opAt qs zs k)) else none := by unfold qst; rw [HST.out]
      have hnl := qnext_len q (opAt qs zs k)
      have hno : qdoes q (opAt qs zs k) = false → B = false := fun hd => Bool.eq_false_iff.2 fun h => by
        have h1 := HB.out.1 h
        rw [qst_none (k := k + 1) (by rw [hst2, hd]; rfl) zs.length (by omega)] at h1
        cases h1
      generalize opAt qs zs k = x at *
      generalize rn zs k = r at *
      obtain ⟨p, xv, xf, xt⟩ := x
      have HST2 := Lib.hid hst2
      have HNO := Lib.hid hno
      have HNL := Lib.hid hnl
      clear hst2 HST hno hnl
      cases p with
      | true =>
        have HN : Hid (qst qs zs (k + 1) = some (q ++ [xv])) := Lib.hid (by rw [HST2.out]; simp [qdoes, qnext])
        obtain ⟨aq, cq, rfl, hcq, hlq⟩ := HQ.out
        have HLQ := Lib.hid hlq
        clear hlq HST2 HNO HNL HQ
        have HM1 := Lib.hid (show 0 + q.length ≤ maxLen by unfold maxLen; omega)
        have HM2 := Lib.hid (show q.length + 1 ≤ maxLen by unfold maxLen; omega)
        have hone : Hid (∀ u ∈ q.map (Value.int .i64), u.oneCell' = true) := Lib.hid fun u hu => by obtain ⟨x, _, rfl⟩ := List.mem_map.1 hu; rfl
        by_cases hq0 : q = []
        · subst hq0
          go_wp2
          go_region_held_law (fun w' => w'.cell? ⟨wr.heap.size, 1, none⟩ = some (.int .i64 xv))
            (first | go_keep | exact hk1)
            (first
              | (refine step_append_none rfl (.tmp 21) (.tmp 22) 43 rfl 3 i0 Try.underlying43 hi _ 0 0 (by rfl) (by omega) aq cq (by rfl) ?_)
              | (refine step_append_grows rfl (.tmp 23) (.tmp 26) 43 rfl 3 i0 (.int .i64 0) 1 8 Try.underlying43 hi hz0 hz1 hz2 rfl (by decide) _ 0 0 [] (by rfl) (by simp) (by simp) (by simp) ⟨_, 0, none⟩ 1 1 [.int .i64 xv] (by rfl) (by rfl) (by intro j u hu; have hj : j = 0 := (by have := (List.getElem?_eq_some_iff.1 hu).1; simp at this; omega); subst hj; simp at hu; subst hu; first | (simp [Addr.add]; done) | exact cell_last _ _ _ _ rfl | exact cell_last2 _ _ _ _ (by simp) | (rw [add0]; exact (((Below.refl _ ((wr.alloc (.cells #[.bool true, .int .i64 xv, .int .i64 xf, .int .i64 xt] 65)).alloc (.cells #[.int .i64 xv] 3))).alloc (Nat.le_refl _) _).cell (p := ⟨wr.heap.size + 1, 0, none⟩) (by simp)).trans (show _ = some (Value.int .i64 xv) by simp)))
                  (by simp [Value.oneCell']) (by omega) (by unfold maxLen; omega) (by omega) ?_; intro s3 w3 ho3 hg3; rw [Nat.zero_add, List.nil_append] at ho3; have hb3 := (Below.refl _ _).grown hg3 (Nat.le_refl _) (by simp); have hbb : Below wr.heap.size wr w3 := Below.trans (by repeat (first | exact Below.refl _ _ | refine Below.alloc ?_ (by first | (simp; done) | (simp; omega)) _ | refine Below.drew ?_)) (hb3.mono (by first | (simp; done) | (simp; omega))); have hk1 : w3.cell? ⟨wr.heap.size, 1, none⟩ = some (.int .i64 xv) := (hb3.cell (p := ⟨wr.heap.size, 1, none⟩) (by first | (simp; done) | (simp; omega))).trans (by first | assumption | (simp; done))))
          all_goals
            have ho6 : Hid (IntsC .i64 w3 s3 ([] ++ [xv])) := Lib.hid (IntsC.of_owned (l := [] ++ [xv]) ho3 (by simp))
            have hb6 := Lib.hid hbb
            clear ho3 hg3 hb3 hbb hk1
            simp only [List.getElem_toArray, List.getElem_cons_succ, List.getElem_cons_zero, List.set_cons_succ, List.set_cons_zero, List.setIfInBounds_toArray]
            go_wp2
            go_roundw
            case rel => exact ⟨k + 1, [] ++ [xv], by omega, by go_num, Lib.hid (HW.out.on hb6.out), ho6, HN, by simp⟩
            case measure => simp [intOf]; omega
        · obtain ⟨b4, off4, rfl, hc⟩ : ∃ b off, aq = some ⟨b, off, none⟩ ∧ ∀ i, i < q.length → wr.cell? ⟨b, off + i, none⟩ = some (.int .i64 (q.getD i 0)) := by
            rcases HLQ.out with hl | h
            · exact absurd hl hq0
            · exact h
          have hq1 : 0 < q.length := by cases q <;> simp_all
          have hnews : Hid (∀ W : World, Below wr.heap.size wr W → ∀ j u, (q.map (Value.int .i64))[j]? = some u → W.cell? ((⟨b4, off4, none⟩ : Addr).add j) = some u) := Lib.hid fun W hb j u hj => by
            have hjl : j < q.length := by have := (List.getElem?_eq_some_iff.1 hj).1; simpa using this
            have hadd : (⟨b4, off4, none⟩ : Addr).add j = ⟨b4, off4 + j, none⟩ := by unfold Addr.add; split <;> simp_all
            rw [hadd, hb.cell (p := ⟨b4, off4 + j, none⟩) (World.block_lt_of_cell? wr _ (hc j hjl)), hc j hjl, ← hj]
            simp [List.getD_eq_getElem?_getD, hjl]
          clear hc HLQ
          go_wp2
          go_region_held_law (fun w' => w'.cell? ⟨wr.heap.size, 1, none⟩ = some (.int .i64 xv))
            (first | go_keep | exact hk1 | exact hk2)
            (first
              | (refine step_append_grows rfl (.tmp 21) (.tmp 22) 43 rfl 3 i0 (.int .i64 0) 1 8 Try.underlying43 hi hz0 hz1 hz2 rfl (by decide) _ 0 0 [] (by rfl) (by simp) (by simp) (by simp) ⟨b4, off4, none⟩ q.length cq (q.map (Value.int .i64)) (by rfl) (by simp) (hnews.out _ (by repeat (first | exact Below.refl _ _ | refine Below.alloc ?_ (by first | (simp; done) | (simp; omega)) _ | refine Below.drew ?_))) hone.out (by omega) HM1.out (by omega) ?_; intro s3 w3 ho3 hg3; rw [Nat.zero_add, List.nil_append] at ho3; obtain ⟨g3, c3, rfl, hge3, hlt3⟩ := ho3.form (by omega); have ho5 := owns_mono ho3 (b' := wr.heap.size + 1) (by first | (simp; done) | (simp; omega)); have hb3 := (Below.refl _ _).grown hg3 (Nat.le_refl _) (by simp); have hle3 : wr.heap.size + 1 ≤ g3 := (by clear hnews; simp at hge3; omega); have hbb : Below wr.heap.size wr w3 := Below.trans (by repeat (first | exact Below.refl _ _ | refine Below.alloc ?_ (by first | (simp; done) | (simp; omega)) _ | refine Below.drew ?_)) (hb3.mono (by first | (simp; done) | (simp; omega))); have hk1 : w3.cell? ⟨wr.heap.size, 1, none⟩ = some (.int .i64 xv) := (hb3.cell (p := ⟨wr.heap.size, 1, none⟩) (by first | (simp; done) | (simp; omega))).trans (by first | assumption | (simp; done)))
              | (refine step_append_lies _ rfl (.tmp 23) (.tmp 26) 43 rfl (wr.heap.size + 1) 3 i0 (.int .i64 0) 1 8 Try.underlying43 hi hz0 hz1 hz2 rfl (by decide) (.slice (some ⟨g3, 0, none⟩) q.length c3) q.length (q.map (Value.int .i64)) (by rfl) (by first | exact ho5 | exact ho5.alloc _) ⟨_, 0, none⟩ 1 1 [.int .i64 xv] (by rfl) (by rfl) (by intro j u hu; have hj : j = 0 := (by have := (List.getElem?_eq_some_iff.1 hu).1; simp at this; omega); subst hj; simp at hu; subst hu; first | (simp [Addr.add]; done) | exact cell_last _ _ _ _ rfl | (rw [add0, hb3.cell (by first | (simp; done) | (simp; omega))]; first | (simp; done) | exact cell_last _ _ _ _ (by simp) | exact ((((Below.refl _ ((wr.alloc (.cells #[.bool true, .int .i64 xv, .int .i64 xf, .int .i64 xt] 65)).alloc (.cells #[.int .i64 xv] 3))).alloc (Nat.le_refl _) _).drew).cell (by simp)).trans (by simp))) (by simp [Value.oneCell']) (by omega) (by have := HM2.out; omega) (by omega) (by have := hb3.size; simp at this; first | omega | (simp; omega)) _ rfl ?_; intro g4 c4 w4 ho4 hg4 hat4 hlt4; have hk2 : w4.cell? ⟨wr.heap.size, 1, none⟩ = some (.int .i64 xv) := (hg4.cell_far _ (by have := hb3.size; simp at this; first | (simp; omega) | (show _ < _; omega)) (by simp [Value.ownBlock]; omega)).trans (by assumption); have hb4 : Below wr.heap.size wr w4 := (by first | exact hbb.grown hg4 (by have := hbb.size; omega) (fun j hj => by simp [Value.ownBlock] at hj; omega) | exact (hbb.alloc (by have := hbb.size; omega) _).grown hg4 (by have := hbb.size; simp; omega) (fun j hj => by simp [Value.ownBlock] at hj; omega))))
          all_goals
            have ho6 : Hid (IntsC .i64 w4 (.slice (some ⟨g4, 0, none⟩) (q.length + 1) c4) (q ++ [xv])) := Lib.hid (IntsC.of_owned (l := q ++ [xv]) (by rw [List.map_append]; exact ho4) (by simp))
            have hb6 := Lib.hid hb4
            clear ho4 hg4 hb4 hk2
            simp only [List.getElem_toArray, List.getElem_cons_succ, List.getElem_cons_zero, List.set_cons_succ, List.set_cons_zero, List.setIfInBounds_toArray]
            go_wp2
            go_roundw
            case rel => exact ⟨k + 1, q ++ [xv], by omega, by go_num, Lib.hid (HW.out.on hb6.out), ho6, HN, by simp; omega⟩
            case measure => simp [intOf]; omega
      | false =>
        obtain ⟨aq, cq, rfl, hcq, hlq⟩ := HQ.out
        have HLQ := Lib.hid hlq
        clear hlq
        by_cases hv : xv < 0
        · by_cases hq0 : q.length = 0
          · obtain rfl : q = [] := List.eq_nil_of_length_eq_zero hq0
            have HN : Hid (qst qs zs (k + 1) = some []) := Lib.hid (by rw [HST2.out]; simp [qdoes, qnext, hv])
            go_wp2
            go_roundw
            case rel => exact ⟨k + 1, [], by omega, by go_num, Lib.hid (HW.out.on ((Below.refl _ _).alloc (Nat.le_refl _) _)), Lib.hid (HQ.out.below ((Below.refl _ _).alloc (Nat.le_refl _) _)), HN, by simp⟩
            case measure => simp [intOf]; omega
          · have HF : Hid (B = false) := Lib.hid (HNO.out (by cases q <;> simp_all [qdoes]))
            go_wp2
            go_ret
            exact ⟨by rw [HF.out]; rfl, (HW.out.on ((Below.refl _ _).alloc (Nat.le_refl _) _)).below⟩
        · have HBW : Hid (∀ n, Below wr.heap.size wr ((wr.alloc (.cells #[.bool false, .int .i64 xv, .int .i64 xf, .int .i64 xt] 65)).drewN n)) := Lib.hid fun n => below_drewN ((Below.refl _ _).alloc (Nat.le_refl _) _) _
          cases q with
          | nil =>
            have HF : Hid (B = false) := Lib.hid (HNO.out (by simp [qdoes, hv]))
            go_wp2
            go_quiet (fail)
            go_wp2
            go_ret
            exact ⟨by rw [HF.out]; rfl, (HW.out.on (HBW.out _)).below⟩
          | cons h tl =>
            obtain ⟨b3, off3, rfl, hc⟩ : ∃ b off, aq = some ⟨b, off, none⟩ ∧ ∀ i, i < (h :: tl).length → wr.cell? ⟨b, off + i, none⟩ = some (.int .i64 ((h :: tl).getD i 0)) := by
              rcases HLQ.out with hl | h
              · cases hl
              · exact h
            have hx3 : wr.cell? ⟨b3, off3, none⟩ = some (.int .i64 h) := hc 0 (by simp)
            have hblt : b3 < wr.heap.size := World.block_lt_of_cell? wr _ hx3
            have hx2 : (wr.alloc (.cells #[.bool false, .int .i64 xv, .int .i64 xf, .int .i64 xt] 65)).cell? ⟨b3, off3, none⟩ = some (.int .i64 h) := ((Below.refl _ wr).alloc (Nat.le_refl _) _ |>.cell (p := ⟨b3, off3, none⟩) hblt).trans hx3
            have HC := Lib.hid hc
            clear hc hx3
            by_cases hhv : h = xv
            · subst hhv
              have hdn : ((h != h) : Bool) = false := by simp
              have HN : Hid (qst qs zs (k + 1) = some tl) := Lib.hid (by rw [HST2.out]; simp [qdoes, qnext, hv])
              clear HST2 HNO HNL
              go_wp2
              go_quiet (fail)
              go_wp2
              have hT : Hid (IntsC .i64 wr (.slice (if cq = 1 then some ⟨b3, off3, none⟩ else some ⟨b3, off3 + 1, none⟩) tl.length (cq - 1)) tl) := Lib.hid ⟨_, cq - 1, rfl, by simp at hcq; omega, by
                by_cases h1 : cq = 1
                · left; exact List.eq_nil_of_length_eq_zero (by simp at hcq; omega)
                · right
                  refine ⟨b3, off3 + 1, by rw [if_neg h1], fun i hi => ?_⟩
                  have := HC.out (i + 1) (by simp; omega)
                  rw [show off3 + 1 + i = off3 + (i + 1) by omega, this]
                  simp [List.getD_eq_getElem?_getD]⟩
              go_roundw
              case rel => exact ⟨k + 1, tl, by omega, by go_num, Lib.hid (HW.out.on (HBW.out _)), Lib.hid (hT.out.below (HBW.out _)), HN, by simp at hql; omega⟩
              case measure => simp [intOf]; omega
            · have hdn : (h != xv) = true := by simp [hhv]
              have HF : Hid (B = false) := Lib.hid (HNO.out (by simp [qdoes, hv, hhv]))
              go_wp2
              go_quiet (fail)
              go_wp2
              go_ret
              exact ⟨by rw [HF.out]; rfl, (HW.out.on (HBW.out _)).below⟩
    · obtain rfl : k = zs.length := by omega
      have hyes : Hid (B = true) := Lib.hid (HB.out.2 (by rw [HST.out]; rfl))
      clear HST
      go_wp2
      go_ret
      exact ⟨by rw [hyes.out]; rfl, HW.out.below⟩

end Go.Proofs.Ytfahnjicinpahaa
