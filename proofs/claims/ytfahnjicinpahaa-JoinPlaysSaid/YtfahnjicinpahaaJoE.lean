/- Contract: Push of the document. -/
import Derived.Test.YtfahnjicinpahaaJoD
import Derived.Deep.RegionHeldLaw
import Derived.Deep.CutRange
namespace Go.Proofs.Ytfahnjicinpahaa
open Go.RowKit
set_option linter.unusedVariables false

theorem Try.infoBytes : (Try.prog.info? 31).map (fun i => (i.zero, i.size, i.bytes)) = some (some (.slice none 0 0), 1, 24) := by kernel_rfl

set_option maxRecDepth 100000 in
set_option maxHeartbeats 4000000 in
theorem rpush_any (w : World) (S : Nat → Prop) (B : Nat) (s : Value) (vs : List Value) (bs : List (List Int)) (d e f : Int) (ad : Option Addr) (dcap : Nat) (D : List Int) (h : RSt w S B s vs bs d) (hS : ∀ k, S k → k < w.heap.size)
    (hD : Ints .u8 w (.slice ad D.length dcap) D) (hDc : D.length ≤ dcap) (hDs : ∀ x, ad = some x → D ≠ [] → ¬ S x.block) (hf0 : 0 ≤ f) (hf1 : f ≤ 255) (hfl : bs.flatten.length ≤ 131072) (hDl : D.length ≤ 40000) (hd0 : 0 ≤ d) (hd : d + bs.length ≤ 900000) :
    Calls Try.prog 13 #[.pointer (some ⟨B, 0, none⟩), .agg #[.int .i64 e, .int .u8 f, .slice ad D.length dcap]] w (RPost w S B bs d f D) := by
  obtain ⟨i0, hi, hz0, hz1, hz2⟩ := info_parts Try.info5
  obtain ⟨i1, hj, hy0, hy1, hy2⟩ := info_parts Try.infoBytes
  obtain ⟨q1, q2, q3, q4, q5, q6, q7⟩ := rquo f hf0 hf1
  have hN0 : ¬ S w.heap.size := fun hh => Nat.lt_irrefl _ (hS _ hh)
  have hBlt := h.lt
  have HM0 : Hid (∀ n, RMid w ((w.alloc (.cells #[.int .i64 e, .int .u8 f, .slice ad D.length dcap] 33)).drewN n) S B s vs bs d ad dcap D) := Lib.hid fun n => by
    have hk : Kept S w ((w.alloc (.cells #[.int .i64 e, .int .u8 f, .slice ad D.length dcap] 33)).drewN n) := ((Kept.refl S w).alloc _).drewN n
    have hk0 : Kept (fun _ => False) w ((w.alloc (.cells #[.int .i64 e, .int .u8 f, .slice ad D.length dcap] 33)).drewN n) := ((Kept.refl _ w).alloc _).drewN n
    refine ⟨h.keep hk0 (fun _ _ hh => hh), hk, by simp, ?_, ints_keep hD hk hDs⟩
    show (w.alloc _).cell? _ = _
    simp
  have HDS := Lib.hid hDs
  have HS := Lib.hid hS
  clear h hD hDs hS
  go_enter Try.func13, Try.ntmps13
  go_wp2_with fail
  go_quiet (fail)
  clear q1 q2 q3 q4 q5 q6 q7
  obtain ⟨wa, hwa⟩ : ∃ wa, wa = (w.alloc (.cells #[.int .i64 e, .int .u8 f, .slice ad D.length dcap] 33)).drewN nq := ⟨_, rfl⟩
  rw [← hwa]
  have HM : Hid (RMid w wa S B s vs bs d ad dcap D) := Lib.hid (by rw [hwa]; exact HM0.out nq)
  clear hwa HM0
  cases hb : jbegin f with
  | true =>
    have hJN : Hid (jNone bs f = false) := Lib.hid (by simp [jNone, hb])
    have hJB : Hid (jBegun bs f = []) := Lib.hid (by simp [jBegun, hb])
    have hJG : Hid (jGone bs d f = d + bs.length) := Lib.hid (by simp [jGone, hb])
    have HDR := Lib.hid (rdrop_any wa S B s vs bs d HM.out.st hd0 (by omega))
    go_wp2_with (go_at_call 33; refine HDR.out.mono ?_; rintro en wx ⟨rfl, hk1, hj1⟩)
    have HX : Hid (RMid w wx S B (.slice none 0 0) [] [] (d + bs.length) ad dcap D) := Lib.hid ⟨hj1, HM.out.kept.trans (kept_one hk1 HM.out.st.blk), Nat.le_trans HM.out.size hk1.size, (hk1.cell (p := ⟨w.heap.size, 2, none⟩) (by have := HM.out.size; show w.heap.size < _; omega) (by show ¬ w.heap.size = B; omega)).trans HM.out.box, ints_keep HM.out.data hk1 (fun x hx hne hh => HDS.out x hx hne (by subst hh; exact HM.out.st.blk))⟩
    clear hk1 hj1 HDR HM
    have hvsn : Hid (True) := Lib.hid trivial
    obtain ⟨YY, GG, SS, VV, HYd, HGd, HX2⟩ : ∃ YY GG SS VV, Hid (YY = jBegun bs f) ∧ Hid (GG = jGone bs d f) ∧ Hid (RMid w wx S B SS VV YY GG ad dcap D) := ⟨_, _, _, _, Lib.hid hJB.out.symm, Lib.hid hJG.out.symm, HX⟩
    have hYp : (YY.length : Int) ≤ 900000 := by have e1 := HYd.out; have e2 := hJB.out; rw [e1, e2]; first | (simp; done) | (simp; omega) | omega
    have hYl : YY.flatten.length ≤ 131072 := by have e1 := HYd.out; have e2 := hJB.out; rw [e1, e2]; first | (simp; done) | exact hfl
    have hGp : 0 ≤ GG ∧ GG + YY.length ≤ 900000 := by have e1 := HYd.out; have e2 := hJB.out; have e3 := HGd.out; have e4 := hJG.out; rw [e1, e2, e3, e4]; constructor <;> first | omega | (simp; omega)
    have hYn : Hid (True) := Lib.hid (by have e1 := HYd.out; have e2 := hJB.out; have e3 := hvsn.out; first | trivial | (rw [e1, e2]; omega))
    clear HX hJB hJG hvsn
    have HBY : Hid (∀ n, Calls Try.prog 34 #[.pointer (some ⟨B, 0, none⟩)] (wx.drewN n) fun e w' => e = .returned (.int .i64 (YY.flatten.length : Int)) ∧ w' = wx.drewN n) := Lib.hid fun n => rbytes_any (wx.drewN n) S B SS VV YY GG (HX2.out.drewN n).st (by omega) hYl
    obtain ⟨ao, cp, hSS, hcp⟩ := row_form HX2.out.st.own
    obtain ⟨Ln, HLn⟩ : ∃ Ln, Hid (Ln = YY.flatten.length) := ⟨_, Lib.hid rfl⟩
    obtain ⟨Lb, HLb⟩ : ∃ Lb, Hid (Lb = YY.length) := ⟨_, Lib.hid rfl⟩
    rw [← HLn.out] at hYl HBY
    rw [← HLb.out] at hSS hcp
    subst hSS
    have c0 := HX2.out.st.c0
    have bx := HX2.out.box
    have hw2 : IntKind.i64.wrap ((Ln : Int) + (D.length : Int)) = (Ln : Int) + (D.length : Int) := IntWalk.i64_in _ (by omega)
    have hlb : True := trivial
    by_cases hl : (131072 : Int) < (Ln : Int) + (D.length : Int)
    · go_quiet ((go_at_call 34; with_reducible exact Calls.quiet_of_same (HBY.out _)))
      obtain ⟨wq, hwc⟩ : ∃ wq, wq = wx.drewN nq := ⟨_, rfl⟩
      rw [← hwc]
      have HC : Hid (RMid w wq S B (.slice ao Lb cp) VV YY GG ad dcap D) := Lib.hid (by rw [hwc]; exact HX2.out.drewN _)
      clear hwc HX2 c0 bx HBY
      have HDR := Lib.hid (rdrop_any wq S B (.slice ao Lb cp) VV YY GG HC.out.st hGp.1 (by omega))
      obtain ⟨p1, HP1⟩ : ∃ p1 : Int, Hid (p1 = GG + (YY.length : Int)) := ⟨_, Lib.hid rfl⟩
      rw [← HP1.out] at HDR
      have hw1 : IntKind.i64.wrap (p1 + 1) = p1 + 1 := IntWalk.i64_in _ (by rw [HP1.out]; omega)
      go_wp2_with (go_at_call 33; refine HDR.out.mono ?_; rintro en wy ⟨rfl, hk1, hj1⟩; have c1 := hj1.c1; have f1 := hj1.fz 1)
      have HP := Lib.hid (rpost_no HC.out HYd.out HGd.out (.inr (by unfold jLong; rw [← HYd.out, ← HLn.out]; exact decide_eq_true (by omega))) hk1 (by rw [← HP1.out]; exact hj1))
      rw [← HP1.out] at HP
      go_ret2
      exact HP.out
    · go_quiet ((go_at_call 34; with_reducible exact Calls.quiet_of_same (HBY.out _)))
      obtain ⟨wq, hwc⟩ : ∃ wq, wq = wx.drewN nq := ⟨_, rfl⟩
      rw [← hwc]
      have HC : Hid (RMid w wq S B (.slice ao Lb cp) VV YY GG ad dcap D) := Lib.hid (by rw [hwc]; exact HX2.out.drewN _)
      have hJL : Hid (jLong bs f D = false) := Lib.hid (by unfold jLong; rw [← HYd.out, ← HLn.out]; exact decide_eq_false (by omega))
      clear hwc HX2 c0 bx HBY hYn
      have hBc : B < wq.heap.size := by have := HC.out.size; omega
      have hwc1 : w.heap.size < wq.heap.size := by have := HC.out.size; omega
      have HKS : Hid (∀ w', Kept (fun _ => False) wq w' → (w'.cell? ⟨B, 0, none⟩ = some (.slice ao Lb cp) ∧ w'.frozen? ⟨B, 0, none⟩ = false ∧ w'.cell? ⟨w.heap.size, 2, none⟩ = some (.slice ad D.length dcap))) := Lib.hid fun w' k => ⟨(k.cell (p := ⟨B, 0, none⟩) hBc (fun hh => hh)).trans HC.out.st.c0, (k.frozen (p := ⟨B, 0, none⟩) hBc (fun hh => hh)).trans (HC.out.st.fz 0), (k.cell (p := ⟨w.heap.size, 2, none⟩) hwc1 (fun hh => hh)).trans HC.out.box⟩
      have HOW : Hid (∀ w', Kept (fun _ => False) wq w' → w'.ownsRow 0 31 1 (.slice ao Lb cp) Lb VV) := Lib.hid fun w' k => by
        have := ownsRow_keep HC.out.st.own k (fun _ _ hh => hh)
        rw [← HLb.out] at this; exact this
      have hml2 : Hid (Lb + 1 ≤ maxLen) := Lib.hid (by unfold maxLen; have := HLb.out; omega)
      have hby2 : Hid ((Lb + 1) * 24 ≤ 140737488355328) := Lib.hid (by have := HLb.out; omega)
      have HLS : Hid (∀ w1 w2 g c V, Kept (fun _ => False) wq w1 → w1.ownsRow wq.heap.size 5 1 V D.length (bcells D) → (∃ g c, V = .slice (some ⟨g, 0, none⟩) D.length c) → w2.ownsRow 0 31 1 (.slice (some ⟨g, 0, none⟩) (Lb + 1) c) (Lb + 1) (VV ++ [V]) → w1.grownBy w2 (Value.slice ao Lb cp).ownBlock → ((Value.slice ao Lb cp).ownBlock = some g ∨ g = w1.heap.size) → g < w2.heap.size → RAft w (w2.setCell ⟨B, 0, none⟩ (.slice (some ⟨g, 0, none⟩) (Lb + 1) c)) S B (.slice (some ⟨g, 0, none⟩) (Lb + 1) c) (VV ++ [V]) (YY ++ [D]) GG) := Lib.hid fun w1 w2 g c V h1 h2 h3 h4 h5 h6 h7 => by
        have e1 := HLb.out
        subst e1
        exact HC.out.lies hBlt h1 h2 h3 h4 h5 h6 h7
      have HK4 : Hid (∀ w1 w2, Kept (fun _ => False) wq w1 → w1.grownBy w2 (Value.slice ao Lb cp).ownBlock → w2.cell? ⟨B, 0, none⟩ = some (.slice ao Lb cp) ∧ w2.frozen? ⟨B, 0, none⟩ = false ∧ w2.cell? ⟨w.heap.size, 2, none⟩ = some (.slice ad D.length dcap)) := Lib.hid fun w1 w2 k1 hg => by
        have hB1 := Nat.lt_of_lt_of_le hBc k1.size
        have hw1 := Nat.lt_of_lt_of_le hwc1 k1.size
        have hne : some B ≠ (Value.slice ao Lb cp).ownBlock := fun e => (HC.out.st.sep B e.symm).2 rfl
        have hne2 : some w.heap.size ≠ (Value.slice ao Lb cp).ownBlock := fun e => hN0 (HC.out.st.sep _ e.symm).1
        have := HKS.out w1 k1
        exact ⟨(World.cell?_of_block (a := ⟨B, 0, none⟩) (hg.block B hB1 hne)).trans this.1, (World.frozen?_of_block (a := ⟨B, 0, none⟩) (hg.block B hB1 hne)).trans this.2.1, (World.cell?_of_block (a := ⟨w.heap.size, 2, none⟩) (hg.block _ hw1 hne2)).trans this.2.2⟩
      go_upto_region 8 with (fail)
      go_cut [] from 52 to 64 (fun wx => ∃ V5 vs5, Hid (RAft w wx S B V5 vs5 (YY ++ [D]) GG))
      case first =>
        by_cases hD0 : D = []
        · subst hD0
          have c0 := HC.out.st.c0
          have f0 := HC.out.st.fz 0
          have bx := HC.out.box
          have HN2 : Hid (∀ j u, ([.slice (some ⟨wq.heap.size, 0, none⟩) 0 0] : List Value)[j]? = some u → ((wq.alloc (.cells #[] 5)).alloc (.cells #[.slice (some ⟨wq.heap.size, 0, none⟩) 0 0] 31)).drew.cell? ((⟨wq.heap.size + 1, 0, none⟩ : Addr).add j) = some u) := Lib.hid (World.news_of_block (cs := #[.slice (some ⟨wq.heap.size, 0, none⟩) 0 0]) (fr := (0, 0)) (t := 31) (by
            have := heap_alloc_new (wq.alloc (.cells #[] 5)) (.cells #[.slice (some ⟨wq.heap.size, 0, none⟩) 0 0] 31)
            rw [show (wq.alloc (.cells #[] 5)).heap.size = wq.heap.size + 1 by simp] at this
            exact this))
          have nB := World.new_ne wq ⟨B, 0, none⟩ c0
          have nW := World.new_ne wq ⟨w.heap.size, 2, none⟩ bx
          go_region_law (first
              | (refine step_append_none rfl (.tmp 57) (.tmp 59) 31 rfl 5 i0 Try.underlying31 hi _ 0 0 (by rfl) (Nat.le_refl 0) _ _ (by rfl) ?_)
              | (refine step_append_lies _ rfl (.tmp 56) (.tmp 61) 28 rfl 0 31 i1 (.slice none 0 0) 1 24 Try.underlying28 hj hy0 hy1 hy2 rfl (by decide) (.slice ao Lb cp) Lb VV (by rfl) (HOW.out _ (by repeat (first | with_reducible exact Kept.refl _ _ | with_reducible refine Kept.alloc ?_ _ | with_reducible refine Kept.drew ?_))) ⟨wq.heap.size + 1, 0, none⟩ 1 1 [.slice (some ⟨wq.heap.size, 0, none⟩) 0 0] (by rfl) (by rfl) HN2.out (by simp [Value.oneCell']) (by omega) hml2.out hby2.out (Nat.zero_le _) _ rfl ?_; intro g4 c4 w4 ho4 hg4 hat4 hlt4; obtain ⟨k4, kf4, kx4⟩ := HK4.out _ w4 (by repeat (first | with_reducible exact Kept.refl _ _ | with_reducible refine Kept.alloc ?_ _ | with_reducible refine Kept.drew ?_)) hg4))
          all_goals
            have HQ := HLS.out _ w4 g4 c4 (.slice (some ⟨wq.heap.size, 0, none⟩) 0 0) (by repeat (first | with_reducible exact Kept.refl _ _ | with_reducible refine Kept.alloc ?_ _ | with_reducible refine Kept.drew ?_)) (by exact ((World.ownsRow_made wq #[] 0 (Nat.le_refl _) (Nat.zero_le _) rfl).alloc _)) ⟨_, _, rfl⟩ ho4 hg4 hat4 hlt4
            clear c0 f0 bx k4 kf4 kx4 ho4 hg4 hat4 hlt4 HN2 nB nW
            go_wp2_with fail
            go_meet
            exact ⟨_, _, Lib.hid HQ⟩
        · obtain ⟨ad1, off1, hc, had⟩ : ∃ b off, Hid (∀ w', Kept (fun _ => False) wq w' → ∀ i, i < D.length → w'.cell? ⟨b, off + i, none⟩ = some (.int .u8 (D.getD i 0))) ∧ ad = some ⟨b, off, none⟩ := by
            obtain ⟨a', cap', e1, h1⟩ := HC.out.data
            cases e1
            rcases h1 with h1 | ⟨b, off, h1, h2⟩
            · exact absurd h1 hD0
            · exact ⟨b, off, Lib.hid fun w' k i hi => (k.cell (p := ⟨b, off + i, none⟩) (World.block_lt_of_cell? wq _ (h2 i hi)) (fun hh => hh)).trans (h2 i hi), h1⟩
          subst had
          have HN : Hid (∀ w', Kept (fun _ => False) wq w' → ∀ j u, (bcells D)[j]? = some u → w'.cell? ((⟨ad1, off1, none⟩ : Addr).add j) = some u) := Lib.hid fun w' k j u hj => by
            have hjl : j < D.length := by have := (List.getElem?_eq_some_iff.1 hj).1; simpa [bcells] using this
            have hadd : (⟨ad1, off1, none⟩ : Addr).add j = ⟨ad1, off1 + j, none⟩ := by unfold Addr.add; split <;> simp_all
            rw [hadd, hc.out w' k j hjl, ← hj]
            simp [bcells, List.getD_eq_getElem?_getD, hjl]
          have hpos : Hid (0 < D.length) := Lib.hid (List.length_pos_iff.2 hD0)
          have hone : Hid (∀ u ∈ bcells D, u.oneCell' = true) := Lib.hid fun u hu => by obtain ⟨x, _, rfl⟩ := List.mem_map.1 hu; rfl
          have hml : Hid (0 + D.length ≤ maxLen) := Lib.hid (by unfold maxLen; omega)
          have hnl : Hid ((bcells D).length = D.length * 1) := Lib.hid (by simp [bcells])
          have HR3 : Hid (∀ w' , Kept (fun _ => False) (wq.alloc (.cells #[] 5)) w' → w'.ownsRow wq.heap.size 5 1 (.slice (some ⟨wq.heap.size, 0, none⟩) 0 0) 0 []) := Lib.hid fun w' k => ownsRow_keep (World.ownsRow_made wq #[] 0 (Nat.le_refl _) (Nat.zero_le _) rfl) k (fun _ _ hh => hh)
          clear hc hD0
          have c0 := HC.out.st.c0
          have f0 := HC.out.st.fz 0
          have bx := HC.out.box
          have nB := World.new_ne wq ⟨B, 0, none⟩ c0
          have nW := World.new_ne wq ⟨w.heap.size, 2, none⟩ bx
          go_region_law (first
            | (refine step_append_lies _ rfl (.tmp 57) (.tmp 59) 31 rfl wq.heap.size 5 i0 (.int .u8 0) 1 1 Try.underlying31 hi hz0 hz1 hz2 rfl (by decide) (.slice (some ⟨wq.heap.size, 0, none⟩) 0 0) 0 [] (by rfl) (HR3.out _ (by repeat (first | with_reducible assumption | with_reducible exact Kept.refl _ _ | with_reducible refine Kept.alloc ?_ _ | with_reducible refine Kept.drew ?_))) ⟨ad1, off1, none⟩ D.length dcap (bcells D) (by rfl) hnl.out (HN.out _ (by repeat (first | with_reducible assumption | with_reducible exact Kept.refl _ _ | with_reducible refine Kept.alloc ?_ _ | with_reducible refine Kept.drew ?_))) hone.out hpos.out hml.out (by omega) (by simp) _ rfl ?_; intro g3 c3 w3 ho3 hg3 hat3 hlt3; rw [Nat.zero_add, List.nil_append] at ho3; have k3 : Kept (fun _ => False) wq w3 := kept_grown (by repeat (first | with_reducible assumption | with_reducible exact Kept.refl _ _ | with_reducible refine Kept.alloc ?_ _ | with_reducible refine Kept.drew ?_)) hg3 (by intro k hk; cases hk; exact Nat.le_refl _); obtain ⟨k5, kf5, kx5⟩ := HKS.out w3 k3; have kal := (HKS.out (w3.alloc (Obj.cells #[Value.slice (some ⟨g3, 0, none⟩) D.length c3] 31)) (k3.alloc _)).1; have nB3 := World.new_ne w3 ⟨B, 0, none⟩ k5; have nW3 := World.new_ne w3 ⟨w.heap.size, 2, none⟩ kx5)
            | (refine step_append_lies _ rfl (.tmp 56) (.tmp 61) 28 rfl 0 31 i1 (.slice none 0 0) 1 24 Try.underlying28 hj hy0 hy1 hy2 rfl (by decide) (.slice ao Lb cp) Lb VV (by rfl) (HOW.out _ (by repeat (first | with_reducible assumption | with_reducible exact Kept.refl _ _ | with_reducible refine Kept.alloc ?_ _ | with_reducible refine Kept.drew ?_))) ⟨w3.heap.size, 0, none⟩ 1 1 [_] (by rfl) (by rfl) (World.news_of_block (cs := #[_]) (heap_alloc_new w3 _)) (by simp [Value.oneCell']) (by omega) hml2.out hby2.out (Nat.zero_le _) _ rfl ?_; intro g4 c4 w4 ho4 hg4 hat4 hlt4; obtain ⟨k4, kf4, kx4⟩ := HK4.out _ w4 (by repeat (first | with_reducible assumption | with_reducible exact Kept.refl _ _ | with_reducible refine Kept.alloc ?_ _ | with_reducible refine Kept.drew ?_)) hg4))
          all_goals
            have HQ := HLS.out _ w4 g4 c4 (.slice (some ⟨g3, 0, none⟩) D.length c3) (by repeat (first | with_reducible assumption | with_reducible exact Kept.refl _ _ | with_reducible refine Kept.alloc ?_ _ | with_reducible refine Kept.drew ?_)) (by exact ho3.alloc _) ⟨_, _, rfl⟩ ho4 hg4 hat4 hlt4
            clear c0 f0 bx kal k4 kf4 kx4 ho4 hg4 hat4 hlt4 k5 kf5 kx5 nB nW nB3 nW3 HR3 HN hone hml hnl ho3 hg3 hat3 hlt3 k3
            go_wp2_with fail
            go_meet
            exact ⟨_, _, Lib.hid HQ⟩
      case rest =>
        obtain ⟨V5, vs5, HQ⟩ := hcut
        clear HKS HOW HLS HK4 HC hml2 hby2 HDS
        cases he : jend f with
        | false =>
          have HP := Lib.hid (rpost_go HQ.out HYd.out HGd.out hJN.out hJL.out he)
          clear HQ
          go_wp2_with fail
          go_ret2
          exact HP.out
        | true =>
          have HPE : Hid (∀ we o, Kept (fun _ => False) wc we → we.ownsRow wc.heap.size 5 1 o (YY ++ [D]).flatten.length (bcells (YY ++ [D]).flatten) → RPost w S B bs d f D (.returned (.tuple #[o, .bool true])) (we.setCell ⟨B, 0, none⟩ (.slice none 0 0))) := Lib.hid fun we o k h => rpost_end HQ.out HYd.out HGd.out hJN.out hJL.out he hBlt k h
          have hZl : (YY ++ [D]).flatten.length ≤ 200000 := by have := HLn.out; simp only [List.flatten_append, List.length_append, List.flatten_cons, List.flatten_nil, List.append_nil]; omega
          have hZb : (YY ++ [D]).length ≤ 1000000 := by have := HLb.out; simp; omega
          generalize YY ++ [D] = Z at *
          obtain ⟨N, hN⟩ : ∃ N, Hid (N = Z.length) := ⟨_, Lib.hid rfl⟩
          obtain ⟨a5, c5, hV5, hc5⟩ := row_form HQ.out.st.own
          rw [← hN.out] at hV5 hc5 hZb
          subst hV5
          have HEL : Hid (∀ i, i < N → ∃ g b g2 c2, a5 = some ⟨g, 0, none⟩ ∧ Z[i]? = some b ∧ wc.cell? ⟨g, i, none⟩ = some (.slice (some ⟨g2, 0, none⟩) b.length c2) ∧ Hid (∀ j u, (bcells b)[j]? = some u → wc.cell? ((⟨g2, 0, none⟩ : Addr).add j) = some u)) := Lib.hid fun i hi => by
            have hi2 : i < Z.length := by rw [← hN.out]; exact hi
            obtain ⟨ao', cp', e1, _, hcell⟩ := row_cells2 HQ.out.st.own
            cases e1
            obtain ⟨g, rfl, _, _, hg⟩ := hcell (by omega)
            have hv : i < vs5.length := by rw [HQ.out.st.len]; exact hi2
            have hdat := HQ.out.st.dat i vs5[i] Z[i] (by simp [hv]) (by simp [hi2])
            obtain ⟨g2, c2, e3⟩ := hdat.2.2
            refine ⟨g, Z[i], g2, c2, rfl, by simp [hi2], ?_, Lib.hid (hdat.1.cells (by rw [e3]; rfl))⟩
            rw [hg i (by omega), ← e3]
            simp [hv]
          have HT := Lib.hid (flat_take Z)
          have HLE := Lib.hid (flat_le Z)
          have c0 := HQ.out.st.c0
          have hBw : B < wc.heap.size := Nat.lt_of_lt_of_le hBlt HQ.out.kept.size
          have f0 := Lib.hid (HQ.out.st.fz 0)
          have c00 := Lib.hid c0
          clear HQ
          go_wp2_with fail
          go_loopw [8, 72] (fun o i wr => ∃ k : Nat, k ≤ N ∧ i = .int .i64 k ∧ Hid (Kept (fun _ => False) wc wr) ∧ Hid (wr.ownsRow wc.heap.size 5 1 o (Z.take k).flatten.length (bcells (Z.take k).flatten))) (fun _ i _ => N - (intOf i).toNat)
          case atStart => exact ⟨0, by omega, rfl, Lib.hid (Kept.refl _ _), Lib.hid (World.ownsRow_nil _ _ _ _)⟩
          case round =>
            obtain ⟨k, hk, rfl, HK, HO⟩ := hrel
            clear c0
            by_cases hlt : k < N
            · obtain ⟨g, b, g2, c2, rfl, hb2, hc, HCB⟩ := HEL.out k hlt
              have hcw := (HK.out.cell (p := ⟨g, k, none⟩) (World.block_lt_of_cell? wc _ hc) (fun hh => hh)).trans hc
              have HNW : Hid (∀ j u, (bcells b)[j]? = some u → wr.cell? ((⟨g2, 0, none⟩ : Addr).add j) = some u) := Lib.hid fun j u hu => by
                have h1 := HCB.out j u hu
                rw [← h1]
                exact HK.out.cell (World.block_lt_of_cell? wc _ h1) (fun hh => hh)
              have hone : Hid (∀ u ∈ bcells b, u.oneCell' = true) := Lib.hid fun u hu => by obtain ⟨x, _, rfl⟩ := List.mem_map.1 hu; rfl
              have HFT := Lib.hid (HT.out k b hb2)
              have HFB : Hid ((Z.take (k + 1)).flatten = (Z.take k).flatten ++ b) := Lib.hid (by
                have : Z.take (k + 1) = Z.take k ++ [b] := by rw [List.take_add_one, hb2]; rfl
                rw [this]; simp)
              have hle : (Z.take k).flatten.length + b.length ≤ 200000 := by have h1 := HLE.out (k + 1); have h2 := HFT.out; omega
              have hm1 : Hid ((Z.take k).flatten.length + b.length ≤ maxLen) := Lib.hid (by unfold maxLen; omega)
              have hm2 : Hid (((Z.take k).flatten.length + b.length) * 1 ≤ 140737488355328) := Lib.hid (by omega)
              have hm3 : Hid (wc.heap.size ≤ wr.heap.size) := Lib.hid HK.out.size
              have hnl : Hid ((bcells b).length = b.length * 1) := Lib.hid (by simp [bcells])
              obtain ⟨m, hm⟩ : ∃ m, Hid (m = (Z.take k).flatten.length) := ⟨_, Lib.hid rfl⟩
              rw [← hm.out] at HO hm1 hm2
              clear hc hb2 HCB HT HLE hle
              go_wp2_with (at_builtin; refine wpList_append_own _ rfl _ _ 31 rfl wc.heap.size 5 i0 (.int .u8 0) 1 1 Try.underlying31 hi hz0 hz1 hz2 rfl (by decide) _ _ _ rfl HO.out ⟨g2, 0, none⟩ b.length c2 (bcells b) rfl hnl.out HNW.out hone.out hm1.out hm2.out hm3.out ?_; intro v9 w9 ho9 hg9 _)
              have HO9 : Hid (w9.ownsRow wc.heap.size 5 1 v9 (Z.take (k + 1)).flatten.length (bcells (Z.take (k + 1)).flatten)) := Lib.hid (by
                rw [HFB.out, List.length_append, show bcells ((Z.take k).flatten ++ b) = bcells (Z.take k).flatten ++ bcells b by simp [bcells], ← hm.out]
                exact ho9)
              have HK9 : Hid (Kept (fun _ => False) wc w9) := Lib.hid (kept_grown HK.out hg9 (fun j hj => (HO.out.lt j hj).1))
              clear ho9 hg9 HO HFT HFB
              go_roundw
              case rel => exact ⟨k + 1, by omega, by go_num, HK9, HO9⟩
              case measure => simp [intOf]; omega
            · have HP := Lib.hid (HPE.out wr _ HK.out (by
                have hkk : k = Z.length := by rw [← hN.out]; omega
                have := HO.out
                rw [hkk, List.take_length] at this
                exact this))
              have c0w := (HK.out.cell (p := ⟨B, 0, none⟩) hBw (fun hh => hh)).trans c00.out
              have f0w := (HK.out.frozen (p := ⟨B, 0, none⟩) hBw (fun hh => hh)).trans f0.out
              clear HPE HO HK HEL HT HLE c00 f0
              go_wp2_with fail
              go_ret2
              exact HP.out
  | false =>
    by_cases hbs : bs = []
    · have hJN : Hid (jNone bs f = true) := Lib.hid (by simp [jNone, hb, hbs])
      have hJB : Hid (bs = jBegun bs f) := Lib.hid (by simp [jBegun, hb])
      have hJG : Hid (d = jGone bs d f) := Lib.hid (by simp [jGone, hb])
      obtain ⟨ao, cp, hSS, hcp⟩ := row_form HM.out.st.own
      have hbl : bs.length = 0 := by rw [hbs]; rfl
      rw [hbl] at hSS hcp
      subst hSS
      have c0 := HM.out.st.c0
      clear hbs hbl
      go_wp2_with fail
      go_quiet (fail)
      obtain ⟨wq, hwc⟩ : ∃ wq, wq = wa.drewN nq := ⟨_, rfl⟩
      rw [← hwc]
      have HC : Hid (RMid w wq S B (.slice ao 0 cp) vs bs d ad dcap D) := Lib.hid (by rw [hwc]; exact HM.out.drewN _)
      clear hwc HM c0
      have HDR := Lib.hid (rdrop_any wq S B (.slice ao 0 cp) vs bs d HC.out.st hd0 (by omega))
      obtain ⟨p1, HP1⟩ : ∃ p1 : Int, Hid (p1 = d + (bs.length : Int)) := ⟨_, Lib.hid rfl⟩
      rw [← HP1.out] at HDR
      have hw1 : IntKind.i64.wrap (p1 + 1) = p1 + 1 := IntWalk.i64_in _ (by rw [HP1.out]; omega)
      go_wp2_with (go_at_call 33; refine HDR.out.mono ?_; rintro en wy ⟨rfl, hk1, hj1⟩; have c1 := hj1.c1; have f1 := hj1.fz 1)
      have HP := Lib.hid (rpost_no HC.out hJB.out hJG.out (.inl hJN.out) hk1 (by rw [← HP1.out]; exact hj1))
      rw [← HP1.out] at HP
      go_ret2
      exact HP.out
    · have hJN : Hid (jNone bs f = false) := Lib.hid (by simp [jNone, hb, hbs])
      have hJB : Hid (jBegun bs f = bs) := Lib.hid (by simp [jBegun, hb])
      have hJG : Hid (jGone bs d f = d) := Lib.hid (by simp [jGone, hb])
      have hvsn : Hid (0 < bs.length) := Lib.hid (List.length_pos_iff.2 hbs)
      clear hbs
      obtain ⟨YY, GG, SS, VV, HYd, HGd, HX2⟩ : ∃ YY GG SS VV, Hid (YY = jBegun bs f) ∧ Hid (GG = jGone bs d f) ∧ Hid (RMid w wa S B SS VV YY GG ad dcap D) := ⟨_, _, _, _, Lib.hid hJB.out.symm, Lib.hid hJG.out.symm, HM⟩
      have hYp : (YY.length : Int) ≤ 900000 := by have e1 := HYd.out; have e2 := hJB.out; rw [e1, e2]; first | (simp; done) | (simp; omega) | omega
      have hYl : YY.flatten.length ≤ 131072 := by have e1 := HYd.out; have e2 := hJB.out; rw [e1, e2]; first | (simp; done) | exact hfl
      have hGp : 0 ≤ GG ∧ GG + YY.length ≤ 900000 := by have e1 := HYd.out; have e2 := hJB.out; have e3 := HGd.out; have e4 := hJG.out; rw [e1, e2, e3, e4]; constructor <;> first | omega | (simp; omega)
      have hYn : Hid (0 < YY.length) := Lib.hid (by have e1 := HYd.out; have e2 := hJB.out; have e3 := hvsn.out; first | trivial | (rw [e1, e2]; omega))
      clear HM hJB hJG hvsn
      have HBY : Hid (∀ n, Calls Try.prog 34 #[.pointer (some ⟨B, 0, none⟩)] (wa.drewN n) fun e w' => e = .returned (.int .i64 (YY.flatten.length : Int)) ∧ w' = wa.drewN n) := Lib.hid fun n => rbytes_any (wa.drewN n) S B SS VV YY GG (HX2.out.drewN n).st (by omega) hYl
      obtain ⟨ao, cp, hSS, hcp⟩ := row_form HX2.out.st.own
      obtain ⟨Ln, HLn⟩ : ∃ Ln, Hid (Ln = YY.flatten.length) := ⟨_, Lib.hid rfl⟩
      obtain ⟨Lb, HLb⟩ : ∃ Lb, Hid (Lb = YY.length) := ⟨_, Lib.hid rfl⟩
      rw [← HLn.out] at hYl HBY
      rw [← HLb.out] at hSS hcp
      subst hSS
      have c0 := HX2.out.st.c0
      have bx := HX2.out.box
      have hw2 : IntKind.i64.wrap ((Ln : Int) + (D.length : Int)) = (Ln : Int) + (D.length : Int) := IntWalk.i64_in _ (by omega)
      have hlb : ¬ (Lb : Int) = 0 := (by have := hYn.out; rw [HLb.out]; omega)
      have hld : ¬ Lb = 0 := by omega
      have hlc : decide (Lb = 0) = false := by simpa using hld
      have hle : ((Lb : Int) == 0) = false := by simpa using hld
      go_wp2_with fail
      by_cases hl : (131072 : Int) < (Ln : Int) + (D.length : Int)
      · go_quiet ((go_at_call 34; with_reducible exact Calls.quiet_of_same (HBY.out _)))
        obtain ⟨wq, hwc⟩ : ∃ wq, wq = wa.drewN nq := ⟨_, rfl⟩
        rw [← hwc]
        have HC : Hid (RMid w wq S B (.slice ao Lb cp) VV YY GG ad dcap D) := Lib.hid (by rw [hwc]; exact HX2.out.drewN _)
        clear hwc HX2 c0 bx HBY
        have HDR := Lib.hid (rdrop_any wq S B (.slice ao Lb cp) VV YY GG HC.out.st hGp.1 (by omega))
        obtain ⟨p1, HP1⟩ : ∃ p1 : Int, Hid (p1 = GG + (YY.length : Int)) := ⟨_, Lib.hid rfl⟩
        rw [← HP1.out] at HDR
        have hw1 : IntKind.i64.wrap (p1 + 1) = p1 + 1 := IntWalk.i64_in _ (by rw [HP1.out]; omega)
        go_wp2_with (go_at_call 33; refine HDR.out.mono ?_; rintro en wy ⟨rfl, hk1, hj1⟩; have c1 := hj1.c1; have f1 := hj1.fz 1)
        have HP := Lib.hid (rpost_no HC.out HYd.out HGd.out (.inr (by unfold jLong; rw [← HYd.out, ← HLn.out]; exact decide_eq_true (by omega))) hk1 (by rw [← HP1.out]; exact hj1))
        rw [← HP1.out] at HP
        go_ret2
        exact HP.out
      · go_quiet ((go_at_call 34; with_reducible exact Calls.quiet_of_same (HBY.out _)))
        obtain ⟨wq, hwc⟩ : ∃ wq, wq = wa.drewN nq := ⟨_, rfl⟩
        rw [← hwc]
        have HC : Hid (RMid w wq S B (.slice ao Lb cp) VV YY GG ad dcap D) := Lib.hid (by rw [hwc]; exact HX2.out.drewN _)
        have hJL : Hid (jLong bs f D = false) := Lib.hid (by unfold jLong; rw [← HYd.out, ← HLn.out]; exact decide_eq_false (by omega))
        clear hwc HX2 c0 bx HBY hYn
        have hBc : B < wq.heap.size := by have := HC.out.size; omega
        have hwc1 : w.heap.size < wq.heap.size := by have := HC.out.size; omega
        have HKS : Hid (∀ w', Kept (fun _ => False) wq w' → (w'.cell? ⟨B, 0, none⟩ = some (.slice ao Lb cp) ∧ w'.frozen? ⟨B, 0, none⟩ = false ∧ w'.cell? ⟨w.heap.size, 2, none⟩ = some (.slice ad D.length dcap))) := Lib.hid fun w' k => ⟨(k.cell (p := ⟨B, 0, none⟩) hBc (fun hh => hh)).trans HC.out.st.c0, (k.frozen (p := ⟨B, 0, none⟩) hBc (fun hh => hh)).trans (HC.out.st.fz 0), (k.cell (p := ⟨w.heap.size, 2, none⟩) hwc1 (fun hh => hh)).trans HC.out.box⟩
        have HOW : Hid (∀ w', Kept (fun _ => False) wq w' → w'.ownsRow 0 31 1 (.slice ao Lb cp) Lb VV) := Lib.hid fun w' k => by
          have := ownsRow_keep HC.out.st.own k (fun _ _ hh => hh)
          rw [← HLb.out] at this; exact this
        have hml2 : Hid (Lb + 1 ≤ maxLen) := Lib.hid (by unfold maxLen; have := HLb.out; omega)
        have hby2 : Hid ((Lb + 1) * 24 ≤ 140737488355328) := Lib.hid (by have := HLb.out; omega)
        have HLS : Hid (∀ w1 w2 g c V, Kept (fun _ => False) wq w1 → w1.ownsRow wq.heap.size 5 1 V D.length (bcells D) → (∃ g c, V = .slice (some ⟨g, 0, none⟩) D.length c) → w2.ownsRow 0 31 1 (.slice (some ⟨g, 0, none⟩) (Lb + 1) c) (Lb + 1) (VV ++ [V]) → w1.grownBy w2 (Value.slice ao Lb cp).ownBlock → ((Value.slice ao Lb cp).ownBlock = some g ∨ g = w1.heap.size) → g < w2.heap.size → RAft w (w2.setCell ⟨B, 0, none⟩ (.slice (some ⟨g, 0, none⟩) (Lb + 1) c)) S B (.slice (some ⟨g, 0, none⟩) (Lb + 1) c) (VV ++ [V]) (YY ++ [D]) GG) := Lib.hid fun w1 w2 g c V h1 h2 h3 h4 h5 h6 h7 => by
          have e1 := HLb.out
          subst e1
          exact HC.out.lies hBlt h1 h2 h3 h4 h5 h6 h7
        have HK4 : Hid (∀ w1 w2, Kept (fun _ => False) wq w1 → w1.grownBy w2 (Value.slice ao Lb cp).ownBlock → w2.cell? ⟨B, 0, none⟩ = some (.slice ao Lb cp) ∧ w2.frozen? ⟨B, 0, none⟩ = false ∧ w2.cell? ⟨w.heap.size, 2, none⟩ = some (.slice ad D.length dcap)) := Lib.hid fun w1 w2 k1 hg => by
          have hB1 := Nat.lt_of_lt_of_le hBc k1.size
          have hw1 := Nat.lt_of_lt_of_le hwc1 k1.size
          have hne : some B ≠ (Value.slice ao Lb cp).ownBlock := fun e => (HC.out.st.sep B e.symm).2 rfl
          have hne2 : some w.heap.size ≠ (Value.slice ao Lb cp).ownBlock := fun e => hN0 (HC.out.st.sep _ e.symm).1
          have := HKS.out w1 k1
          exact ⟨(World.cell?_of_block (a := ⟨B, 0, none⟩) (hg.block B hB1 hne)).trans this.1, (World.frozen?_of_block (a := ⟨B, 0, none⟩) (hg.block B hB1 hne)).trans this.2.1, (World.cell?_of_block (a := ⟨w.heap.size, 2, none⟩) (hg.block _ hw1 hne2)).trans this.2.2⟩
        go_upto_region 8 with (fail)
        go_cut [] from 52 to 64 (fun wx => ∃ V5 vs5, Hid (RAft w wx S B V5 vs5 (YY ++ [D]) GG))
        case first =>
          by_cases hD0 : D = []
          · subst hD0
            have c0 := HC.out.st.c0
            have f0 := HC.out.st.fz 0
            have bx := HC.out.box
            have HN2 : Hid (∀ j u, ([.slice (some ⟨wq.heap.size, 0, none⟩) 0 0] : List Value)[j]? = some u → ((wq.alloc (.cells #[] 5)).alloc (.cells #[.slice (some ⟨wq.heap.size, 0, none⟩) 0 0] 31)).drew.cell? ((⟨wq.heap.size + 1, 0, none⟩ : Addr).add j) = some u) := Lib.hid (World.news_of_block (cs := #[.slice (some ⟨wq.heap.size, 0, none⟩) 0 0]) (fr := (0, 0)) (t := 31) (by
              have := heap_alloc_new (wq.alloc (.cells #[] 5)) (.cells #[.slice (some ⟨wq.heap.size, 0, none⟩) 0 0] 31)
              rw [show (wq.alloc (.cells #[] 5)).heap.size = wq.heap.size + 1 by simp] at this
              exact this))
            have nB := World.new_ne wq ⟨B, 0, none⟩ c0
            have nW := World.new_ne wq ⟨w.heap.size, 2, none⟩ bx
            go_region_law (first
                | (refine step_append_none rfl (.tmp 57) (.tmp 59) 31 rfl 5 i0 Try.underlying31 hi _ 0 0 (by rfl) (Nat.le_refl 0) _ _ (by rfl) ?_)
                | (refine step_append_lies _ rfl (.tmp 56) (.tmp 61) 28 rfl 0 31 i1 (.slice none 0 0) 1 24 Try.underlying28 hj hy0 hy1 hy2 rfl (by decide) (.slice ao Lb cp) Lb VV (by rfl) (HOW.out _ (by repeat (first | with_reducible exact Kept.refl _ _ | with_reducible refine Kept.alloc ?_ _ | with_reducible refine Kept.drew ?_))) ⟨wq.heap.size + 1, 0, none⟩ 1 1 [.slice (some ⟨wq.heap.size, 0, none⟩) 0 0] (by rfl) (by rfl) HN2.out (by simp [Value.oneCell']) (by omega) hml2.out hby2.out (Nat.zero_le _) _ rfl ?_; intro g4 c4 w4 ho4 hg4 hat4 hlt4; obtain ⟨k4, kf4, kx4⟩ := HK4.out _ w4 (by repeat (first | with_reducible exact Kept.refl _ _ | with_reducible refine Kept.alloc ?_ _ | with_reducible refine Kept.drew ?_)) hg4))
            all_goals
              have HQ := HLS.out _ w4 g4 c4 (.slice (some ⟨wq.heap.size, 0, none⟩) 0 0) (by repeat (first | with_reducible exact Kept.refl _ _ | with_reducible refine Kept.alloc ?_ _ | with_reducible refine Kept.drew ?_)) (by exact ((World.ownsRow_made wq #[] 0 (Nat.le_refl _) (Nat.zero_le _) rfl).alloc _)) ⟨_, _, rfl⟩ ho4 hg4 hat4 hlt4
              clear c0 f0 bx k4 kf4 kx4 ho4 hg4 hat4 hlt4 HN2 nB nW
              go_wp2_with fail
              go_meet
              exact ⟨_, _, Lib.hid HQ⟩
          · obtain ⟨ad1, off1, hc, had⟩ : ∃ b off, Hid (∀ w', Kept (fun _ => False) wq w' → ∀ i, i < D.length → w'.cell? ⟨b, off + i, none⟩ = some (.int .u8 (D.getD i 0))) ∧ ad = some ⟨b, off, none⟩ := by
              obtain ⟨a', cap', e1, h1⟩ := HC.out.data
              cases e1
              rcases h1 with h1 | ⟨b, off, h1, h2⟩
              · exact absurd h1 hD0
              · exact ⟨b, off, Lib.hid fun w' k i hi => (k.cell (p := ⟨b, off + i, none⟩) (World.block_lt_of_cell? wq _ (h2 i hi)) (fun hh => hh)).trans (h2 i hi), h1⟩
            subst had
            have HN : Hid (∀ w', Kept (fun _ => False) wq w' → ∀ j u, (bcells D)[j]? = some u → w'.cell? ((⟨ad1, off1, none⟩ : Addr).add j) = some u) := Lib.hid fun w' k j u hj => by
              have hjl : j < D.length := by have := (List.getElem?_eq_some_iff.1 hj).1; simpa [bcells] using this
              have hadd : (⟨ad1, off1, none⟩ : Addr).add j = ⟨ad1, off1 + j, none⟩ := by unfold Addr.add; split <;> simp_all
              rw [hadd, hc.out w' k j hjl, ← hj]
              simp [bcells, List.getD_eq_getElem?_getD, hjl]
            have hpos : Hid (0 < D.length) := Lib.hid (List.length_pos_iff.2 hD0)
            have hone : Hid (∀ u ∈ bcells D, u.oneCell' = true) := Lib.hid fun u hu => by obtain ⟨x, _, rfl⟩ := List.mem_map.1 hu; rfl
            have hml : Hid (0 + D.length ≤ maxLen) := Lib.hid (by unfold maxLen; omega)
            have hnl : Hid ((bcells D).length = D.length * 1) := Lib.hid (by simp [bcells])
            have HR3 : Hid (∀ w' , Kept (fun _ => False) (wq.alloc (.cells #[] 5)) w' → w'.ownsRow wq.heap.size 5 1 (.slice (some ⟨wq.heap.size, 0, none⟩) 0 0) 0 []) := Lib.hid fun w' k => ownsRow_keep (World.ownsRow_made wq #[] 0 (Nat.le_refl _) (Nat.zero_le _) rfl) k (fun _ _ hh => hh)
            clear hc hD0
            have c0 := HC.out.st.c0
            have f0 := HC.out.st.fz 0
            have bx := HC.out.box
            have nB := World.new_ne wq ⟨B, 0, none⟩ c0
            have nW := World.new_ne wq ⟨w.heap.size, 2, none⟩ bx
            go_region_law (first
              | (refine step_append_lies _ rfl (.tmp 57) (.tmp 59) 31 rfl wq.heap.size 5 i0 (.int .u8 0) 1 1 Try.underlying31 hi hz0 hz1 hz2 rfl (by decide) (.slice (some ⟨wq.heap.size, 0, none⟩) 0 0) 0 [] (by rfl) (HR3.out _ (by repeat (first | with_reducible assumption | with_reducible exact Kept.refl _ _ | with_reducible refine Kept.alloc ?_ _ | with_reducible refine Kept.drew ?_))) ⟨ad1, off1, none⟩ D.length dcap (bcells D) (by rfl) hnl.out (HN.out _ (by repeat (first | with_reducible assumption | with_reducible exact Kept.refl _ _ | with_reducible refine Kept.alloc ?_ _ | with_reducible refine Kept.drew ?_))) hone.out hpos.out hml.out (by omega) (by simp) _ rfl ?_; intro g3 c3 w3 ho3 hg3 hat3 hlt3; rw [Nat.zero_add, List.nil_append] at ho3; have k3 : Kept (fun _ => False) wq w3 := kept_grown (by repeat (first | with_reducible assumption | with_reducible exact Kept.refl _ _ | with_reducible refine Kept.alloc ?_ _ | with_reducible refine Kept.drew ?_)) hg3 (by intro k hk; cases hk; exact Nat.le_refl _); obtain ⟨k5, kf5, kx5⟩ := HKS.out w3 k3; have kal := (HKS.out (w3.alloc (Obj.cells #[Value.slice (some ⟨g3, 0, none⟩) D.length c3] 31)) (k3.alloc _)).1; have nB3 := World.new_ne w3 ⟨B, 0, none⟩ k5; have nW3 := World.new_ne w3 ⟨w.heap.size, 2, none⟩ kx5)
              | (refine step_append_lies _ rfl (.tmp 56) (.tmp 61) 28 rfl 0 31 i1 (.slice none 0 0) 1 24 Try.underlying28 hj hy0 hy1 hy2 rfl (by decide) (.slice ao Lb cp) Lb VV (by rfl) (HOW.out _ (by repeat (first | with_reducible assumption | with_reducible exact Kept.refl _ _ | with_reducible refine Kept.alloc ?_ _ | with_reducible refine Kept.drew ?_))) ⟨w3.heap.size, 0, none⟩ 1 1 [_] (by rfl) (by rfl) (World.news_of_block (cs := #[_]) (heap_alloc_new w3 _)) (by simp [Value.oneCell']) (by omega) hml2.out hby2.out (Nat.zero_le _) _ rfl ?_; intro g4 c4 w4 ho4 hg4 hat4 hlt4; obtain ⟨k4, kf4, kx4⟩ := HK4.out _ w4 (by repeat (first | with_reducible assumption | with_reducible exact Kept.refl _ _ | with_reducible refine Kept.alloc ?_ _ | with_reducible refine Kept.drew ?_)) hg4))
            all_goals
              have HQ := HLS.out _ w4 g4 c4 (.slice (some ⟨g3, 0, none⟩) D.length c3) (by repeat (first | with_reducible assumption | with_reducible exact Kept.refl _ _ | with_reducible refine Kept.alloc ?_ _ | with_reducible refine Kept.drew ?_)) (by exact ho3.alloc _) ⟨_, _, rfl⟩ ho4 hg4 hat4 hlt4
              clear c0 f0 bx kal k4 kf4 kx4 ho4 hg4 hat4 hlt4 k5 kf5 kx5 nB nW nB3 nW3 HR3 HN hone hml hnl ho3 hg3 hat3 hlt3 k3
              go_wp2_with fail
              go_meet
              exact ⟨_, _, Lib.hid HQ⟩
        case rest =>
          obtain ⟨V5, vs5, HQ⟩ := hcut
          clear HKS HOW HLS HK4 HC hml2 hby2 HDS
          cases he : jend f with
          | false =>
            have HP := Lib.hid (rpost_go HQ.out HYd.out HGd.out hJN.out hJL.out he)
            clear HQ
            go_wp2_with fail
            go_ret2
            exact HP.out
          | true =>
            have HPE : Hid (∀ we o, Kept (fun _ => False) wc we → we.ownsRow wc.heap.size 5 1 o (YY ++ [D]).flatten.length (bcells (YY ++ [D]).flatten) → RPost w S B bs d f D (.returned (.tuple #[o, .bool true])) (we.setCell ⟨B, 0, none⟩ (.slice none 0 0))) := Lib.hid fun we o k h => rpost_end HQ.out HYd.out HGd.out hJN.out hJL.out he hBlt k h
            have hZl : (YY ++ [D]).flatten.length ≤ 200000 := by have := HLn.out; simp only [List.flatten_append, List.length_append, List.flatten_cons, List.flatten_nil, List.append_nil]; omega
            have hZb : (YY ++ [D]).length ≤ 1000000 := by have := HLb.out; simp; omega
            generalize YY ++ [D] = Z at *
            obtain ⟨N, hN⟩ : ∃ N, Hid (N = Z.length) := ⟨_, Lib.hid rfl⟩
            obtain ⟨a5, c5, hV5, hc5⟩ := row_form HQ.out.st.own
            rw [← hN.out] at hV5 hc5 hZb
            subst hV5
            have HEL : Hid (∀ i, i < N → ∃ g b g2 c2, a5 = some ⟨g, 0, none⟩ ∧ Z[i]? = some b ∧ wc.cell? ⟨g, i, none⟩ = some (.slice (some ⟨g2, 0, none⟩) b.length c2) ∧ Hid (∀ j u, (bcells b)[j]? = some u → wc.cell? ((⟨g2, 0, none⟩ : Addr).add j) = some u)) := Lib.hid fun i hi => by
              have hi2 : i < Z.length := by rw [← hN.out]; exact hi
              obtain ⟨ao', cp', e1, _, hcell⟩ := row_cells2 HQ.out.st.own
              cases e1
              obtain ⟨g, rfl, _, _, hg⟩ := hcell (by omega)
              have hv : i < vs5.length := by rw [HQ.out.st.len]; exact hi2
              have hdat := HQ.out.st.dat i vs5[i] Z[i] (by simp [hv]) (by simp [hi2])
              obtain ⟨g2, c2, e3⟩ := hdat.2.2
              refine ⟨g, Z[i], g2, c2, rfl, by simp [hi2], ?_, Lib.hid (hdat.1.cells (by rw [e3]; rfl))⟩
              rw [hg i (by omega), ← e3]
              simp [hv]
            have HT := Lib.hid (flat_take Z)
            have HLE := Lib.hid (flat_le Z)
            have c0 := HQ.out.st.c0
            have hBw : B < wc.heap.size := Nat.lt_of_lt_of_le hBlt HQ.out.kept.size
            have f0 := Lib.hid (HQ.out.st.fz 0)
            have c00 := Lib.hid c0
            clear HQ
            go_wp2_with fail
            go_loopw [8, 72] (fun o i wr => ∃ k : Nat, k ≤ N ∧ i = .int .i64 k ∧ Hid (Kept (fun _ => False) wc wr) ∧ Hid (wr.ownsRow wc.heap.size 5 1 o (Z.take k).flatten.length (bcells (Z.take k).flatten))) (fun _ i _ => N - (intOf i).toNat)
            case atStart => exact ⟨0, by omega, rfl, Lib.hid (Kept.refl _ _), Lib.hid (World.ownsRow_nil _ _ _ _)⟩
            case round =>
              obtain ⟨k, hk, rfl, HK, HO⟩ := hrel
              clear c0
              by_cases hlt : k < N
              · obtain ⟨g, b, g2, c2, rfl, hb2, hc, HCB⟩ := HEL.out k hlt
                have hcw := (HK.out.cell (p := ⟨g, k, none⟩) (World.block_lt_of_cell? wc _ hc) (fun hh => hh)).trans hc
                have HNW : Hid (∀ j u, (bcells b)[j]? = some u → wr.cell? ((⟨g2, 0, none⟩ : Addr).add j) = some u) := Lib.hid fun j u hu => by
                  have h1 := HCB.out j u hu
                  rw [← h1]
                  exact HK.out.cell (World.block_lt_of_cell? wc _ h1) (fun hh => hh)
                have hone : Hid (∀ u ∈ bcells b, u.oneCell' = true) := Lib.hid fun u hu => by obtain ⟨x, _, rfl⟩ := List.mem_map.1 hu; rfl
                have HFT := Lib.hid (HT.out k b hb2)
                have HFB : Hid ((Z.take (k + 1)).flatten = (Z.take k).flatten ++ b) := Lib.hid (by
                  have : Z.take (k + 1) = Z.take k ++ [b] := by rw [List.take_add_one, hb2]; rfl
                  rw [this]; simp)
                have hle : (Z.take k).flatten.length + b.length ≤ 200000 := by have h1 := HLE.out (k + 1); have h2 := HFT.out; omega
                have hm1 : Hid ((Z.take k).flatten.length + b.length ≤ maxLen) := Lib.hid (by unfold maxLen; omega)
                have hm2 : Hid (((Z.take k).flatten.length + b.length) * 1 ≤ 140737488355328) := Lib.hid (by omega)
                have hm3 : Hid (wc.heap.size ≤ wr.heap.size) := Lib.hid HK.out.size
                have hnl : Hid ((bcells b).length = b.length * 1) := Lib.hid (by simp [bcells])
                obtain ⟨m, hm⟩ : ∃ m, Hid (m = (Z.take k).flatten.length) := ⟨_, Lib.hid rfl⟩
                rw [← hm.out] at HO hm1 hm2
                clear hc hb2 HCB HT HLE hle
                go_wp2_with (at_builtin; refine wpList_append_own _ rfl _ _ 31 rfl wc.heap.size 5 i0 (.int .u8 0) 1 1 Try.underlying31 hi hz0 hz1 hz2 rfl (by decide) _ _ _ rfl HO.out ⟨g2, 0, none⟩ b.length c2 (bcells b) rfl hnl.out HNW.out hone.out hm1.out hm2.out hm3.out ?_; intro v9 w9 ho9 hg9 _)
                have HO9 : Hid (w9.ownsRow wc.heap.size 5 1 v9 (Z.take (k + 1)).flatten.length (bcells (Z.take (k + 1)).flatten)) := Lib.hid (by
                  rw [HFB.out, List.length_append, show bcells ((Z.take k).flatten ++ b) = bcells (Z.take k).flatten ++ bcells b by simp [bcells], ← hm.out]
                  exact ho9)
                have HK9 : Hid (Kept (fun _ => False) wc w9) := Lib.hid (kept_grown HK.out hg9 (fun j hj => (HO.out.lt j hj).1))
                clear ho9 hg9 HO HFT HFB
                go_roundw
                case rel => exact ⟨k + 1, by omega, by go_num, HK9, HO9⟩
                case measure => simp [intOf]; omega
              · have HP := Lib.hid (HPE.out wr _ HK.out (by
                  have hkk : k = Z.length := by rw [← hN.out]; omega
                  have := HO.out
                  rw [hkk, List.take_length] at this
                  exact this))
                have c0w := (HK.out.cell (p := ⟨B, 0, none⟩) hBw (fun hh => hh)).trans c00.out
                have f0w := (HK.out.frozen (p := ⟨B, 0, none⟩) hBw (fun hh => hh)).trans f0.out
                clear HPE HO HK HEL HT HLE c00 f0
                go_wp2_with fail
                go_ret2
                exact HP.out

end Go.Proofs.Ytfahnjicinpahaa
