/- The law JoinPlays, walked. -/
import Derived.Test.YtfahnjicinpahaaJoL
import Derived.Test.YtfahnjicinpahaaRk20
namespace Go.Proofs.Ytfahnjicinpahaa
open Go.RowKit
set_option linter.unusedVariables false

open Go.Proofs.Ytfahnjicinpahaa.rk in
set_option maxRecDepth 100000 in
set_option maxHeartbeats 4000000 in
theorem plays_law (w : World) (a : Option Addr) (len cap : Nat) (l : List FragV) (hin : FIn w a len cap l) :
    Calls Try.prog 3 #[.slice a len cap] w fun e w' => e = .returned (.bool true) ∧ Below w.heap.size w w' := by
  obtain ⟨hll, hF, hok, hmax⟩ := hin
  subst hll
  have hokd : ∀ i, i < l.length → (l.getD i fv0).ok w := fun i hi => hok _ (by simp [List.getD_eq_getElem?_getD, hi])
  have HFEW := Lib.hid (fun w2 (hb : Below w.heap.size w w2) => few_any w2 _ l (hF.below hb) hmax (fun i hi => (hokd i hi).max))
  obtain ⟨i0, hi, hz0, hz1, hz2⟩ := info_parts Try.info5
  cases hfew : fewB l with
  | false =>
    rw [hfew] at HFEW
    clear hF hok hokd hfew
    go_enter Try.func3, Try.ntmps3
    go_wp2_with (first
      | (go_at_call 9; refine (fixed20_true _).mono ?_; rintro e w1 ⟨rfl, hb1⟩)
      | (go_at_call 10; refine (HFEW.out _ hb1).mono ?_; rintro e w2 ⟨rfl, hb2⟩; have hb2' := hb1.trans (hb2.mono hb1.size)))
    go_ret
    exact ⟨rfl, hb2'⟩
  | true =>
    rw [hfew] at HFEW
    have h300 : (∀ i, i < l.length → (l.getD i fv0).D.length ≤ 300) ∧ l.length ≤ 80 := of_decide_eq_true hfew
    have HOK := Lib.hid hokd
    have H3 := Lib.hid h300.1
    have h80 := h300.2
    have HL : Hid (∀ i, i < l.length → ∃ b off, a = some ⟨b, off, none⟩ ∧
        (w.cell? ⟨b, off + i * 3, none⟩ = some (.int .i64 (l.getD i fv0).e) ∧ w.cell? ⟨b, off + i * 3 + 1, none⟩ = some (.int .u8 (l.getD i fv0).f) ∧ w.cell? ⟨b, off + i * 3 + 2, none⟩ = some (.slice (l.getD i fv0).a (l.getD i fv0).D.length (l.getD i fv0).cap))) := Lib.hid fun i hi => by
      obtain ⟨a', c', e1, _, hc⟩ := hF
      cases e1
      rcases hc with rfl | ⟨b, off, rfl, hc⟩
      · simp at hi
      · exact ⟨b, off, rfl, hc i hi⟩
    have hcap : l.length ≤ cap := by obtain ⟨a', c', e1, h1, _⟩ := hF; cases e1; exact h1
    obtain ⟨n, hn⟩ : ∃ n, Hid (n = l.length) := ⟨_, Lib.hid rfl⟩
    rw [← hn.out] at HL HOK H3 hcap h80 HFEW ⊢
    clear hF hok hokd hfew h300 hmax
    go_enter Try.func3, Try.ntmps3
    go_wp2_with (first
      | (go_at_call 9; refine (fixed20_true _).mono ?_; rintro e w1 ⟨rfl, hb1⟩)
      | (go_at_call 10; refine (HFEW.out _ hb1).mono ?_; rintro e w2 ⟨rfl, hb2⟩; have hb2' := hb1.trans (hb2.mono hb1.size))
      | (go_at_call 11; refine (jnew_any _).mono ?_; rintro e w3 ⟨rfl, hk3, hj3⟩; have HT0 := Lib.hid (two_start hb2' hk3 hj3); clear hk3 hj3))
    go_loopw [24] (fun i wr => ∃ (k : Nat) (SJ SR : Nat → Prop) (bs : List (List Int)) (d : Int), k ≤ n ∧ i = .int .i64 k ∧ Hid (Two w wr (fun _ => False) SJ SR w2.heap.size w3.heap.size bs d bs d) ∧ Hid (bs.flatten.length ≤ 131072 ∧ 0 ≤ d ∧ d + bs.length ≤ k ∧ Bytes8 bs)) (fun i _ => n - (intOf i).toNat)
    case atStart => exact ⟨0, _, _, [], 0, by omega, rfl, HT0, Lib.hid ⟨by simp, by omega, by simp, fun b hb => by cases hb⟩⟩
    case round =>
      obtain ⟨k, SJ, SR, bs, d, hk, rfl, HT, HI⟩ := hrel
      clear HT0
      by_cases hlt : k < n
      · obtain ⟨b, off, rfl, ⟨e0, e1, e2⟩⟩ := HL.out k hlt
        have hltb : b < w.heap.size := World.block_lt_of_cell? w _ e0
        have c0 := (HT.out.bel.cell (p := ⟨b, off + k * 3, none⟩) hltb).trans e0
        have c1 := (HT.out.bel.cell (p := ⟨b, off + k * 3 + 1, none⟩) hltb).trans e1
        have c2 := (HT.out.bel.cell (p := ⟨b, off + k * 3 + 2, none⟩) hltb).trans e2
        have HX := Lib.hid (HOK.out k hlt)
        have hd3 := H3.out k hlt
        clear e0 e1 e2 HOK H3 HL
        generalize l.getD k fv0 = x at *
        obtain ⟨xe, xf, xa, xc, D⟩ := x
        simp only at c0 c1 c2 hd3
        have HOW : Hid (∀ fr, ((wr.alloc fr).alloc (.cells #[] 5)).ownsRow (wr.heap.size + 1) 5 1 (.slice (some ⟨wr.heap.size + 1, 0, none⟩) 0 0) 0 []) := Lib.hid fun fr => by
          have h := World.ownsRow_made (base := wr.heap.size + 1) (e := 5) (size := 1) (wr.alloc fr) #[] 0 (by simp) (Nat.zero_le _) rfl
          rw [show (wr.alloc fr).heap.size = wr.heap.size + 1 by simp] at h
          exact h
        have HDA : Hid (∀ o1 o2, Ints .u8 ((wr.alloc o1).alloc o2) (.slice xa D.length xc) D) := Lib.hid fun o1 o2 => HX.out.data.kept ((HT.out.bel.alloc HT.out.bel.size o1).alloc (by have := HT.out.bel.size; simp; omega) o2)
        have hd4 : D.length ≤ 1000000 := by omega
        have HnF : Hid (¬ SJ wr.heap.size) := Lib.hid fun hh => by have := (HT.out.ltJ _ hh).2; omega
        have HnF2 : Hid (¬ SR wr.heap.size) := Lib.hid fun hh => by have := (HT.out.ltR _ hh).2; omega
        have HJP : Hid (∀ w4 g c4, Kept (fun _ => False) wr w4 → w4.ownsRow (wr.heap.size + 1) 5 1 (.slice (some ⟨g, 0, none⟩) D.length c4) D.length (bcells D) →
            Calls Try.prog 12 #[.pointer (some ⟨w2.heap.size, 0, none⟩), .agg #[.int .i64 xe, .int .u8 xf, .slice (some ⟨g, 0, none⟩) D.length c4]] w4 fun en w' =>
              ∃ v, en = .returned (.tuple #[v, .bool (jWhole bs xf D).isSome]) ∧ ∃ SJ', Two w w' (fun _ => False) SJ' SR w2.heap.size w3.heap.size (jNext bs xf D) (jDrop bs d xf D) bs d ∧ Gave w' SJ' SR w.heap.size v (jWhole bs xf D) ∧ Kept SJ w4 w' ∧ (∀ k, SJ' k → SJ k ∨ w4.heap.size ≤ k) ∧ (∀ k, v.ownBlock = some k → SJ k ∨ w4.heap.size ≤ k)) := Lib.hid fun w4 g c4 h1 h2 => by
          have hT4 := HT.out.moved h1 (fun _ hh => hh.elim)
          have hgl := (h2.lt g rfl).1
          obtain ⟨a', c', e1, hcc⟩ := row_form h2
          cases e1
          exact jpush_play w w4 SJ SR _ _ bs d bs d xe xf _ c4 D hT4 (ints_own h2) hcc (fun y hy _ hh => by cases hy; have := (HT.out.ltJ _ hh).2; simp at this; omega) HX.out.f0 HX.out.f1 HI.out.1 (by omega) HI.out.2.1 (by have := HI.out.2.2.1; omega)
        have HRP : Hid (∀ w5 SJ5, Two w w5 (fun _ => False) SJ5 SR w2.heap.size w3.heap.size (jNext bs xf D) (jDrop bs d xf D) bs d →
            Calls Try.prog 13 #[.pointer (some ⟨w3.heap.size, 0, none⟩), .agg #[.int .i64 xe, .int .u8 xf, .slice xa D.length xc]] w5 fun en w' =>
              ∃ v, en = .returned (.tuple #[v, .bool (jWhole bs xf D).isSome]) ∧ ∃ SR', Two w w' (fun _ => False) SJ5 SR' w2.heap.size w3.heap.size (jNext bs xf D) (jDrop bs d xf D) (jNext bs xf D) (jDrop bs d xf D) ∧ (match jWhole bs xf D with | none => v = .slice none 0 0 | some W => w'.ownsRow w5.heap.size 5 1 v W.length (bcells W)) ∧ Kept SR w5 w' ∧ (∀ k, SR' k → SR k ∨ w5.heap.size ≤ k)) := Lib.hid fun w5 SJ5 h1 => by
          refine rpush_play w w5 SJ5 SR _ _ _ _ bs d xe xf xa xc D h1 (HX.out.data.kept h1.bel) HX.out.cap (fun y hy hne hh => ?_) HX.out.f0 HX.out.f1 HI.out.1 (by omega) HI.out.2.1 (by have := HI.out.2.2.1; omega)
          obtain ⟨a', c', e1, hc⟩ := HX.out.data
          cases e1
          rcases hc with h0 | ⟨b', o', e2, hc⟩
          · exact hne h0
          · have hy2 : some y = some (⟨b', o', none⟩ : Addr) := hy.symm.trans e2
            cases hy2
            have h2 := World.block_lt_of_cell? w _ (hc 0 (List.length_pos_iff.2 hne))
            have h3 := (HT.out.ltR _ hh).1
            simp at h2 h3
            omega
        go_wp2_with (first
          | (at_builtin; refine wpList_append_bytes rfl _ _ 31 rfl (wr.heap.size + 1) 5 i0 Try.underlying31 hi hz0 hz1 hz2 (wr.heap.size + 1) rfl (HOW.out _) xa xc D rfl (HDA.out _ _) hd4 ?_; intro g c4 w4 ho4 hg4; have k0 : w4.cell? ⟨wr.heap.size, 0, none⟩ = some (.int .i64 xe) := ((hg4.cell_far ⟨wr.heap.size, 0, none⟩ (by simp; omega) (by simp)).trans (by simp)); have k1 : w4.cell? ⟨wr.heap.size, 1, none⟩ = some (.int .u8 xf) := ((hg4.cell_far ⟨wr.heap.size, 1, none⟩ (by simp; omega) (by simp)).trans (by simp)); have k2 : w4.cell? ⟨wr.heap.size, 2, none⟩ = some (.slice xa D.length xc) := ((hg4.cell_far ⟨wr.heap.size, 2, none⟩ (by simp; omega) (by simp)).trans (by simp)); have HO4 := Lib.hid ho4; have HK4 : Hid (Kept (fun _ => False) wr w4) := Lib.hid (kept_grown (((Kept.refl _ wr).alloc _).alloc _) hg4 (fun k hk => by cases hk; omega)); clear ho4 hg4)
          | (go_at_call 12; refine (HJP.out w4 g c4 HK4.out HO4.out).mono ?_; rintro en w5 ⟨v5, rfl, SJ5, HT5', HG5', hk5, hs5, hq5⟩; have HQ5 := Lib.hid hq5; clear hq5; have HT5 := Lib.hid HT5'; have HG5 := Lib.hid HG5'; have HK5 := Lib.hid hk5; have HS5 := Lib.hid hs5; have m0 := (hk5.cell (p := ⟨wr.heap.size, 0, none⟩) (World.block_lt_of_cell? w4 _ k0) HnF.out).trans k0; have m1 := (hk5.cell (p := ⟨wr.heap.size, 1, none⟩) (World.block_lt_of_cell? w4 _ k1) HnF.out).trans k1; have m2 := (hk5.cell (p := ⟨wr.heap.size, 2, none⟩) (World.block_lt_of_cell? w4 _ k2) HnF.out).trans k2; clear HT5' HG5' hk5 hs5 k0 k1 k2)
          | (go_at_call 13; refine (HRP.out w5 SJ5 HT5.out).mono ?_; rintro en w6 ⟨v6, rfl, SR6, HT6', HG6', hk6, hs6⟩; have HT6 := Lib.hid HT6'; have HG6 := Lib.hid HG6'; have HK6 := Lib.hid hk6; have HS6 := Lib.hid hs6; have m2' := (hk6.cell (p := ⟨wr.heap.size, 2, none⟩) (World.block_lt_of_cell? w5 _ m2) HnF2.out).trans m2; clear HT6' HG6' hk6 hs6 m0 m1 m2))
        obtain ⟨hr5, hr5b⟩ := gave_row HG5.out
        have hr5l := hr5.lt
        have hr6 := ownsRow_keep hr5 HK6.out (fun j hj => (hr5b j hj).2)
        have hg4 := HO4.out.lt g rfl
        have ho6 := ownsRow_keep (ownsRow_keep HO4.out HK5.out (fun j hj hh => by cases hj; have h9 : g < wr.heap.size := (HT.out.ltJ g hh).2; omega)) HK6.out (fun j hj hh => by cases hj; have h9 : g < wr.heap.size := (HT.out.ltR g hh).2; omega)
        have hb6 : w6.ownsRow w5.heap.size 5 1 v6 ((jWhole bs xf D).getD []).length (bcells ((jWhole bs xf D).getD [])) := by
          have h := HG6.out
          cases hw : jWhole bs xf D with
          | none => rw [hw] at h; subst h; exact World.ownsRow_nil _ _ _ _
          | some W => rw [hw] at h; exact h
        have hLb := jWhole_bytes (f := xf) HI.out.2.2.2 HX.out.bytes
        obtain ⟨okb, hokb⟩ : ∃ o, o = (jWhole bs xf D).isSome := ⟨_, rfl⟩
        rw [← hokb]
        generalize (jWhole bs xf D).getD [] = L at *
        obtain ⟨a5, c5, e5, _⟩ := row_form hr6
        obtain ⟨a6, c6, e6, _⟩ := row_form hb6
        subst e5 e6
        have hv1 : ∀ j, (convert 31 9 (.slice a5 L.length c5)).run Try.prog (w6.drewN j) = .ok (.string (bstr L)) (w6.drewN j) := fun j => conv_str (w := w6.drewN j) (ints_own hr6) hLb _ _ 5 Try.underlying31 Try.underlying5 Try.underlying9
        have hv2 : ∀ j, (convert 31 9 (.slice a6 L.length c6)).run Try.prog (w6.drewN j) = .ok (.string (bstr L)) (w6.drewN j) := fun j => conv_str (w := w6.drewN j) (ints_own hb6) hLb _ _ 5 Try.underlying31 Try.underlying5 Try.underlying9
        have hv3 : ∀ j, (convert 31 9 (.slice (some ⟨g, 0, none⟩) D.length c4)).run Try.prog (w6.drewN j) = .ok (.string (bstr D)) (w6.drewN j) := fun j => conv_str (w := w6.drewN j) (ints_own ho6) HX.out.bytes _ _ 5 Try.underlying31 Try.underlying5 Try.underlying9
        have hv4 : ∀ j, (convert 31 9 (.slice xa D.length xc)).run Try.prog (w6.drewN j) = .ok (.string (bstr D)) (w6.drewN j) := fun j => conv_str (w := w6.drewN j) (HX.out.data.kept (below_drewN HT6.out.bel j)) HX.out.bytes _ _ 5 Try.underlying31 Try.underlying5 Try.underlying9
        obtain ⟨sj, hj⟩ := HT6.out.j
        obtain ⟨sr, vr, hr⟩ := HT6.out.r
        have hbd := jDrop_le bs d xf D HI.out.2.1
        have hfl := jNext_flat bs xf D
        have hby := jNext_bytes (f := xf) HI.out.2.2.2 HX.out.bytes
        have hid := HI.out.2.2.1
        obtain ⟨V, hV⟩ : ∃ V : Int, Hid (V = if (jNext bs xf D).length = 0 then -1 else ((jNext bs xf D).flatten.length : Int)) := ⟨_, Lib.hid rfl⟩
        have HOJ : Hid (∀ n, Calls Try.prog 14 #[.pointer (some ⟨w2.heap.size, 0, none⟩)] (w6.drewN n) fun e w' => e = .returned (.int .i64 V) ∧ w' = w6.drewN n) := Lib.hid fun n => by rw [hV.out]; exact jopen_any _ _ _ _ _ _ (hj.keep ((Kept.refl (fun _ => False) w6).drewN n) (fun _ _ hh => hh))
        have HOR : Hid (∀ n, Calls Try.prog 15 #[.pointer (some ⟨w3.heap.size, 0, none⟩)] (w6.drewN n) fun e w' => e = .returned (.int .i64 V) ∧ w' = w6.drewN n) := Lib.hid fun n => by rw [hV.out]; exact ropen_any _ _ _ _ _ _ _ (hr.keep ((Kept.refl (fun _ => False) w6).drewN n) (fun _ _ hh => hh)) (by omega) hfl
        have HDJ : Hid (∀ n, Calls Try.prog 16 #[.pointer (some ⟨w2.heap.size, 0, none⟩)] (w6.drewN n) fun e w' => e = .returned (.int .i64 (jDrop bs d xf D)) ∧ w' = w6.drewN n) := Lib.hid fun n => jdropped_any _ _ _ _ _ _ (hj.keep ((Kept.refl (fun _ => False) w6).drewN n) (fun _ _ hh => hh))
        have cR := hr.c1
        have HIN : Hid ((jNext bs xf D).flatten.length ≤ 131072 ∧ 0 ≤ jDrop bs d xf D ∧ jDrop bs d xf D + (jNext bs xf D).length ≤ (k : Int) + 1 ∧ Bytes8 (jNext bs xf D)) := Lib.hid ⟨hfl, hbd.1, by omega, hby⟩
        have HM : Hid (∀ m wx wy, Kept (fun k => (Value.slice a5 L.length c5).ownBlock = some k) (w6.drewN m) wx → Kept (fun k => k = g) wx wy → Two w wy (fun _ => False) SJ5 SR6 w2.heap.size w3.heap.size (jNext bs xf D) (jDrop bs d xf D) (jNext bs xf D) (jDrop bs d xf D)) := Lib.hid fun m wx wy h1 h2 => by
          have t1 := HT6.out.moved ((Kept.refl (fun _ => False) w6).drewN m) (fun _ hh => hh.elim)
          refine (t1.moved h1 fun j hj => ⟨(hr5b j hj).1, fun hh => ?_, (hr5l j hj).1⟩).moved h2 fun j hj => ?_
          · rcases HS6.out j hh with h3 | h3
            · exact (hr5b j hj).2 h3
            · have := (hr5l j hj).2; omega
          · have hsz := HT.out.bel.size
            have hs45 := HK5.out.size
            subst hj
            refine ⟨fun hh => ?_, fun hh => ?_, by omega⟩
            · rcases HS5.out _ hh with h3 | h3
              · have := (HT.out.ltJ _ h3).2; omega
              · omega
            · rcases HS6.out _ hh with h3 | h3
              · have := (HT.out.ltR _ h3).2; omega
              · omega
        have HA6 : Hid (∀ m, (w6.drewN m).ownsRow w.heap.size 5 1 (.slice a5 L.length c5) L.length (bcells L)) := Lib.hid fun m => hr6
        have HO6 : Hid (∀ m, (w6.drewN m).ownsRow (wr.heap.size + 1) 5 1 (.slice (some ⟨g, 0, none⟩) D.length c4) D.length (bcells D)) := Lib.hid fun m => ho6
        have HN5 : Hid ((Value.slice a5 L.length c5).ownBlock ≠ some g) := Lib.hid (fun hh => by rcases HQ5.out g hh with h9 | h9; (have h8 : g < wr.heap.size := (HT.out.ltJ g h9).2; omega); (have := hg4.2; omega))
        obtain ⟨dN, hdN⟩ : ∃ z, z = jDrop bs d xf D := ⟨_, rfl⟩
        rw [← hdN] at cR HDJ HIN HM
        obtain ⟨bN, hbN⟩ : ∃ z, Hid (z = jNext bs xf D) := ⟨_, Lib.hid rfl⟩
        rw [← hbN.out] at HIN HM
        generalize bstr L = S1 at *
        generalize bstr D = S2 at *
        clear hj hr hV hbd hfl hby hid hr5 hr5l hr6 ho6 hb6 hLb hokb HG5 HG6 HK5 HK6 HS5 HS6 HT6 HT5 HO4 HK4 HT HI HJP HRP HnF HnF2 HX HOW HDA hdN hbN hg4 hr5b HQ5
        go_quiet ((first
          | (go_at_call 14; with_reducible exact Calls.quiet_of_same (HOJ.out _))
          | (go_at_call 15; with_reducible exact Calls.quiet_of_same (HOR.out _))
          | (go_at_call 16; with_reducible exact Calls.quiet_of_same (HDJ.out _))))
        go_wp2_with fail
        obtain ⟨N, hN⟩ : ∃ N, Hid (N = L.length) := ⟨_, Lib.hid rfl⟩
        obtain ⟨M, hM⟩ : ∃ M, Hid (M = D.length) := ⟨_, Lib.hid rfl⟩
        have HA7 := Lib.hid (HA6.out nq)
        have HO7 := Lib.hid (HO6.out nq)
        have HM7 := Lib.hid (HM.out nq)
        clear HA6 HO6 HM HOJ HOR HDJ cR hv1 hv2 hv3 hv4
        rw [← hN.out] at HA7 HM7 HN5 ⊢
        rw [← hM.out] at HO7 ⊢
        have hNb : N ≤ 9223372036854775807 := by
          rcases HA7.out.2 with ⟨_, h⟩ | ⟨_, _, _, _, _, _, h1, h2, _⟩
          · omega
          · unfold maxLen at h2; omega
        have hMb : M ≤ 300 := by rw [hM.out]; exact hd3
        generalize w6.drewN nq = w7 at *
        obtain ⟨w0r, hw0r⟩ : ∃ z, z = wr := ⟨_, rfl⟩
        subst hw0r
        go_loopw [85] (fun i wx => ∃ (j : Nat) (L' : List Int), j ≤ N ∧ i = .int .i64 j ∧ Hid (L'.length = N) ∧ Hid (wx.ownsRow w.heap.size 5 1 (.slice a5 N c5) N (bcells L')) ∧ Hid (Kept (fun k => (Value.slice a5 N c5).ownBlock = some k) w7 wx)) (fun i _ => N - (intOf i).toNat)
        case atStart => exact ⟨0, L, by omega, rfl, Lib.hid hN.out.symm, HA7, Lib.hid (Kept.refl _ _)⟩
        case round =>
          obtain ⟨j, L', hjN, rfl, HL', HA, HK⟩ := hrel
          obtain ⟨wx, hwx⟩ : ∃ z, z = wr := ⟨_, rfl⟩
          subst hwx
          by_cases hj2 : j < N
          · obtain ⟨ga, ca, ea, _, hcell⟩ := row_cells2 HA.out
            cases ea
            obtain ⟨g5, hg5, _, _, hcc⟩ := hcell (by omega)
            subst hg5
            have cj : wx.cell? ⟨g5, j, none⟩ = some (.int .u8 (L'.getD j 0)) := by
              have h9 := HL'.out
              rw [hcc j (by omega)]
              simp [bcells, List.getD_eq_getElem?_getD, show j < L'.length by omega]
            have fj := HA.out.frozenAt j
            obtain ⟨y, hy⟩ : ∃ y, y = L'.getD j 0 := ⟨_, rfl⟩
            rw [← hy] at cj
            have HS := Lib.hid (row_inc HA.out HL'.out j hj2 (IntKind.u8.wrap (y + 1)))
            have HLS := Lib.hid (show (L'.set j (IntKind.u8.wrap (y + 1))).length = N by rw [List.length_set]; exact HL'.out)
            have HKS := Lib.hid (HK.out.setCell (p := ⟨g5, j, none⟩) rfl (.int .u8 (IntKind.u8.wrap (y + 1))))
            clear hcc hy
            go_wp2_with fail
            go_roundw
            case rel => exact ⟨j + 1, _, by omega, by go_num, HLS, HS, HKS⟩
            case measure => simp [intOf]; omega
          · have HO8 : Hid (wx.ownsRow (w0r.heap.size + 1) 5 1 (.slice (some ⟨g, 0, none⟩) M c4) M (bcells D)) := Lib.hid (ownsRow_keep HO7.out HK.out (fun q hq hh => by cases hq; exact HN5.out hh))
            clear HO7 HA7 HA
            go_wp2_with fail
            go_loopw [97] (fun i wy => ∃ (j3 : Nat) (L2 : List Int), j3 ≤ M ∧ i = .int .i64 j3 ∧ Hid (L2.length = M) ∧ Hid (wy.ownsRow (w0r.heap.size + 1) 5 1 (.slice (some ⟨g, 0, none⟩) M c4) M (bcells L2)) ∧ Hid (Kept (fun k => k = g) wx wy)) (fun i _ => M - (intOf i).toNat)
            case atStart => exact ⟨0, D, by omega, rfl, Lib.hid hM.out.symm, HO8, Lib.hid (Kept.refl _ _)⟩
            case round =>
              obtain ⟨j3, L2, hjM, rfl, HL2, HA2, HK2⟩ := hrel
              obtain ⟨wy, hwy⟩ : ∃ z, z = wr := ⟨_, rfl⟩
              subst hwy
              clear HO8
              by_cases hj2 : j3 < M
              · obtain ⟨ga, ca, ea, _, hcell⟩ := row_cells2 HA2.out
                cases ea
                obtain ⟨g5, hg5, _, _, hcc⟩ := hcell (by omega)
                cases hg5
                have cj : wy.cell? ⟨g, j3, none⟩ = some (.int .u8 (L2.getD j3 0)) := by
                  have h9 := HL2.out
                  rw [hcc j3 (by omega)]
                  simp [bcells, List.getD_eq_getElem?_getD, show j3 < L2.length by omega]
                have fj := HA2.out.frozenAt j3
                obtain ⟨y, hy⟩ : ∃ y, y = L2.getD j3 0 := ⟨_, rfl⟩
                rw [← hy] at cj
                have HS := Lib.hid (row_inc HA2.out HL2.out j3 hj2 (IntKind.u8.wrap (y + 1)))
                have HLS := Lib.hid (show (L2.set j3 (IntKind.u8.wrap (y + 1))).length = M by rw [List.length_set]; exact HL2.out)
                have HKS := Lib.hid (HK2.out.setCell (p := ⟨g, j3, none⟩) rfl (.int .u8 (IntKind.u8.wrap (y + 1))))
                clear hcc hy
                go_wp2_with fail
                go_roundw
                case rel => exact ⟨j3 + 1, _, by omega, by go_num, HLS, HS, HKS⟩
                case measure => simp [intOf]; omega
              · have HTF := Lib.hid (HM7.out wx wy HK.out HK2.out)
                clear HM7 HK HK2 HA2 HL2 HL'
                go_wp2_with fail
                go_roundw
                case rel => exact ⟨k + 1, _, _, _, _, by omega, by go_num, HTF, Lib.hid (by have h := HIN.out; exact ⟨h.1, h.2.1, by have := h.2.2.1; omega, h.2.2.2⟩)⟩
                case measure => simp [intOf]; omega
      · have HB : Hid (Below w.heap.size w wr) := Lib.hid HT.out.bel
        clear HOK H3 HL HT HI
        go_wp2_with fail
        go_ret
        exact ⟨rfl, HB.out⟩

end Go.Proofs.Ytfahnjicinpahaa
