/- The document's headers of records. -/
import Derived.Test.YthjmedocjndakaaRefBytes
import Derived.Test.YthjmedocjndakaaRefNumber
import Derived.Test.YthjmedocjndakaaByteMath
import Derived.Test.YthjmedocjndakaaHead
import Derived.Deep.QuietTactic
import Derived.BigQuiet
import Derived.WalkSmall
namespace Go.Proofs.Ythjmedocjndakaa
open Go.RowKit
set_option linter.unusedVariables false

theorem rbytes3_any (v n : Int) (w : World) :
    Calls Try.prog 44 #[.int .i64 v, .int .i64 n] w fun e w' => ∃ s, e = .returned s ∧ ownsBytes w' w.heap.size s (byteL (v % 18446744073709551616) n) ∧ Below w.heap.size w w' := by
  have e1 : IntKind.u64.wrap v = v % 18446744073709551616 := IntKind.wrap_u64 v
  have h0 : 0 ≤ v % 18446744073709551616 := by omega
  have h1 : v % 18446744073709551616 ≤ 18446744073709551615 := by omega
  generalize v % 18446744073709551616 = u at *
  go_enter Try.func44, Try.ntmps44
  go_wp2_with (go_at_call 41; refine (rbytes_any _ _ _ h0 h1).mono ?_; rintro e w1 ⟨s, rfl, ho, hb⟩)
  go_ret
  exact ⟨_, rfl, ho, hb⟩

theorem rsigned_any (w : World) (s : Value) (l : List Int) (hl : Ints .u8 w s l) (hr : ∀ x ∈ l, 0 ≤ x ∧ x < 256) (h4 : l.length = 4) :
    Calls Try.prog 42 #[s] w fun e w' => e = .returned (.int .i32 (wrap32 (num l))) ∧ w = w' := by
  have hn := num_range l hr
  rw [h4] at hn
  have hn0 := hn.1
  have hn1 : num l < 4294967296 := hn.2
  have ht : l.take 8 = l := List.take_of_length_le (by omega)
  have hm : l.length ≤ maxLen := by unfold maxLen; omega
  have HT := Lib.hid ht
  clear ht hn h4
  by_cases h : 2147483648 ≤ num l
  · have H := Lib.hid (show wrap32 (num l) = num l - 4294967296 by unfold wrap32; omega)
    go_enter Try.func42, Try.ntmps42
    go_wp2_with (go_at_call 43; refine (rnumber_any _ _ _ hl hr hm).mono ?_; rw [HT.out]; rintro e w' ⟨rfl, rfl⟩)
    go_ret
    exact ⟨by rw [H.out]; rfl, rfl⟩
  · have H := Lib.hid (show wrap32 (num l) = num l by unfold wrap32; omega)
    go_enter Try.func42, Try.ntmps42
    go_wp2_with (go_at_call 43; refine (rnumber_any _ _ _ hl hr hm).mono ?_; rw [HT.out]; rintro e w' ⟨rfl, rfl⟩)
    go_ret
    exact ⟨by rw [H.out]; rfl, rfl⟩

theorem rbytes3_four (v : Int) (w : World) :
    Calls Try.prog 44 #[.int .i64 v, .int .i64 4] w fun e w' => ∃ g cap, e = .returned (.slice (some ⟨g, 0, none⟩) 4 cap) ∧ w.heap.size ≤ g ∧ (∀ i, i < 4 → w'.cell? ⟨g, i, none⟩ = some (.int .u8 ((byteL (v % 18446744073709551616) 4).getD i 0))) ∧ w'.ownsRow w.heap.size 5 1 (.slice (some ⟨g, 0, none⟩) 4 cap) 4 ((byteL (v % 18446744073709551616) 4).map (Value.int .u8)) ∧ Below w.heap.size w w' := by
  refine (rbytes3_any v 4 w).mono ?_
  rintro e w' ⟨s, rfl, ho, hb⟩
  unfold ownsBytes at ho
  obtain ⟨g, cap, rfl, hg, _, _, _, hc⟩ := owns_open ho (by simp [byteL_four])
  exact ⟨g, cap, rfl, hg, hc, ho, hb⟩

theorem rrecord_any (l t : Int) (w : World) (p0 : -2147483648 ≤ l) (q0 : l ≤ 2147483647) (p1 : -2147483648 ≤ t) (q1 : t ≤ 2147483647) :
    Calls Try.prog 13 #[.int .i32 l, .int .i32 t] w fun e w' => e = .returned (.int .u64 (recI l t)) ∧ Below w.heap.size w w' := by
  obtain ⟨i0, hi, hz0, hz1, hz2⟩ := info_parts Try.info5
  have hfin : num ((byteL (l % 18446744073709551616) 4 ++ byteL (t % 18446744073709551616) 4).take 8) = recI l t := by
    rw [List.take_of_length_le (by simp [byteL_four]), num_app, byteL_four, byteL_four, num_four _ (by omega), num_four _ (by omega)]
    unfold recI
    simp; omega
  have HF := Lib.hid hfin
  clear hfin
  have hl1 : (byteL (l % 18446744073709551616) 4).length = 4 := rfl
  have hl2 : (byteL (t % 18446744073709551616) 4).length = 4 := rfl
  have r1 := byteL_range (l % 18446744073709551616) 4
  have r2 := byteL_range (t % 18446744073709551616) 4
  have hb1 := fun W => Lib.hid (rbytes3_four l W)
  have hb2 := fun W => Lib.hid (rbytes3_four t W)
  generalize byteL (l % 18446744073709551616) 4 = L at *
  generalize byteL (t % 18446744073709551616) 4 = M at *
  have hr : ∀ x ∈ L ++ M, 0 ≤ x ∧ x < 256 := fun x hx => by rcases List.mem_append.1 hx with h | h; exact r1 x h; exact r2 x h
  have HR := Lib.hid hr
  have HL := Lib.hid hl1
  have HM := Lib.hid hl2
  clear hl1 hl2 r1 r2 hr
  go_enter Try.func13, Try.ntmps13
  go_wp2_with fail
  refine ((hb1 _).out).mono ?_
  rintro e w1 ⟨g1, c1, rfl, hg1, _, ho1, hB1⟩
  go_wp2_with fail
  refine ((hb2 _).out).mono ?_
  rintro e w2 ⟨g2, c2, rfl, hg2, hc2, ho2, hB2⟩
  have ho1' := owns_below ho1 hB2
  have hsz := hB1.size
  have hsz2 := hB2.size
  have hmx : 4 + 4 ≤ maxLen := by unfold maxLen; omega
  have HMX := Lib.hid hmx
  have hn : ∀ j u, (M.map (Value.int .u8))[j]? = some u → w2.cell? ((⟨g2, 0, none⟩ : Addr).add j) = some u := by
    intro j u hu
    have hj : j < 4 := by have := (List.getElem?_eq_some_iff.1 hu).1; rw [List.length_map, HM.out] at this; exact this
    have hadd : (⟨g2, 0, none⟩ : Addr).add j = ⟨g2, j, none⟩ := by unfold Addr.add; split <;> simp_all
    rw [hadd, hc2 j hj, ← hu]
    simp [List.getD_eq_getElem?_getD, show j < M.length by rw [HM.out]; exact hj]
  have HN := Lib.hid hn
  clear ho1 hn hc2 ho2
  go_wp2_with (at_builtin; refine wpList_append_own _ rfl _ _ 57 rfl w.heap.size 5 i0 (.int .u8 0) 1 1 Try.underlying57 hi hz0 hz1 hz2 rfl (by decide) _ _ _ rfl ho1' ⟨g2, 0, none⟩ 4 c2 (M.map (Value.int .u8)) rfl ?c0 HN.out ?c2 HMX.out (by decide) ?c5 ?_)
  case c0 => rw [List.length_map, HM.out]
  case c2 => intro u hu; obtain ⟨x, _, rfl⟩ := List.mem_map.1 hu; rfl
  case c5 => omega
  intro s3 w3 ho3 hg3 _
  have hB3 : Below w.heap.size w w3 := (hB1.trans (hB2.mono hsz)).grown hg3 (by omega) (fun j hj => by simp [Value.ownBlock] at hj; omega)
  have hi3 : Ints .u8 w3 s3 (L ++ M) := by
    refine Ints.of_owned (base := w.heap.size) (e := 5) ?_
    rw [List.length_append, HL.out, HM.out, List.map_append]; exact ho3
  have hm3 : (L ++ M).length ≤ maxLen := by rw [List.length_append, HL.out, HM.out]; exact HMX.out
  have HB3 := Lib.hid hB3
  have HI3 := Lib.hid hi3
  have HM3 := Lib.hid hm3
  clear ho3 hg3 hB3 hi3 hm3 hB1 hB2 ho1'
  go_wp2_with (go_at_call 43; refine (rnumber_any _ _ _ HI3.out HR.out HM3.out).mono ?_; rw [HF.out]; rintro e w' ⟨rfl, rfl⟩)
  go_ret
  exact ⟨rfl, HB3.out⟩

theorem rsplit_any (v : Int) (w : World) (h1 : 0 ≤ v) (h2 : v ≤ 18446744073709551615) :
    Calls Try.prog 12 #[.int .u64 v] w fun e w' => e = .returned (.tuple #[.int .i32 (spL v), .int .i32 (spT v)]) ∧ Below w.heap.size w w' := by
  have f1 : spL v = wrap32 (num [byteI v 0, byteI v 1, byteI v 2, byteI v 3]) := by rw [num_four v h1]; unfold spL wrap32; omega
  have f2 : spT v = wrap32 (num [byteI v 4, byteI v 5, byteI v 6, byteI v 7]) := by rw [num_high v h1 h2]; rfl
  have F1 := Lib.hid f1
  have F2 := Lib.hid f2
  clear f1 f2
  have hb : ∀ W : World, Hid (Calls Try.prog 41 #[.int .u64 v, .int .i64 8] W fun e w' => ∃ g cap, e = .returned (.slice (some ⟨g, 0, none⟩) 8 cap) ∧ 8 ≤ cap ∧ cap ≤ maxLen ∧ Hid (∀ i, i < 8 → w'.cell? ⟨g, i, none⟩ = some (.int .u8 ((byteL v 8).getD i 0))) ∧ Below W.heap.size W w') := by
    intro W
    refine Lib.hid ((rbytes_any v 8 W h1 h2).mono ?_)
    rintro e w' ⟨s, rfl, ho, hb⟩
    unfold ownsBytes at ho
    obtain ⟨g, cap, rfl, hg, _, hcap, hcm, hc⟩ := owns_open ho (by simp [byteL_eight])
    exact ⟨g, cap, rfl, hcap, hcm, Lib.hid hc, hb⟩
  go_enter Try.func12, Try.ntmps12
  go_wp2_with fail
  refine ((hb _).out).mono ?_
  rintro e w1 ⟨g, cap, rfl, hcap, hcm, HC, hB⟩
  unfold maxLen at hcm
  have HB := Lib.hid hB
  clear hB hb
  go_wp2_with fail
  have q1 : ∀ n, Ints .u8 (w1.drewN n) (.slice (some ⟨g, 0, none⟩) 4 cap) [byteI v 0, byteI v 1, byteI v 2, byteI v 3] := by
    intro n
    refine ⟨_, _, rfl, .inr ⟨g, 0, rfl, fun i hi => ?_⟩⟩
    have h := HC.out i (by simp at hi; omega)
    have hi' : i = 0 ∨ i = 1 ∨ i = 2 ∨ i = 3 := by simp at hi; omega
    rw [Nat.zero_add]
    rcases hi' with rfl | rfl | rfl | rfl <;> exact h
  have q2 : ∀ n, Ints .u8 (w1.drewN n) (.slice (some ⟨g, 4, none⟩) 4 (cap - 4)) [byteI v 4, byteI v 5, byteI v 6, byteI v 7] := by
    intro n
    refine ⟨_, _, rfl, .inr ⟨g, 4, rfl, fun i hi => ?_⟩⟩
    have h := HC.out (4 + i) (by simp at hi; omega)
    have hi' : i = 0 ∨ i = 1 ∨ i = 2 ∨ i = 3 := by simp at hi; omega
    rcases hi' with rfl | rfl | rfl | rfl <;> exact h
  have rg : ∀ a b c d, ∀ x ∈ [byteI v a, byteI v b, byteI v c, byteI v d], 0 ≤ x ∧ x < 256 := by
    intro a b c d x hx
    simp at hx
    rcases hx with rfl | rfl | rfl | rfl <;> exact byteI_range v _
  have C1 : ∀ n, Hid (Calls Try.prog 42 #[.slice (some ⟨g, 0, none⟩) 4 cap] (w1.drewN n) fun e w' => e = .returned (.int .i32 (spL v)) ∧ w' = w1.drewN n) := fun n => by
    rw [F1.out]; exact (rsigned_any _ _ _ (q1 n) (rg 0 1 2 3) rfl).mono fun _ _ h => ⟨h.1, h.2.symm⟩
  have C2 : ∀ n, Hid (Calls Try.prog 42 #[.slice (some ⟨g, 4, none⟩) 4 (cap - 4)] (w1.drewN n) fun e w' => e = .returned (.int .i32 (spT v)) ∧ w' = w1.drewN n) := fun n => by
    rw [F2.out]; exact (rsigned_any _ _ _ (q2 n) (rg 4 5 6 7) rfl).mono fun _ _ h => ⟨h.1, h.2.symm⟩
  clear q1 q2 rg
  have z1 : (4 : Int) ≤ (cap : Int) := by omega
  have z2 : (8 : Int) ≤ (cap : Int) := by omega
  have z3 : 4 ≤ cap := by omega
  have z4 : 4 < cap := by omega
  have z5 : ¬ cap = 4 := by omega
  go_quiet ((go_at_call 42; (first | (with_reducible exact Calls.quiet_of_same (C1 _).out) | (with_reducible exact Calls.quiet_of_same (C2 _).out))))
  go_wp2
  go_ret2
  exact ⟨rfl, below_drewN HB.out _⟩

end Go.Proofs.Ythjmedocjndakaa
