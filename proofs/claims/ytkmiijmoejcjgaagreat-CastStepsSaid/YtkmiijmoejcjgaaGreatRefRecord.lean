/- The document's headers of records. -/
import Derived.Test.YtkmiijmoejcjgaaGreatRefBytes
import Derived.Test.YtkmiijmoejcjgaaGreatRefNumber
import Derived.Test.YtkmiijmoejcjgaaGreatByteMath
import Derived.Test.YtkmiijmoejcjgaaGreatHead
import Derived.Deep.QuietTactic
import Derived.BigQuiet
import Derived.WalkSmall
namespace Go.Proofs.YtkmiijmoejcjgaaGreat
open Go.RowKit
set_option linter.unusedVariables false

set_option maxRecDepth 100000 in
theorem rbytes3_any (v n : Int) (w : World) :
    Calls Tryz.prog 73 #[.int .i64 v, .int .i64 n] w fun e w' => ∃ s, e = .returned s ∧ ownsBytes w' w.heap.size s (byteL (v % 18446744073709551616) n) ∧ Below w.heap.size w w' := by
  have e1 : IntKind.u64.wrap v = v % 18446744073709551616 := IntKind.wrap_u64 v
  have h0 : 0 ≤ v % 18446744073709551616 := by omega
  have h1 : v % 18446744073709551616 ≤ 18446744073709551615 := by omega
  generalize v % 18446744073709551616 = u at *
  go_enter Tryz.func73, Tryz.ntmps73
  go_wp2_with (go_at_call 84; refine (rbytes_any _ _ _ h0 h1).mono ?_; rintro e w1 ⟨s, rfl, ho, hb⟩)
  go_ret
  exact ⟨_, rfl, ho, hb⟩

set_option maxRecDepth 100000 in
theorem rbytes3_four (v : Int) (w : World) :
    Calls Tryz.prog 73 #[.int .i64 v, .int .i64 4] w fun e w' => ∃ g cap, e = .returned (.slice (some ⟨g, 0, none⟩) 4 cap) ∧ w.heap.size ≤ g ∧ (∀ i, i < 4 → w'.cell? ⟨g, i, none⟩ = some (.int .u8 ((byteL (v % 18446744073709551616) 4).getD i 0))) ∧ w'.ownsRow w.heap.size 5 1 (.slice (some ⟨g, 0, none⟩) 4 cap) 4 ((byteL (v % 18446744073709551616) 4).map (Value.int .u8)) ∧ Below w.heap.size w w' := by
  refine (rbytes3_any v 4 w).mono ?_
  rintro e w' ⟨s, rfl, ho, hb⟩
  unfold ownsBytes at ho
  obtain ⟨g, cap, rfl, hg, _, _, _, hc⟩ := owns_open ho (by simp [byteL_four])
  exact ⟨g, cap, rfl, hg, hc, ho, hb⟩

set_option maxRecDepth 100000 in
theorem rrecord_any (l t : Int) (w : World) (p0 : -2147483648 ≤ l) (q0 : l ≤ 2147483647) (p1 : -2147483648 ≤ t) (q1 : t ≤ 2147483647) :
    Calls Tryz.prog 47 #[.int .i32 l, .int .i32 t] w fun e w' => e = .returned (.int .u64 (recI l t)) ∧ Below w.heap.size w w' := by
  obtain ⟨i0, hi, hz0, hz1, hz2⟩ := info_parts Tryz.info5
  have hfin : num ((byteL (l % 18446744073709551616) 4 ++ byteL (t % 18446744073709551616) 4).take 8) = recI l t := by
    rw [List.take_of_length_le (by simp [byteL_four]), num_app, byteL_four, byteL_four, num_four _ (by omega), num_four _ (by omega)]
    unfold recI
    simp; omega
  have HF := Lib.hid hfin
  clear hfin
  have hl1 : (byteL (l % 18446744073709551616) 4).length = 4 := rfl
  have hl2 : (byteL (t % 18446744073709551616) 4).length = 4 := rfl
  have r1 := byteL_range (l % 18446744073709551616) 4
  have r2 := byteL_range (t % 18446744073709551616) 4
  have hb1 := fun W => Lib.hid (rbytes3_four l W)
  have hb2 := fun W => Lib.hid (rbytes3_four t W)
  generalize byteL (l % 18446744073709551616) 4 = L at *
  generalize byteL (t % 18446744073709551616) 4 = M at *
  have hr : ∀ x ∈ L ++ M, 0 ≤ x ∧ x < 256 := fun x hx => by rcases List.mem_append.1 hx with h | h; exact r1 x h; exact r2 x h
  have HR := Lib.hid hr
  have HL := Lib.hid hl1
  have HM := Lib.hid hl2
  clear hl1 hl2 r1 r2 hr
  go_enter Tryz.func47, Tryz.ntmps47
  go_wp2_with fail
  refine ((hb1 _).out).mono ?_
  rintro e w1 ⟨g1, c1, rfl, hg1, _, ho1, hB1⟩
  go_wp2_with fail
  refine ((hb2 _).out).mono ?_
  rintro e w2 ⟨g2, c2, rfl, hg2, hc2, ho2, hB2⟩
  have ho1' := owns_below ho1 hB2
  have hsz := hB1.size
  have hsz2 := hB2.size
  have hmx : 4 + 4 ≤ maxLen := by unfold maxLen; omega
  have HMX := Lib.hid hmx
  have hn : ∀ j u, (M.map (Value.int .u8))[j]? = some u → w2.cell? ((⟨g2, 0, none⟩ : Addr).add j) = some u := by
    intro j u hu
    have hj : j < 4 := by have := (List.getElem?_eq_some_iff.1 hu).1; rw [List.length_map, HM.out] at this; exact this
    have hadd : (⟨g2, 0, none⟩ : Addr).add j = ⟨g2, j, none⟩ := by unfold Addr.add; split <;> simp_all
    rw [hadd, hc2 j hj, ← hu]
    simp [List.getD_eq_getElem?_getD, show j < M.length by rw [HM.out]; exact hj]
  have HN := Lib.hid hn
  clear ho1 hn hc2 ho2
  go_wp2_with (at_builtin; refine wpList_append_own _ rfl _ _ 24 rfl w.heap.size 5 i0 (.int .u8 0) 1 1 Tryz.underlying24 hi hz0 hz1 hz2 rfl (by decide) _ _ _ rfl ho1' ⟨g2, 0, none⟩ 4 c2 (M.map (Value.int .u8)) rfl ?c0 HN.out ?c2 HMX.out (by decide) ?c5 ?_)
  case c0 => rw [List.length_map, HM.out]
  case c2 => intro u hu; obtain ⟨x, _, rfl⟩ := List.mem_map.1 hu; rfl
  case c5 => omega
  intro s3 w3 ho3 hg3 _
  have hB3 : Below w.heap.size w w3 := (hB1.trans (hB2.mono hsz)).grown hg3 (by omega) (fun j hj => by simp [Value.ownBlock] at hj; omega)
  have hi3 : Ints .u8 w3 s3 (L ++ M) := by
    refine Ints.of_owned (base := w.heap.size) (e := 5) ?_
    rw [List.length_append, HL.out, HM.out, List.map_append]; exact ho3
  have hm3 : (L ++ M).length ≤ maxLen := by rw [List.length_append, HL.out, HM.out]; exact HMX.out
  have HB3 := Lib.hid hB3
  have HI3 := Lib.hid hi3
  have HM3 := Lib.hid hm3
  clear ho3 hg3 hB3 hi3 hm3 hB1 hB2 ho1'
  go_wp2_with (go_at_call 72; refine (rnumber_any _ _ _ HI3.out HR.out HM3.out).mono ?_; rw [HF.out]; rintro e w' ⟨rfl, rfl⟩)
  go_ret
  exact ⟨rfl, HB3.out⟩

end Go.Proofs.YtkmiijmoejcjgaaGreat
