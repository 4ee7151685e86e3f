/- Statement MetaCuts: how any message is cut, and what it needs, is what the document says, or it is refused.
   No condition: for every input that can be read. -/
import Derived.Test.YtginhhjnbimmeaaRows
import Derived.Test.YtginhhjnbimmeaaKit
import Derived.Test.YtginhhjnbimmeaaRk14
import Derived.Test.YtginhhjnbimmeaaTerm
import Derived.Test.YtginhhjnbimmeaaCutsA
import Derived.Test.YtginhhjnbimmeaaCutsB
import Derived.Test.YtginhhjnbimmeaaCutsC
import Derived.Test.YtginhhjnbimmeaaCutsD
import Derived.ProofKit
import Derived.OpenShut
import Derived.ShutString
import Derived.ChangeOld
import Derived.Below
import Derived.Deep.Fields
import Derived.WideShapes
import Derived.Lib.SmallJoins
namespace Go.Proofs.Ytginhhjnbimmeaa.metaCuts
open Go.ChangeShapes Go.WideShapes Go.ChangeAt Go.RowKit
open Go.ChangeMaps (open_string shut_string)
set_option linter.unusedVariables false

open Go.Joins Go.Deep
theorem own : ownKnob Try.prog.godebug = none := by kernel_rfl
section
variable {H : Type} {enc : TypeId × Value → H} {P : Program} {w : World} {base : Nat} {spare : Nat → Bool} {held : Bool}
set_option maxRecDepth 100000 in
theorem open_aggs7 {r : Reach} {b0 : Nat} {t : TypeId} {f0 f1 f2 f3 f4 f5 f6 : Field} {v : Value} {d : DataW H} {p : List MemPlace} (hs : P.underlying t = some (.struct #[f0, f1, f2, f3, f4, f5, f6])) (hone : oneCellFields P #[f0, f1, f2, f3, f4, f5, f6] = true) (hC : P.cellsOf t = 7)
    (hv : Value.okWide P w r b0 t v) (h : DataW.Trod enc P w base spare held t v d p) :
    ∃ (c0 c1 c2 c3 c4 c5 c6 : Value) (y0 y1 y2 y3 y4 y5 y6 : DataW H × List MemPlace) (n : Nat), v = .agg #[c0, c1, c2, c3, c4, c5, c6] ∧ DataW.trod enc P w base spare held n f0.type [c0] = some y0 ∧ DataW.trod enc P w base spare held n f1.type [c1] = some y1 ∧ DataW.trod enc P w base spare held n f2.type [c2] = some y2 ∧ DataW.trod enc P w base spare held n f3.type [c3] = some y3 ∧ DataW.trod enc P w base spare held n f4.type [c4] = some y4 ∧ DataW.trod enc P w base spare held n f5.type [c5] = some y5 ∧ DataW.trod enc P w base spare held n f6.type [c6] = some y6 := by
  obtain ⟨cs, rfl, hsz⟩ := okWide_struct hs hv
  obtain ⟨l⟩ := cs
  match l, hsz.trans hC with
  | [c0, c1, c2, c3, c4, c5, c6], _ =>
    obtain ⟨fuel, hf⟩ := h
    obtain ⟨xs, n, _, hx, _, hlen, hg⟩ := DataW.trod_struct hs hf
    obtain ⟨o0, k0⟩ := Go.Deep.hone_of hone 0 f0 rfl
    obtain ⟨o1, k1⟩ := Go.Deep.hone_of hone 1 f1 rfl
    obtain ⟨o2, k2⟩ := Go.Deep.hone_of hone 2 f2 rfl
    obtain ⟨o3, k3⟩ := Go.Deep.hone_of hone 3 f3 rfl
    obtain ⟨o4, k4⟩ := Go.Deep.hone_of hone 4 f4 rfl
    obtain ⟨o5, k5⟩ := Go.Deep.hone_of hone 5 f5 rfl
    obtain ⟨o6, k6⟩ := Go.Deep.hone_of hone 6 f6 rfl
    match xs, hlen with
    | [y0, y1, y2, y3, y4, y5, y6], _ =>
      exact ⟨c0, c1, c2, c3, c4, c5, c6, y0, y1, y2, y3, y4, y5, y6, n, rfl, by simpa [Value.cells, o0, k0] using hg 0 f0 rfl, by simpa [Value.cells, o1, k1] using hg 1 f1 rfl, by simpa [Value.cells, o2, k2] using hg 2 f2 rfl, by simpa [Value.cells, o3, k3] using hg 3 f3 rfl, by simpa [Value.cells, o4, k4] using hg 4 f4 rfl, by simpa [Value.cells, o5, k5] using hg 5 f5 rfl, by simpa [Value.cells, o6, k6] using hg 6 f6 rfl⟩
end
theorem laidOut : laidOutB Try.prog = true := by kernel_rfl

open Go.X Go.Proofs.Ytginhhjnbimmeaa.rk Go.Proofs.Ytginhhjnbimmeaa.cuts

def tree : DT := (.split .lss (.leaf 3) (.lit 1) (.split .lss (.leaf 2) (.lit 32) .run (.split .lss (.bin .quo .i64 (.leaf 1) (.lit 8)) (.leaf 2) .run (.split .eql (.bin .rem .i64 (.leaf 2) (.lit 32)) (.lit 0) .run .run))) (.split .lss (.lit 8) (.leaf 3) (.split .lss (.leaf 2) (.lit 32) .run (.split .lss (.bin .quo .i64 (.leaf 1) (.lit 8)) (.leaf 2) .run (.split .eql (.bin .rem .i64 (.leaf 2) (.lit 32)) (.lit 0) .run .run))) (.split .lss (.leaf 2) (.lit 32) .run (.split .lss (.bin .quo .i64 (.leaf 1) (.lit 8)) (.leaf 2) .run (.split .eql (.bin .rem .i64 (.leaf 2) (.lit 32)) (.lit 0) (.split .lss (.leaf 0) (.lit 0) .run (.split .lss (.bin .sub .i64 (.bin .sub .i64 (.lit 131072) (.bin .mul .i64 (.lit 3) (.leaf 1))) (.lit 128)) (.leaf 0) (.split .eql (.bin .rem .i64 (.leaf 0) (.lit 8)) (.lit 0) .run .run) (.split .eql (.bin .rem .i64 (.leaf 0) (.lit 8)) (.lit 0) (.split .lss (.leaf 7) (.lit 0) .run (.split .lss (.bin .quo .i64 (.leaf 1) (.lit 8)) (.leaf 7) .run .dead)) .run))) .run)))))

theorem reckonedF : DT.good (cfgT false) 60 3 args .run [] = true := by kernel_rfl
theorem reckonedT : DT.good (cfgT true) 60 3 args tree [] = true := by kernel_rfl
theorem cuts : ∀ (k : Nat) (b : Bool), k < 32 → cutOk k b
  | 0, true, _ => t0
  | 0, false, _ => f0
  | 1, true, _ => t1
  | 1, false, _ => f1
  | 2, true, _ => t2
  | 2, false, _ => f2
  | 3, true, _ => t3
  | 3, false, _ => f3
  | 4, true, _ => t4
  | 4, false, _ => f4
  | 5, true, _ => t5
  | 5, false, _ => f5
  | 6, true, _ => t6
  | 6, false, _ => f6
  | 7, true, _ => t7
  | 7, false, _ => f7
  | 8, true, _ => t8
  | 8, false, _ => f8
  | 9, true, _ => t9
  | 9, false, _ => f9
  | 10, true, _ => t10
  | 10, false, _ => f10
  | 11, true, _ => t11
  | 11, false, _ => f11
  | 12, true, _ => t12
  | 12, false, _ => f12
  | 13, true, _ => t13
  | 13, false, _ => f13
  | 14, true, _ => t14
  | 14, false, _ => f14
  | 15, true, _ => t15
  | 15, false, _ => f15
  | 16, true, _ => t16
  | 16, false, _ => f16
  | 17, true, _ => t17
  | 17, false, _ => f17
  | 18, true, _ => t18
  | 18, false, _ => f18
  | 19, true, _ => t19
  | 19, false, _ => f19
  | 20, true, _ => t20
  | 20, false, _ => f20
  | 21, true, _ => t21
  | 21, false, _ => f21
  | 22, true, _ => t22
  | 22, false, _ => f22
  | 23, true, _ => t23
  | 23, false, _ => f23
  | 24, true, _ => t24
  | 24, false, _ => f24
  | 25, true, _ => t25
  | 25, false, _ => f25
  | 26, true, _ => t26
  | 26, false, _ => f26
  | 27, true, _ => t27
  | 27, false, _ => f27
  | 28, true, _ => t28
  | 28, false, _ => f28
  | 29, true, _ => t29
  | 29, false, _ => f29
  | 30, true, _ => t30
  | 30, false, _ => f30
  | 31, true, _ => t31
  | 31, false, _ => f31
  | k + 32, _, h => absurd h (by omega)

set_option linter.unusedSimpArgs false in
set_option maxRecDepth 100000 in
theorem walk (a0_0 a0_1 a0_2 a0_3 a0_4 a0_5 a0_6 a1 : Int) (w : World) (w0_0 : (Lit.int .i64 a0_0).wf = true) (w0_1 : (Lit.int .i64 a0_1).wf = true) (w0_2 : (Lit.int .i64 a0_2).wf = true) (w0_3 : (Lit.int .i64 a0_3).wf = true) (w0_4 : (Lit.int .i32 a0_4).wf = true) (w0_5 : (Lit.int .i32 a0_5).wf = true) (w0_6 : (Lit.int .i32 a0_6).wf = true) (w1 : (Lit.int .i64 a1).wf = true) :
    Calls Try.prog 3 #[.agg #[.int .i64 a0_0, .int .i64 a0_1, .int .i64 a0_2, .int .i64 a0_3, .int .i32 a0_4, .int .i32 a0_5, .int .i32 a0_6], .int .i64 a1] w fun e w' => e = .returned (.bool true) ∧ Below w.heap.size w w' := by
  obtain ⟨l0, u0⟩ := range_i64 w0_0
  obtain ⟨l1, u1⟩ := range_i64 w0_1
  obtain ⟨l2, u2⟩ := range_i64 w0_2
  obtain ⟨l3, u3⟩ := range_i64 w0_3
  obtain ⟨l7, u7⟩ := range_i64 w1
  have e0 : valInt (leaves [.int .i64 a0_0, .int .i64 a0_1, .int .i64 a0_2, .int .i64 a0_3, .int .i32 a0_4, .int .i32 a0_5, .int .i32 a0_6, .int .i64 a1] 0) = a0_0 := rfl
  have e1 : valInt (leaves [.int .i64 a0_0, .int .i64 a0_1, .int .i64 a0_2, .int .i64 a0_3, .int .i32 a0_4, .int .i32 a0_5, .int .i32 a0_6, .int .i64 a1] 1) = a0_1 := rfl
  have e2 : valInt (leaves [.int .i64 a0_0, .int .i64 a0_1, .int .i64 a0_2, .int .i64 a0_3, .int .i32 a0_4, .int .i32 a0_5, .int .i32 a0_6, .int .i64 a1] 2) = a0_2 := rfl
  have e3 : valInt (leaves [.int .i64 a0_0, .int .i64 a0_1, .int .i64 a0_2, .int .i64 a0_3, .int .i32 a0_4, .int .i32 a0_5, .int .i32 a0_6, .int .i64 a1] 3) = a0_3 := rfl
  have e7 : valInt (leaves [.int .i64 a0_0, .int .i64 a0_1, .int .i64 a0_2, .int .i64 a0_3, .int .i32 a0_4, .int .i32 a0_5, .int .i32 a0_6, .int .i64 a1] 7) = a1 := rfl
  generalize hL : leaves [.int .i64 a0_0, .int .i64 a0_1, .int .i64 a0_2, .int .i64 a0_3, .int .i32 a0_4, .int .i32 a0_5, .int .i32 a0_6, .int .i64 a1] = L at e0 e1 e2 e3 e7
  have hleafy : Leafy L := by rw [← hL]; exact leaves_leafy rfl
  have hil : il L ⟨fun _ => none, fun _ => none⟩ args = some [.agg #[.int .i64 a0_0, .int .i64 a0_1, .int .i64 a0_2, .int .i64 a0_3, .int .i32 a0_4, .int .i32 a0_5, .int .i32 a0_6], .int .i64 a1] := by rw [← hL]; rfl
  have ht : IE.eval L (.leaf 1) = a0_1 := by rw [eval_leaf, e1]
  have hknown : ∀ b, isT a0_1 = b → HookOk L (cfgT b) := fun b hb => hookOk_all rfl (by kernel_rfl) fixed14_true fun k hk => by
    simp only [asked, List.mem_cons, List.not_mem_nil, or_false] at hk
    rcases hk with rfl | rfl
    · refine ⟨by kernel_rfl, fun w => ?_⟩
      show Calls Try.prog _ #[.int .i64 (IE.eval L (.leaf 1))] w _
      rw [ht]
      exact (isTerm_any a0_1 w l1 u1).mono fun en w' ⟨h1, h2⟩ => by rw [hb] at h1; exact ⟨h1, h2 ▸ Below.refl _ _⟩
    · refine ⟨by kernel_rfl, fun w => ?_⟩
      show Calls Try.prog _ #[.int .i64 (IE.eval L (.leaf 1))] w _
      rw [ht]
      exact (risTerm_any a0_1 w l1 u1).mono fun en w' ⟨h1, h2⟩ => by rw [hb] at h1; exact ⟨h1, h2 ▸ Below.refl _ _⟩
  cases hb : isT a0_1 with
  | false =>
    exact called_cases (c := cfgT false) (L := L) hleafy follows (extOk_of exts rfl exts_ok) (hknown false hb) hil w .run [] (fun _ h => by cases h) (fun _ h => by cases h) reckonedF
  | true =>
    have hT := isT_cases hb
    by_cases hg : ¬ a0_3 < 1 ∧ ¬ 8 < a0_3 ∧ ¬ a0_2 < 32 ∧ ¬ IE.eval L (.bin .quo .i64 (.leaf 1) (.lit 8)) < a0_2 ∧ IE.eval L (.bin .rem .i64 (.leaf 2) (.lit 32)) = 0 ∧ ¬ a0_0 < 0 ∧
        ¬ IE.eval L (.bin .sub .i64 (.bin .sub .i64 (.lit 131072) (.bin .mul .i64 (.lit 3) (.leaf 1))) (.lit 128)) < a0_0 ∧ IE.eval L (.bin .rem .i64 (.leaf 0) (.lit 8)) = 0 ∧ ¬ a1 < 0 ∧ ¬ IE.eval L (.bin .quo .i64 (.leaf 1) (.lit 8)) < a1
    · obtain ⟨g3, g3', g2, g2', gr2, g0, g0', gr0, g7, g7'⟩ := hg
      obtain ⟨T, hTn⟩ : ∃ T : Nat, a0_1 = T := ⟨a0_1.toNat, by omega⟩
      obtain ⟨B, hBn⟩ : ∃ B : Nat, a0_0 = B := ⟨a0_0.toNat, by omega⟩
      obtain ⟨M, hMn⟩ : ∃ M : Nat, a0_2 = M := ⟨a0_2.toNat, by omega⟩
      obtain ⟨S, hSn⟩ : ∃ S : Nat, a0_3 = S := ⟨a0_3.toNat, by omega⟩
      obtain ⟨n, hnn⟩ : ∃ n : Nat, a1 = n := ⟨a1.toNat, by omega⟩
      have p1 : Ep L (.leaf 1) T := ⟨by rw [eval_leaf, e1, hTn], by omega⟩
      have q8 : Ep L (.bin .quo .i64 (.leaf 1) (.lit 8)) (T / 8) := p1.quo 8 (by decide)
      have h3 : Ep L (.bin .mul .i64 (.lit 3) (.leaf 1)) (3 * T) := ⟨by rw [eval_mul, p1.eq, eval_lit, wrap_i64]; omega, by omega⟩
      have hl : Ep L (.bin .sub .i64 (.bin .sub .i64 (.lit 131072) (.bin .mul .i64 (.lit 3) (.leaf 1))) (.lit 128)) (131072 - 3 * T - 128) := ((Ep.lit 131072 (by decide)).sub h3 (by omega)).sub (Ep.lit 128 (by decide)) (by omega)
      rw [q8.eq] at g2' g7'
      rw [hl.eq] at g0'
      have p2 : Ep L (.leaf 2) M := ⟨by rw [eval_leaf, e2, hMn], by omega⟩
      have p0 : Ep L (.leaf 0) B := ⟨by rw [eval_leaf, e0, hBn], by omega⟩
      have p3 : Ep L (.leaf 3) S := ⟨by rw [eval_leaf, e3, hSn], by omega⟩
      have p7 : Ep L (.leaf 7) n := ⟨by rw [eval_leaf, e7, hnn], by omega⟩
      have r2 : Ep L (.bin .rem .i64 (.leaf 2) (.lit 32)) (M % 32) := p2.rem 32 (by decide)
      have r0 : Ep L (.bin .rem .i64 (.leaf 0) (.lit 8)) (B % 8) := p0.rem 8 (by decide)
      rw [r2.eq] at gr2
      rw [r0.eq] at gr0
      obtain ⟨k, b, hk, hF⟩ := Given.all (L := L) (B := B) (T := T) (M := M) (S := S) (n := n) ⟨p0, p1, p2, p3, p7, by omega, by omega, by omega, by omega, by omega, by omega, by omega, by omega, by omega⟩
      exact called_cases (c := cfgT true) (L := L) hleafy follows (extOk_of exts rfl exts_ok) (hknown true hb) hil w .run (facts k b) hF (fun _ h => by cases h) (cuts k b hk)
    · refine called_cases (c := cfgT true) (L := L) hleafy follows (extOk_of exts rfl exts_ok) (hknown true hb) hil w tree [] (fun _ h => by cases h) (deads_of ?_) reckonedT
      simp only [tree, DT.deads, List.nil_append, List.append_nil, List.cons_append, noneSay, allSay, Fact.says, eval_lit, eval_leaf, e0, e1, e2, e3, e7]
      refine ⟨?_, trivial⟩ <;> (intro h; omega)

set_option maxRecDepth 100000 in
theorem lifted (os : Os) (started : os.Started) (H : Type) (enc : TypeId × Value → H) :
    ReturnsInHanded {} Try.checked os 3 .any (Rows.metaCutsSpec.pre6 enc Try.prog Try.f3 Rows.metaCutsRow.domain false) (Rows.metaCutsSpec.post enc Try.prog Try.f3 false true false false) := by
  refine returnsInHanded_of_change (C := Try.checked) own started (by kernel_rfl) Try.func3
    (ChangeSpec.witness6 (enc := enc) (C := Try.checked) false ⟨#[], #[.agg #[.int .i64 0, .int .i64 0, .int .i64 0, .int .i64 0, .int .i32 0, .int .i32 0, .int .i32 0], .int .i64 0], []⟩ 8 (by kernel_rfl) (by kernel_rfl) (by kernel_rfl) (by kernel_rfl)) ?_
  intro W base args ds gs before hval0 hW hcnd _
  have hval : ∀ (j : Nat) t v, Try.f3.params[j]? = some t → args[j]? = some v → Value.okWide Try.prog W .any base t v := hval0
  have hW' := hW
  obtain ⟨p, q, hA0, hV, rfl, hfz, hnd⟩ := hW
  have hA : DataW.TrodAll enc Try.prog W 0 (fun _ => true) true Try.f3.params.toList args.toList ds p := hA0
  rw [Try.params3] at hA hval
  obtain ⟨v0, vs0, d0, ds0, p0, q0, hargs, rfl, rfl, h0, r0⟩ := trodAll_cons hA
  obtain ⟨v1, vs1, d1, ds1, p1, q1, rfl, rfl, rfl, h1, r1⟩ := trodAll_cons r0
  obtain ⟨rfl, rfl, rfl⟩ := trodAll_nil r1
  obtain rfl : args = #[v0, v1] := by cases args; simp_all
  obtain ⟨rfl, rfl⟩ := trodVars_none hV
  have k0 := h0
  have lt0 : ∀ x ∈ p0, x.block < W.heap.size := by obtain ⟨m, hm⟩ := k0; exact DataW.trod_lt m _ _ _ hm
  obtain ⟨c0_0, c0_1, c0_2, c0_3, c0_4, c0_5, c0_6, _, _, _, _, _, _, _, n0, rfl, t0_0, t0_1, t0_2, t0_3, t0_4, t0_5, t0_6⟩ := open_aggs7 Try.underlying23 (by kernel_rfl) (by kernel_rfl) (hval 0 23 v0 rfl rfl) h0
  obtain ⟨a0_0, e0_0, _, w0_0⟩ := DataW.trod_int Try.underlying3 t0_0
  obtain rfl : c0_0 = .int .i64 a0_0 := by simpa using e0_0
  obtain ⟨a0_1, e0_1, _, w0_1⟩ := DataW.trod_int Try.underlying3 t0_1
  obtain rfl : c0_1 = .int .i64 a0_1 := by simpa using e0_1
  obtain ⟨a0_2, e0_2, _, w0_2⟩ := DataW.trod_int Try.underlying3 t0_2
  obtain rfl : c0_2 = .int .i64 a0_2 := by simpa using e0_2
  obtain ⟨a0_3, e0_3, _, w0_3⟩ := DataW.trod_int Try.underlying3 t0_3
  obtain rfl : c0_3 = .int .i64 a0_3 := by simpa using e0_3
  obtain ⟨a0_4, e0_4, _, w0_4⟩ := DataW.trod_int Try.underlying21 t0_4
  obtain rfl : c0_4 = .int .i32 a0_4 := by simpa using e0_4
  obtain ⟨a0_5, e0_5, _, w0_5⟩ := DataW.trod_int Try.underlying21 t0_5
  obtain rfl : c0_5 = .int .i32 a0_5 := by simpa using e0_5
  obtain ⟨a0_6, e0_6, _, w0_6⟩ := DataW.trod_int Try.underlying21 t0_6
  obtain rfl : c0_6 = .int .i32 a0_6 := by simpa using e0_6
  obtain ⟨a1, rfl, rfl, rfl, w1⟩ := open_int Try.underlying3 (hval 1 3 v1 rfl rfl) h1
  clear hA0 hval0
  refine (walk a0_0 a0_1 a0_2 a0_3 a0_4 a0_5 a0_6 a1 W w0_0 w0_1 w0_2 w0_3 w0_4 w0_5 w0_6 w1).mono fun e W' ⟨he, bel⟩ => ?_
  subst he
  exact ⟨_, rfl, _, _, _, [], _, [], hW', trodAll_mk1 (shut_bool Try.underlying4 _), (trodAll_cons_mk (Below.trod laidOut (by kernel_rfl) (of_decide_eq_true (by kernel_rfl)) k0 bel lt0) (trodAll_cons_mk (shut_int Try.underlying3 w1) trodAll_mk0)), rfl, bel.frame _, fun h => by cases h⟩

theorem over : Rows.metaCutsRow.holds Try.pinned (OpenSpec.ofChange Rows.metaCutsSpec) :=
  OpenClaim.holds_of_wide 3 Try.f3 rfl rfl rfl rfl rfl rfl rfl ⟨rfl, rfl, rfl, rfl, rfl⟩ rfl rfl rfl rfl rfl (by as_aux_lemma => kernel_rfl) Try.func3 (by as_aux_lemma => kernel_rfl)
    (of_decide_eq_true (by as_aux_lemma => kernel_rfl)) (by unfold Func.isWrapper; first | (rw [if_pos (by decide +kernel)]; kernel_rfl) | (rw [if_neg (by decide +kernel)]; exact ⟨rfl, rfl⟩))
    (fun os started H enc _ => lifted os started H enc)

theorem proved : Rows.MetaCutsSaid := over
#print axioms proved
end Go.Proofs.Ytginhhjnbimmeaa.metaCuts
