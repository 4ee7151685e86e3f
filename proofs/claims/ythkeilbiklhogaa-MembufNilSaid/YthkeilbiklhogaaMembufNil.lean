/- Statement MembufNil: a nil buffer has no bytes: no access may be, it has none, and tells none.
   No condition: for every input that can be read. -/
import Derived.Test.YthkeilbiklhogaaRows
import Derived.Test.YthkeilbiklhogaaKit
import Derived.Test.YthkeilbiklhogaaRk02
import Derived.ProofKit
import Derived.OpenShut
import Derived.ShutString
import Derived.ChangeOld
import Derived.Below
import Derived.Deep.Fields
import Derived.WideShapes
import Derived.Lib.SmallJoins
namespace Go.Proofs.Ythkeilbiklhogaa.membufNil
open Go.ChangeShapes Go.WideShapes Go.ChangeAt Go.RowKit
open Go.ChangeMaps (open_string shut_string)
set_option linter.unusedVariables false

open Go.Joins Go.Deep
theorem own : ownKnob Try.prog.godebug = none := by kernel_rfl
section
variable {H : Type} {enc : TypeId × Value → H} {P : Program} {w : World} {base : Nat} {spare : Nat → Bool} {held : Bool}
set_option maxRecDepth 100000 in
theorem open_aggs6 {r : Reach} {b0 : Nat} {t : TypeId} {f0 f1 f2 f3 f4 f5 : Field} {v : Value} {d : DataW H} {p : List MemPlace} (hs : P.underlying t = some (.struct #[f0, f1, f2, f3, f4, f5])) (hone : oneCellFields P #[f0, f1, f2, f3, f4, f5] = true) (hC : P.cellsOf t = 6)
    (hv : Value.okWide P w r b0 t v) (h : DataW.Trod enc P w base spare held t v d p) :
    ∃ (c0 c1 c2 c3 c4 c5 : Value) (y0 y1 y2 y3 y4 y5 : DataW H × List MemPlace) (n : Nat), v = .agg #[c0, c1, c2, c3, c4, c5] ∧ DataW.trod enc P w base spare held n f0.type [c0] = some y0 ∧ DataW.trod enc P w base spare held n f1.type [c1] = some y1 ∧ DataW.trod enc P w base spare held n f2.type [c2] = some y2 ∧ DataW.trod enc P w base spare held n f3.type [c3] = some y3 ∧ DataW.trod enc P w base spare held n f4.type [c4] = some y4 ∧ DataW.trod enc P w base spare held n f5.type [c5] = some y5 := by
  obtain ⟨cs, rfl, hsz⟩ := okWide_struct hs hv
  obtain ⟨l⟩ := cs
  match l, hsz.trans hC with
  | [c0, c1, c2, c3, c4, c5], _ =>
    obtain ⟨fuel, hf⟩ := h
    obtain ⟨xs, n, _, hx, _, hlen, hg⟩ := DataW.trod_struct hs hf
    obtain ⟨o0, k0⟩ := Go.Deep.hone_of hone 0 f0 rfl
    obtain ⟨o1, k1⟩ := Go.Deep.hone_of hone 1 f1 rfl
    obtain ⟨o2, k2⟩ := Go.Deep.hone_of hone 2 f2 rfl
    obtain ⟨o3, k3⟩ := Go.Deep.hone_of hone 3 f3 rfl
    obtain ⟨o4, k4⟩ := Go.Deep.hone_of hone 4 f4 rfl
    obtain ⟨o5, k5⟩ := Go.Deep.hone_of hone 5 f5 rfl
    match xs, hlen with
    | [y0, y1, y2, y3, y4, y5], _ =>
      exact ⟨c0, c1, c2, c3, c4, c5, y0, y1, y2, y3, y4, y5, n, rfl, by simpa [Value.cells, o0, k0] using hg 0 f0 rfl, by simpa [Value.cells, o1, k1] using hg 1 f1 rfl, by simpa [Value.cells, o2, k2] using hg 2 f2 rfl, by simpa [Value.cells, o3, k3] using hg 3 f3 rfl, by simpa [Value.cells, o4, k4] using hg 4 f4 rfl, by simpa [Value.cells, o5, k5] using hg 5 f5 rfl⟩
end
theorem laidOut : laidOutB Try.prog = true := by kernel_rfl

open Go.X Go.Proofs.Ythkeilbiklhogaa.rk in
set_option linter.unusedSimpArgs false in
set_option maxRecDepth 100000 in
/-- What can't be. -/
theorem deads (a0_0 : Int) (a0_1 : Int) (a0_2 : Int) (a0_3 : Int) (a0_4 : Int) (a0_5 : Option Addr) (len0_5 cap0_5 : Nat) (z0_5 : List Int) (w : World) (w0_0 : (Lit.int .i64 a0_0).wf = true) (w0_1 : (Lit.int .i64 a0_1).wf = true) (w0_2 : (Lit.int .i64 a0_2).wf = true) (w0_3 : (Lit.int .u64 a0_3).wf = true) (w0_4 : (Lit.int .u64 a0_4).wf = true) (w0_5 : IsRow .u8 w a0_5 len0_5 cap0_5 z0_5) : noneSay (leaves [.int .i64 a0_0, .int .i64 a0_1, .int .i64 a0_2, .int .u64 a0_3, .int .u64 a0_4, .slice a0_5 len0_5 cap0_5]) (DT.deads ((.split .lss (.lit 100) (.len 5) .run (.split .eql (.leaf 0) (.lit 1) (.split .eql (.leaf 2) (.lit 4) (.split .lss (.leaf 1) (.lit 0) .run (.split .lss (.lit 0) (.leaf 1) .run (.split .lss (.bin .sub .i64 (.lit 0) (.leaf 1)) (.leaf 2) .run .dead))) (.split .eql (.leaf 2) (.lit 8) (.split .lss (.leaf 1) (.lit 0) .run (.split .lss (.lit 0) (.leaf 1) .run (.split .lss (.bin .sub .i64 (.lit 0) (.leaf 1)) (.leaf 2) .run .dead))) .run)) (.split .eql (.leaf 0) (.lit 2) (.split .eql (.leaf 2) (.lit 4) (.split .lss (.leaf 1) (.lit 0) .run (.split .lss (.lit 0) (.leaf 1) .run (.split .lss (.bin .sub .i64 (.lit 0) (.leaf 1)) (.leaf 2) .run .dead))) (.split .eql (.leaf 2) (.lit 8) (.split .lss (.leaf 1) (.lit 0) .run (.split .lss (.lit 0) (.leaf 1) .run (.split .lss (.bin .sub .i64 (.lit 0) (.leaf 1)) (.leaf 2) .run .dead))) .run)) (.split .eql (.leaf 0) (.lit 4) (.split .eql (.leaf 2) (.lit 4) (.split .lss (.leaf 1) (.lit 0) .run (.split .lss (.lit 0) (.leaf 1) .run (.split .lss (.bin .sub .i64 (.lit 0) (.leaf 1)) (.leaf 2) .run .dead))) (.split .eql (.leaf 2) (.lit 8) (.split .lss (.leaf 1) (.lit 0) .run (.split .lss (.lit 0) (.leaf 1) .run (.split .lss (.bin .sub .i64 (.lit 0) (.leaf 1)) (.leaf 2) .run .dead))) .run)) (.split .eql (.leaf 0) (.lit 3) (.split .eql (.leaf 2) (.lit 8) (.split .lss (.leaf 1) (.lit 0) .run (.split .lss (.lit 0) (.leaf 1) .run (.split .lss (.bin .sub .i64 (.lit 0) (.leaf 1)) (.leaf 2) .run .dead))) .run) (.split .eql (.leaf 0) (.lit 5) (.split .lss (.leaf 2) (.lit 0) .run (.split .lss (.lit 8) (.leaf 2) .run (.split .lss (.leaf 1) (.lit 0) .run (.split .lss (.lit 0) (.leaf 1) .run (.split .lss (.bin .sub .i64 (.lit 0) (.leaf 1)) (.leaf 2) .run .run))))) (.split .eql (.leaf 0) (.lit 6) (.split .eql (.leaf 2) (.len 5) (.split .lss (.lit 8) (.leaf 2) .run (.split .lss (.leaf 1) (.lit 0) .run (.split .lss (.lit 0) (.leaf 1) .run (.split .lss (.bin .sub .i64 (.lit 0) (.leaf 1)) (.leaf 2) .run .run)))) .run) .run)))))))) []) := by
  have e0 : valInt (leaves [.int .i64 a0_0, .int .i64 a0_1, .int .i64 a0_2, .int .u64 a0_3, .int .u64 a0_4, .slice a0_5 len0_5 cap0_5] 0) = a0_0 := rfl
  have e1 : valInt (leaves [.int .i64 a0_0, .int .i64 a0_1, .int .i64 a0_2, .int .u64 a0_3, .int .u64 a0_4, .slice a0_5 len0_5 cap0_5] 1) = a0_1 := rfl
  have e2 : valInt (leaves [.int .i64 a0_0, .int .i64 a0_1, .int .i64 a0_2, .int .u64 a0_3, .int .u64 a0_4, .slice a0_5 len0_5 cap0_5] 2) = a0_2 := rfl
  have e3 : valInt (leaves [.int .i64 a0_0, .int .i64 a0_1, .int .i64 a0_2, .int .u64 a0_3, .int .u64 a0_4, .slice a0_5 len0_5 cap0_5] 3) = a0_3 := rfl
  have e4 : valInt (leaves [.int .i64 a0_0, .int .i64 a0_1, .int .i64 a0_2, .int .u64 a0_3, .int .u64 a0_4, .slice a0_5 len0_5 cap0_5] 4) = a0_4 := rfl
  have e5 : valLen (leaves [.int .i64 a0_0, .int .i64 a0_1, .int .i64 a0_2, .int .u64 a0_3, .int .u64 a0_4, .slice a0_5 len0_5 cap0_5] 5) = (len0_5 : Int) := rfl
  obtain ⟨l0, u0⟩ := range_i64 w0_0
  obtain ⟨l1, u1⟩ := range_i64 w0_1
  obtain ⟨l2, u2⟩ := range_i64 w0_2
  obtain ⟨l3, u3⟩ := range_u64 w0_3
  obtain ⟨l4, u4⟩ := range_u64 w0_4
  simp only [DT.deads, List.nil_append, List.append_nil, List.cons_append, noneSay, allSay, Fact.says, eval_lit, eval_leaf, eval_len, eval_add, eval_sub, eval_mul, eval_conv, e0, e1, e2, e3, e4, e5, wrap_i64, wrap_i32, wrap_u64, wrap_u32, wrap_u16, wrap_u8]
  refine ⟨?_, ?_, ?_, ?_, ?_, ?_, ?_, trivial⟩ <;> (intro h; omega)

open Go.X Go.Proofs.Ythkeilbiklhogaa.rk in
/-- The reckoner's run, in all cases. -/
theorem reckoned : DT.good cfg02 60 5 [vagg [vx 3 (.leaf 0), vx 3 (.leaf 1), vx 3 (.leaf 2), vx 7 (.leaf 3), vx 7 (.leaf 4), vosl 5]] ((.split .lss (.lit 100) (.len 5) .run (.split .eql (.leaf 0) (.lit 1) (.split .eql (.leaf 2) (.lit 4) (.split .lss (.leaf 1) (.lit 0) .run (.split .lss (.lit 0) (.leaf 1) .run (.split .lss (.bin .sub .i64 (.lit 0) (.leaf 1)) (.leaf 2) .run .dead))) (.split .eql (.leaf 2) (.lit 8) (.split .lss (.leaf 1) (.lit 0) .run (.split .lss (.lit 0) (.leaf 1) .run (.split .lss (.bin .sub .i64 (.lit 0) (.leaf 1)) (.leaf 2) .run .dead))) .run)) (.split .eql (.leaf 0) (.lit 2) (.split .eql (.leaf 2) (.lit 4) (.split .lss (.leaf 1) (.lit 0) .run (.split .lss (.lit 0) (.leaf 1) .run (.split .lss (.bin .sub .i64 (.lit 0) (.leaf 1)) (.leaf 2) .run .dead))) (.split .eql (.leaf 2) (.lit 8) (.split .lss (.leaf 1) (.lit 0) .run (.split .lss (.lit 0) (.leaf 1) .run (.split .lss (.bin .sub .i64 (.lit 0) (.leaf 1)) (.leaf 2) .run .dead))) .run)) (.split .eql (.leaf 0) (.lit 4) (.split .eql (.leaf 2) (.lit 4) (.split .lss (.leaf 1) (.lit 0) .run (.split .lss (.lit 0) (.leaf 1) .run (.split .lss (.bin .sub .i64 (.lit 0) (.leaf 1)) (.leaf 2) .run .dead))) (.split .eql (.leaf 2) (.lit 8) (.split .lss (.leaf 1) (.lit 0) .run (.split .lss (.lit 0) (.leaf 1) .run (.split .lss (.bin .sub .i64 (.lit 0) (.leaf 1)) (.leaf 2) .run .dead))) .run)) (.split .eql (.leaf 0) (.lit 3) (.split .eql (.leaf 2) (.lit 8) (.split .lss (.leaf 1) (.lit 0) .run (.split .lss (.lit 0) (.leaf 1) .run (.split .lss (.bin .sub .i64 (.lit 0) (.leaf 1)) (.leaf 2) .run .dead))) .run) (.split .eql (.leaf 0) (.lit 5) (.split .lss (.leaf 2) (.lit 0) .run (.split .lss (.lit 8) (.leaf 2) .run (.split .lss (.leaf 1) (.lit 0) .run (.split .lss (.lit 0) (.leaf 1) .run (.split .lss (.bin .sub .i64 (.lit 0) (.leaf 1)) (.leaf 2) .run .run))))) (.split .eql (.leaf 0) (.lit 6) (.split .eql (.leaf 2) (.len 5) (.split .lss (.lit 8) (.leaf 2) .run (.split .lss (.leaf 1) (.lit 0) .run (.split .lss (.lit 0) (.leaf 1) .run (.split .lss (.bin .sub .i64 (.lit 0) (.leaf 1)) (.leaf 2) .run .run)))) .run) .run)))))))) [] = true := by kernel_rfl

open Go.X Go.Proofs.Ythkeilbiklhogaa.rk in
theorem walk (a0_0 : Int) (a0_1 : Int) (a0_2 : Int) (a0_3 : Int) (a0_4 : Int) (a0_5 : Option Addr) (len0_5 cap0_5 : Nat) (z0_5 : List Int) (w : World) (w0_0 : (Lit.int .i64 a0_0).wf = true) (w0_1 : (Lit.int .i64 a0_1).wf = true) (w0_2 : (Lit.int .i64 a0_2).wf = true) (w0_3 : (Lit.int .u64 a0_3).wf = true) (w0_4 : (Lit.int .u64 a0_4).wf = true) (w0_5 : IsRow .u8 w a0_5 len0_5 cap0_5 z0_5) :
    Calls Try.prog 5 #[.agg #[.int .i64 a0_0, .int .i64 a0_1, .int .i64 a0_2, .int .u64 a0_3, .int .u64 a0_4, .slice a0_5 len0_5 cap0_5]] w fun e w' => e = .returned (.bool true) ∧ Below w.heap.size w w' :=
  called_cases (L := leaves [.int .i64 a0_0, .int .i64 a0_1, .int .i64 a0_2, .int .u64 a0_3, .int .u64 a0_4, .slice a0_5 len0_5 cap0_5]) (leaves_leafy rfl) follows02 ext_ok02 known02 (l := [vagg [vx 3 (.leaf 0), vx 3 (.leaf 1), vx 3 (.leaf 2), vx 7 (.leaf 3), vx 7 (.leaf 4), vosl 5]]) (xs := [.agg #[.int .i64 a0_0, .int .i64 a0_1, .int .i64 a0_2, .int .u64 a0_3, .int .u64 a0_4, .slice a0_5 len0_5 cap0_5]]) rfl w ((.split .lss (.lit 100) (.len 5) .run (.split .eql (.leaf 0) (.lit 1) (.split .eql (.leaf 2) (.lit 4) (.split .lss (.leaf 1) (.lit 0) .run (.split .lss (.lit 0) (.leaf 1) .run (.split .lss (.bin .sub .i64 (.lit 0) (.leaf 1)) (.leaf 2) .run .dead))) (.split .eql (.leaf 2) (.lit 8) (.split .lss (.leaf 1) (.lit 0) .run (.split .lss (.lit 0) (.leaf 1) .run (.split .lss (.bin .sub .i64 (.lit 0) (.leaf 1)) (.leaf 2) .run .dead))) .run)) (.split .eql (.leaf 0) (.lit 2) (.split .eql (.leaf 2) (.lit 4) (.split .lss (.leaf 1) (.lit 0) .run (.split .lss (.lit 0) (.leaf 1) .run (.split .lss (.bin .sub .i64 (.lit 0) (.leaf 1)) (.leaf 2) .run .dead))) (.split .eql (.leaf 2) (.lit 8) (.split .lss (.leaf 1) (.lit 0) .run (.split .lss (.lit 0) (.leaf 1) .run (.split .lss (.bin .sub .i64 (.lit 0) (.leaf 1)) (.leaf 2) .run .dead))) .run)) (.split .eql (.leaf 0) (.lit 4) (.split .eql (.leaf 2) (.lit 4) (.split .lss (.leaf 1) (.lit 0) .run (.split .lss (.lit 0) (.leaf 1) .run (.split .lss (.bin .sub .i64 (.lit 0) (.leaf 1)) (.leaf 2) .run .dead))) (.split .eql (.leaf 2) (.lit 8) (.split .lss (.leaf 1) (.lit 0) .run (.split .lss (.lit 0) (.leaf 1) .run (.split .lss (.bin .sub .i64 (.lit 0) (.leaf 1)) (.leaf 2) .run .dead))) .run)) (.split .eql (.leaf 0) (.lit 3) (.split .eql (.leaf 2) (.lit 8) (.split .lss (.leaf 1) (.lit 0) .run (.split .lss (.lit 0) (.leaf 1) .run (.split .lss (.bin .sub .i64 (.lit 0) (.leaf 1)) (.leaf 2) .run .dead))) .run) (.split .eql (.leaf 0) (.lit 5) (.split .lss (.leaf 2) (.lit 0) .run (.split .lss (.lit 8) (.leaf 2) .run (.split .lss (.leaf 1) (.lit 0) .run (.split .lss (.lit 0) (.leaf 1) .run (.split .lss (.bin .sub .i64 (.lit 0) (.leaf 1)) (.leaf 2) .run .run))))) (.split .eql (.leaf 0) (.lit 6) (.split .eql (.leaf 2) (.len 5) (.split .lss (.lit 8) (.leaf 2) .run (.split .lss (.leaf 1) (.lit 0) .run (.split .lss (.lit 0) (.leaf 1) .run (.split .lss (.bin .sub .i64 (.lit 0) (.leaf 1)) (.leaf 2) .run .run)))) .run) .run)))))))) [] (fun _ h => by cases h) (deads_of (deads a0_0 a0_1 a0_2 a0_3 a0_4 a0_5 len0_5 cap0_5 z0_5 w w0_0 w0_1 w0_2 w0_3 w0_4 w0_5)) reckoned

set_option maxRecDepth 100000 in
theorem lifted (os : Os) (started : os.Started) (H : Type) (enc : TypeId × Value → H) :
    ReturnsInHanded {} Try.checked os 5 .any (Rows.membufNilSpec.pre6 enc Try.prog Try.f5 Rows.membufNilRow.domain false) (Rows.membufNilSpec.post enc Try.prog Try.f5 false true false false) := by
  refine returnsInHanded_of_change (C := Try.checked) own started (by kernel_rfl) Try.func5
    (ChangeSpec.witness6 (enc := enc) (C := Try.checked) false ⟨#[], #[.agg #[.int .i64 0, .int .i64 0, .int .i64 0, .int .u64 0, .int .u64 0, .slice none 0 0]], []⟩ 8 (by kernel_rfl) (by kernel_rfl) (by kernel_rfl) (by kernel_rfl)) ?_
  intro W base args ds gs before hval0 hW hcnd _
  have hval : ∀ (j : Nat) t v, Try.f5.params[j]? = some t → args[j]? = some v → Value.okWide Try.prog W .any base t v := hval0
  have hW' := hW
  obtain ⟨p, q, hA0, hV, rfl, hfz, hnd⟩ := hW
  have hA : DataW.TrodAll enc Try.prog W 0 (fun _ => true) true Try.f5.params.toList args.toList ds p := hA0
  rw [Try.params5] at hA hval
  obtain ⟨v0, vs0, d0, ds0, p0, q0, hargs, rfl, rfl, h0, r0⟩ := trodAll_cons hA
  obtain ⟨rfl, rfl, rfl⟩ := trodAll_nil r0
  obtain rfl : args = #[v0] := by cases args; simp_all
  obtain ⟨rfl, rfl⟩ := trodVars_none hV
  have k0 := h0
  have lt0 : ∀ x ∈ p0, x.block < W.heap.size := by obtain ⟨m, hm⟩ := k0; exact DataW.trod_lt m _ _ _ hm
  obtain ⟨c0_0, c0_1, c0_2, c0_3, c0_4, c0_5, _, _, _, _, _, _, n0, rfl, t0_0, t0_1, t0_2, t0_3, t0_4, t0_5⟩ := open_aggs6 Try.underlying25 (by kernel_rfl) (by kernel_rfl) (hval 0 25 v0 rfl rfl) h0
  obtain ⟨a0_0, e0_0, _, w0_0⟩ := DataW.trod_int Try.underlying3 t0_0
  obtain rfl : c0_0 = .int .i64 a0_0 := by simpa using e0_0
  obtain ⟨a0_1, e0_1, _, w0_1⟩ := DataW.trod_int Try.underlying3 t0_1
  obtain rfl : c0_1 = .int .i64 a0_1 := by simpa using e0_1
  obtain ⟨a0_2, e0_2, _, w0_2⟩ := DataW.trod_int Try.underlying3 t0_2
  obtain rfl : c0_2 = .int .i64 a0_2 := by simpa using e0_2
  obtain ⟨a0_3, e0_3, _, w0_3⟩ := DataW.trod_int Try.underlying23 t0_3
  obtain rfl : c0_3 = .int .u64 a0_3 := by simpa using e0_3
  obtain ⟨a0_4, e0_4, _, w0_4⟩ := DataW.trod_int Try.underlying23 t0_4
  obtain rfl : c0_4 = .int .u64 a0_4 := by simpa using e0_4
  obtain ⟨a0_5, len0_5, cap0_5, z0_5, rfl, w0_5⟩ : ∃ a len cap zs, c0_5 = .slice a len cap ∧ IsRow .u8 W a len cap zs := by
    rcases open_ints Try.underlying22 Try.underlying5 (by kernel_rfl) t0_5 with ⟨hcs, _⟩ | ⟨x, l, c, zs, hcs, _, hl, hm, hz, _, hcell, hwz⟩
    · exact ⟨none, 0, 0, [], by simpa using hcs, .inl ⟨rfl, rfl, rfl, rfl⟩⟩
    · exact ⟨some x, l, c, zs, by simpa using hcs, .inr ⟨_, rfl, hl, hm, by simpa using hz, hcell, hwz⟩⟩
  clear hA0 hval0
  refine (walk a0_0 a0_1 a0_2 a0_3 a0_4 a0_5 len0_5 cap0_5 z0_5 W w0_0 w0_1 w0_2 w0_3 w0_4 w0_5).mono fun e W' ⟨he, bel⟩ => ?_
  subst he
  exact ⟨_, rfl, _, _, _, [], _, [], hW', trodAll_mk1 (shut_bool Try.underlying4 _), (trodAll_cons_mk (Below.trod laidOut (by kernel_rfl) (of_decide_eq_true (by kernel_rfl)) k0 bel lt0) trodAll_mk0), rfl, bel.frame _, fun h => by cases h⟩

theorem over : Rows.membufNilRow.holds Try.pinned (OpenSpec.ofChange Rows.membufNilSpec) :=
  OpenClaim.holds_of_wide 5 Try.f5 rfl rfl rfl rfl rfl rfl rfl ⟨rfl, rfl, rfl, rfl, rfl⟩ rfl rfl rfl rfl rfl (by kernel_rfl) Try.func5 (by kernel_rfl)
    (of_decide_eq_true (by kernel_rfl)) (by unfold Func.isWrapper; first | (rw [if_pos (by decide +kernel)]; kernel_rfl) | (rw [if_neg (by decide +kernel)]; exact ⟨rfl, rfl⟩))
    (fun os started H enc _ => lifted os started H enc)

theorem proved : Rows.MembufNilSaid := over
#print axioms proved
end Go.Proofs.Ythkeilbiklhogaa.membufNil
