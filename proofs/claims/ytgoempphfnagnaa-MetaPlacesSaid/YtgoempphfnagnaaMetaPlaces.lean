/- Statement MetaPlaces: where each number, and each part, of any log stands is what the document says.
   No condition: for every input that can be read. -/
import Derived.Test.YtgoempphfnagnaaRows
import Derived.Test.YtgoempphfnagnaaKit
import Derived.Test.YtgoempphfnagnaaRk14
import Derived.Test.YtgoempphfnagnaaTerm
import Derived.ProofKit
import Derived.OpenShut
import Derived.ShutString
import Derived.ChangeOld
import Derived.Below
import Derived.Deep.Fields
import Derived.WideShapes
import Derived.Lib.SmallJoins
namespace Go.Proofs.Ytgoempphfnagnaa.metaPlaces
open Go.ChangeShapes Go.WideShapes Go.ChangeAt Go.RowKit
open Go.ChangeMaps (open_string shut_string)
set_option linter.unusedVariables false

open Go.Joins Go.Deep
theorem own : ownKnob Try.prog.godebug = none := by kernel_rfl
section
variable {H : Type} {enc : TypeId × Value → H} {P : Program} {w : World} {base : Nat} {spare : Nat → Bool} {held : Bool}
set_option maxRecDepth 100000 in
theorem open_aggs7 {r : Reach} {b0 : Nat} {t : TypeId} {f0 f1 f2 f3 f4 f5 f6 : Field} {v : Value} {d : DataW H} {p : List MemPlace} (hs : P.underlying t = some (.struct #[f0, f1, f2, f3, f4, f5, f6])) (hone : oneCellFields P #[f0, f1, f2, f3, f4, f5, f6] = true) (hC : P.cellsOf t = 7)
    (hv : Value.okWide P w r b0 t v) (h : DataW.Trod enc P w base spare held t v d p) :
    ∃ (c0 c1 c2 c3 c4 c5 c6 : Value) (y0 y1 y2 y3 y4 y5 y6 : DataW H × List MemPlace) (n : Nat), v = .agg #[c0, c1, c2, c3, c4, c5, c6] ∧ DataW.trod enc P w base spare held n f0.type [c0] = some y0 ∧ DataW.trod enc P w base spare held n f1.type [c1] = some y1 ∧ DataW.trod enc P w base spare held n f2.type [c2] = some y2 ∧ DataW.trod enc P w base spare held n f3.type [c3] = some y3 ∧ DataW.trod enc P w base spare held n f4.type [c4] = some y4 ∧ DataW.trod enc P w base spare held n f5.type [c5] = some y5 ∧ DataW.trod enc P w base spare held n f6.type [c6] = some y6 := by
  obtain ⟨cs, rfl, hsz⟩ := okWide_struct hs hv
  obtain ⟨l⟩ := cs
  match l, hsz.trans hC with
  | [c0, c1, c2, c3, c4, c5, c6], _ =>
    obtain ⟨fuel, hf⟩ := h
    obtain ⟨xs, n, _, hx, _, hlen, hg⟩ := DataW.trod_struct hs hf
    obtain ⟨o0, k0⟩ := Go.Deep.hone_of hone 0 f0 rfl
    obtain ⟨o1, k1⟩ := Go.Deep.hone_of hone 1 f1 rfl
    obtain ⟨o2, k2⟩ := Go.Deep.hone_of hone 2 f2 rfl
    obtain ⟨o3, k3⟩ := Go.Deep.hone_of hone 3 f3 rfl
    obtain ⟨o4, k4⟩ := Go.Deep.hone_of hone 4 f4 rfl
    obtain ⟨o5, k5⟩ := Go.Deep.hone_of hone 5 f5 rfl
    obtain ⟨o6, k6⟩ := Go.Deep.hone_of hone 6 f6 rfl
    match xs, hlen with
    | [y0, y1, y2, y3, y4, y5, y6], _ =>
      exact ⟨c0, c1, c2, c3, c4, c5, c6, y0, y1, y2, y3, y4, y5, y6, n, rfl, by simpa [Value.cells, o0, k0] using hg 0 f0 rfl, by simpa [Value.cells, o1, k1] using hg 1 f1 rfl, by simpa [Value.cells, o2, k2] using hg 2 f2 rfl, by simpa [Value.cells, o3, k3] using hg 3 f3 rfl, by simpa [Value.cells, o4, k4] using hg 4 f4 rfl, by simpa [Value.cells, o5, k5] using hg 5 f5 rfl, by simpa [Value.cells, o6, k6] using hg 6 f6 rfl⟩
end
theorem laidOut : laidOutB Try.prog = true := by kernel_rfl

open Go.X Go.Proofs.Ytgoempphfnagnaa.rk

/-- A term's kind is asked, by the program and by the document. -/
def asked (b : Bool) : List Known := [⟨52, [(3, .leaf 1)], b⟩, ⟨51, [(3, .leaf 1)], b⟩]
noncomputable def cfgT (b : Bool) : Cfg := { P := Try.prog, ext := extOf exts, hook := knowsAll 16 (asked b), facts := [] }

def args : List V := [vagg [vx 3 (.leaf 0), vx 3 (.leaf 1), vx 3 (.leaf 2), vx 3 (.leaf 3), vx 2 (.leaf 4), vx 2 (.leaf 5), vx 2 (.leaf 6)], vx 3 (.leaf 7), vx 3 (.leaf 8)]
/-- A product, either way round. -/
def product : Fact := ⟨.eql, .bin .mul .i64 (.leaf 7) (.leaf 1), .bin .mul .i64 (.leaf 1) (.leaf 7), true⟩
def tree : DT := (.split .lss (.leaf 2) (.lit 32) (.split .lss (.leaf 3) (.lit 1) .run (.split .lss (.lit 8) (.leaf 3) .run .run)) (.split .lss (.bin .quo .i64 (.leaf 1) (.lit 8)) (.leaf 2) (.split .lss (.leaf 3) (.lit 1) .run (.split .lss (.lit 8) (.leaf 3) .run .run)) (.split .eql (.bin .rem .i64 (.leaf 2) (.lit 32)) (.lit 0) (.split .lss (.leaf 3) (.lit 1) .run (.split .lss (.lit 8) (.leaf 3) .run (.split .lss (.leaf 0) (.lit 0) .run (.split .eql (.bin .rem .i64 (.leaf 0) (.lit 8)) (.lit 0) (.split .lss (.bin .sub .i64 (.bin .sub .i64 (.lit 131072) (.bin .mul .i64 (.lit 3) (.leaf 1))) (.lit 128)) (.leaf 0) .run (.split .lss (.leaf 7) (.lit 0) (.split .lss (.leaf 8) (.lit 0) .run (.split .lss (.leaf 8) (.leaf 3) (.split .eql (.bin .add .i64 (.bin .add .i64 (.leaf 0) (.bin .mul .i64 (.lit 3) (.leaf 1))) (.bin .add .i64 (.lit 48) (.bin .mul .i64 (.lit 8) (.leaf 8)))) (.bin .add .i64 (.bin .add .i64 (.bin .add .i64 (.leaf 0) (.bin .mul .i64 (.lit 3) (.leaf 1))) (.lit 48)) (.bin .mul .i64 (.lit 8) (.leaf 8))) .run .dead) .run)) (.split .lss (.leaf 7) (.lit 3) (.split .lss (.leaf 8) (.lit 0) .run (.split .lss (.leaf 8) (.leaf 3) (.split .eql (.bin .add .i64 (.bin .add .i64 (.leaf 0) (.bin .mul .i64 (.lit 3) (.leaf 1))) (.bin .add .i64 (.lit 48) (.bin .mul .i64 (.lit 8) (.leaf 8)))) (.bin .add .i64 (.bin .add .i64 (.bin .add .i64 (.leaf 0) (.bin .mul .i64 (.lit 3) (.leaf 1))) (.lit 48)) (.bin .mul .i64 (.lit 8) (.leaf 8))) .run .dead) .run)) (.split .lss (.leaf 8) (.lit 0) .run (.split .lss (.leaf 8) (.leaf 3) (.split .eql (.bin .add .i64 (.bin .add .i64 (.leaf 0) (.bin .mul .i64 (.lit 3) (.leaf 1))) (.bin .add .i64 (.lit 48) (.bin .mul .i64 (.lit 8) (.leaf 8)))) (.bin .add .i64 (.bin .add .i64 (.bin .add .i64 (.leaf 0) (.bin .mul .i64 (.lit 3) (.leaf 1))) (.lit 48)) (.bin .mul .i64 (.lit 8) (.leaf 8))) .run .dead) .run))))) (.split .lss (.bin .sub .i64 (.bin .sub .i64 (.lit 131072) (.bin .mul .i64 (.lit 3) (.leaf 1))) (.lit 128)) (.leaf 0) .run .run))))) (.split .lss (.leaf 3) (.lit 1) .run (.split .lss (.lit 8) (.leaf 3) .run .run)))))

theorem reckonedT : DT.good (cfgT true) 60 5 args tree [product] = true := by kernel_rfl
theorem reckonedF : DT.good (cfgT false) 60 5 args .run [] = true := by kernel_rfl

set_option linter.unusedSimpArgs false in
set_option maxRecDepth 100000 in
theorem walk (a0_0 a0_1 a0_2 a0_3 a0_4 a0_5 a0_6 a1 a2 : Int) (w : World) (w0_0 : (Lit.int .i64 a0_0).wf = true) (w0_1 : (Lit.int .i64 a0_1).wf = true) (w0_2 : (Lit.int .i64 a0_2).wf = true) (w0_3 : (Lit.int .i64 a0_3).wf = true) (w0_4 : (Lit.int .i32 a0_4).wf = true) (w0_5 : (Lit.int .i32 a0_5).wf = true) (w0_6 : (Lit.int .i32 a0_6).wf = true) (w1 : (Lit.int .i64 a1).wf = true) (w2 : (Lit.int .i64 a2).wf = true) :
    Calls Try.prog 5 #[.agg #[.int .i64 a0_0, .int .i64 a0_1, .int .i64 a0_2, .int .i64 a0_3, .int .i32 a0_4, .int .i32 a0_5, .int .i32 a0_6], .int .i64 a1, .int .i64 a2] w fun e w' => e = .returned (.bool true) ∧ Below w.heap.size w w' := by
  obtain ⟨l0, u0⟩ := range_i64 w0_0
  obtain ⟨l1, u1⟩ := range_i64 w0_1
  obtain ⟨l2, u2⟩ := range_i64 w0_2
  obtain ⟨l3, u3⟩ := range_i64 w0_3
  obtain ⟨l7, u7⟩ := range_i64 w1
  obtain ⟨l8, u8⟩ := range_i64 w2
  have e0 : valInt (leaves [.int .i64 a0_0, .int .i64 a0_1, .int .i64 a0_2, .int .i64 a0_3, .int .i32 a0_4, .int .i32 a0_5, .int .i32 a0_6, .int .i64 a1, .int .i64 a2] 0) = a0_0 := rfl
  have e1 : valInt (leaves [.int .i64 a0_0, .int .i64 a0_1, .int .i64 a0_2, .int .i64 a0_3, .int .i32 a0_4, .int .i32 a0_5, .int .i32 a0_6, .int .i64 a1, .int .i64 a2] 1) = a0_1 := rfl
  have e2 : valInt (leaves [.int .i64 a0_0, .int .i64 a0_1, .int .i64 a0_2, .int .i64 a0_3, .int .i32 a0_4, .int .i32 a0_5, .int .i32 a0_6, .int .i64 a1, .int .i64 a2] 2) = a0_2 := rfl
  have e3 : valInt (leaves [.int .i64 a0_0, .int .i64 a0_1, .int .i64 a0_2, .int .i64 a0_3, .int .i32 a0_4, .int .i32 a0_5, .int .i32 a0_6, .int .i64 a1, .int .i64 a2] 3) = a0_3 := rfl
  have e7 : valInt (leaves [.int .i64 a0_0, .int .i64 a0_1, .int .i64 a0_2, .int .i64 a0_3, .int .i32 a0_4, .int .i32 a0_5, .int .i32 a0_6, .int .i64 a1, .int .i64 a2] 7) = a1 := rfl
  have e8 : valInt (leaves [.int .i64 a0_0, .int .i64 a0_1, .int .i64 a0_2, .int .i64 a0_3, .int .i32 a0_4, .int .i32 a0_5, .int .i32 a0_6, .int .i64 a1, .int .i64 a2] 8) = a2 := rfl
  generalize hL : leaves [.int .i64 a0_0, .int .i64 a0_1, .int .i64 a0_2, .int .i64 a0_3, .int .i32 a0_4, .int .i32 a0_5, .int .i32 a0_6, .int .i64 a1, .int .i64 a2] = L at e0 e1 e2 e3 e7 e8
  have hleafy : Leafy L := by rw [← hL]; exact leaves_leafy rfl
  have hil : il L ⟨fun _ => none, fun _ => none⟩ args = some [.agg #[.int .i64 a0_0, .int .i64 a0_1, .int .i64 a0_2, .int .i64 a0_3, .int .i32 a0_4, .int .i32 a0_5, .int .i32 a0_6], .int .i64 a1, .int .i64 a2] := by rw [← hL]; rfl
  have ht : IE.eval L (.leaf 1) = a0_1 := by rw [eval_leaf, e1]
  have hknown : ∀ b, isT a0_1 = b → HookOk L (cfgT b) := fun b hb => hookOk_all rfl (by kernel_rfl) fixed14_true fun k hk => by
    simp only [asked, List.mem_cons, List.not_mem_nil, or_false] at hk
    rcases hk with rfl | rfl
    · refine ⟨by kernel_rfl, fun w => ?_⟩
      show Calls Try.prog _ #[.int .i64 (IE.eval L (.leaf 1))] w _
      rw [ht]
      exact (isTerm_any a0_1 w l1 u1).mono fun en w' ⟨h1, h2⟩ => by rw [hb] at h1; exact ⟨h1, h2 ▸ Below.refl _ _⟩
    · refine ⟨by kernel_rfl, fun w => ?_⟩
      show Calls Try.prog _ #[.int .i64 (IE.eval L (.leaf 1))] w _
      rw [ht]
      exact (risTerm_any a0_1 w l1 u1).mono fun en w' ⟨h1, h2⟩ => by rw [hb] at h1; exact ⟨h1, h2 ▸ Below.refl _ _⟩
  cases hb : isT a0_1 with
  | false =>
    exact called_cases (c := cfgT false) (L := L) hleafy follows (extOk_of exts rfl exts_ok) (hknown false hb) hil w .run [] (fun _ h => by cases h) (fun _ h => by cases h) reckonedF
  | true =>
    refine called_cases (c := cfgT true) (L := L) hleafy follows (extOk_of exts rfl exts_ok) (hknown true hb) hil w tree [product] (factsOk_cons ⟨eqF, rfl, ?_⟩ fun _ h => by cases h) (deads_of ?_) reckonedT
    · show eqF (IE.eval L (.bin .mul .i64 (.leaf 7) (.leaf 1))) (IE.eval L (.bin .mul .i64 (.leaf 1) (.leaf 7))) = true
      rw [eval_mul, eval_mul, Int.mul_comm, eqF_eq]
      exact beq_self_eq_true _
    · simp only [tree, DT.deads, List.nil_append, List.append_nil, List.cons_append, noneSay, allSay, Fact.says, eval_lit, eval_leaf, eval_len, eval_add, eval_sub, eval_mul, eval_conv, e0, e1, e2, e3, e7, e8, wrap_i64, wrap_i32, wrap_u64, wrap_u32, wrap_u16, wrap_u8]
      refine ⟨?_, ?_, ?_, trivial⟩ <;> (intro h; omega)

set_option maxRecDepth 100000 in
theorem lifted (os : Os) (started : os.Started) (H : Type) (enc : TypeId × Value → H) :
    ReturnsInHanded {} Try.checked os 5 .any (Rows.metaPlacesSpec.pre6 enc Try.prog Try.f5 Rows.metaPlacesRow.domain false) (Rows.metaPlacesSpec.post enc Try.prog Try.f5 false true false false) := by
  refine returnsInHanded_of_change (C := Try.checked) own started (by kernel_rfl) Try.func5
    (ChangeSpec.witness6 (enc := enc) (C := Try.checked) false ⟨#[], #[.agg #[.int .i64 0, .int .i64 0, .int .i64 0, .int .i64 0, .int .i32 0, .int .i32 0, .int .i32 0], .int .i64 0, .int .i64 0], []⟩ 8 (by kernel_rfl) (by kernel_rfl) (by kernel_rfl) (by kernel_rfl)) ?_
  intro W base args ds gs before hval0 hW hcnd _
  have hval : ∀ (j : Nat) t v, Try.f5.params[j]? = some t → args[j]? = some v → Value.okWide Try.prog W .any base t v := hval0
  have hW' := hW
  obtain ⟨p, q, hA0, hV, rfl, hfz, hnd⟩ := hW
  have hA : DataW.TrodAll enc Try.prog W 0 (fun _ => true) true Try.f5.params.toList args.toList ds p := hA0
  rw [Try.params5] at hA hval
  obtain ⟨v0, vs0, d0, ds0, p0, q0, hargs, rfl, rfl, h0, r0⟩ := trodAll_cons hA
  obtain ⟨v1, vs1, d1, ds1, p1, q1, rfl, rfl, rfl, h1, r1⟩ := trodAll_cons r0
  obtain ⟨v2, vs2, d2, ds2, p2, q2, rfl, rfl, rfl, h2, r2⟩ := trodAll_cons r1
  obtain ⟨rfl, rfl, rfl⟩ := trodAll_nil r2
  obtain rfl : args = #[v0, v1, v2] := by cases args; simp_all
  obtain ⟨rfl, rfl⟩ := trodVars_none hV
  have k0 := h0
  have lt0 : ∀ x ∈ p0, x.block < W.heap.size := by obtain ⟨m, hm⟩ := k0; exact DataW.trod_lt m _ _ _ hm
  obtain ⟨c0_0, c0_1, c0_2, c0_3, c0_4, c0_5, c0_6, _, _, _, _, _, _, _, n0, rfl, t0_0, t0_1, t0_2, t0_3, t0_4, t0_5, t0_6⟩ := open_aggs7 Try.underlying45 (by kernel_rfl) (by kernel_rfl) (hval 0 45 v0 rfl rfl) h0
  obtain ⟨a0_0, e0_0, _, w0_0⟩ := DataW.trod_int Try.underlying3 t0_0
  obtain rfl : c0_0 = .int .i64 a0_0 := by simpa using e0_0
  obtain ⟨a0_1, e0_1, _, w0_1⟩ := DataW.trod_int Try.underlying3 t0_1
  obtain rfl : c0_1 = .int .i64 a0_1 := by simpa using e0_1
  obtain ⟨a0_2, e0_2, _, w0_2⟩ := DataW.trod_int Try.underlying3 t0_2
  obtain rfl : c0_2 = .int .i64 a0_2 := by simpa using e0_2
  obtain ⟨a0_3, e0_3, _, w0_3⟩ := DataW.trod_int Try.underlying3 t0_3
  obtain rfl : c0_3 = .int .i64 a0_3 := by simpa using e0_3
  obtain ⟨a0_4, e0_4, _, w0_4⟩ := DataW.trod_int Try.underlying21 t0_4
  obtain rfl : c0_4 = .int .i32 a0_4 := by simpa using e0_4
  obtain ⟨a0_5, e0_5, _, w0_5⟩ := DataW.trod_int Try.underlying21 t0_5
  obtain rfl : c0_5 = .int .i32 a0_5 := by simpa using e0_5
  obtain ⟨a0_6, e0_6, _, w0_6⟩ := DataW.trod_int Try.underlying21 t0_6
  obtain rfl : c0_6 = .int .i32 a0_6 := by simpa using e0_6
  obtain ⟨a1, rfl, rfl, rfl, w1⟩ := open_int Try.underlying3 (hval 1 3 v1 rfl rfl) h1
  obtain ⟨a2, rfl, rfl, rfl, w2⟩ := open_int Try.underlying3 (hval 2 3 v2 rfl rfl) h2
  clear hA0 hval0
  refine (walk a0_0 a0_1 a0_2 a0_3 a0_4 a0_5 a0_6 a1 a2 W w0_0 w0_1 w0_2 w0_3 w0_4 w0_5 w0_6 w1 w2).mono fun e W' ⟨he, bel⟩ => ?_
  subst he
  exact ⟨_, rfl, _, _, _, [], _, [], hW', trodAll_mk1 (shut_bool Try.underlying4 _), (trodAll_cons_mk (Below.trod laidOut (by kernel_rfl) (of_decide_eq_true (by kernel_rfl)) k0 bel lt0) (trodAll_cons_mk (shut_int Try.underlying3 w1) (trodAll_cons_mk (shut_int Try.underlying3 w2) trodAll_mk0))), rfl, bel.frame _, fun h => by cases h⟩

theorem over : Rows.metaPlacesRow.holds Try.pinned (OpenSpec.ofChange Rows.metaPlacesSpec) :=
  OpenClaim.holds_of_wide 5 Try.f5 rfl rfl rfl rfl rfl rfl rfl ⟨rfl, rfl, rfl, rfl, rfl⟩ rfl rfl rfl rfl rfl (by kernel_rfl) Try.func5 (by kernel_rfl)
    (of_decide_eq_true (by kernel_rfl)) (by unfold Func.isWrapper; first | (rw [if_pos (by decide +kernel)]; kernel_rfl) | (rw [if_neg (by decide +kernel)]; exact ⟨rfl, rfl⟩))
    (fun os started H enc _ => lifted os started H enc)

theorem proved : Rows.MetaPlacesSaid := over
#print axioms proved
end Go.Proofs.Ytgoempphfnagnaa.metaPlaces
