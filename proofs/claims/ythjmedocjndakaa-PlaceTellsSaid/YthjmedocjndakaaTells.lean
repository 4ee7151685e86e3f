/- Statement PlaceTells: for every term, position and size: count, position and part, and what a position tells, is what the document says, or refused.
   No condition: for every input that can be read. -/
import Derived.Test.YthjmedocjndakaaRows
import Derived.Test.YthjmedocjndakaaKit
import Derived.Test.YthjmedocjndakaaFixed04
import Derived.Test.YthjmedocjndakaaRefPlace
import Derived.ProofKit
import Derived.OpenShut
import Derived.ShutString
import Derived.ChangeOld
import Derived.Below
namespace Go.Proofs.Ythjmedocjndakaa.placeTells
open Go.ChangeShapes Go.WideShapes Go.ChangeAt Go.RowKit
open Go.ChangeMaps (open_string shut_string)
set_option linter.unusedVariables false

theorem own : ownKnob Try.prog.godebug = none := by kernel_rfl

theorem walk (a0 a1 a2 a3 a4 : Int) (w : World) (w0 : (Lit.int .i32 a0).wf = true) (w1 : (Lit.int .i32 a1).wf = true) (w2 : (Lit.int .i64 a2).wf = true) (w3 : (Lit.int .i64 a3).wf = true) (w4 : (Lit.int .i64 a4).wf = true) :
    Calls Try.prog 6 #[.int .i32 a0, .int .i32 a1, .int .i64 a2, .int .i64 a3, .int .i64 a4] w fun e w' => e = .returned (.bool true) ∧ Below w.heap.size w w' := by
  obtain ⟨p0, q0⟩ := range_i32 w0
  obtain ⟨p1, q1⟩ := range_i32 w1
  obtain ⟨p2, q2⟩ := range_i64 w2
  obtain ⟨p3, q3⟩ := range_i64 w3
  obtain ⟨p4, q4⟩ := range_i64 w4
  obtain ⟨c0, c1⟩ := cntI_range a0 a1
  clear w0 w1 w2 w3 w4
  go_enter Try.func6, Try.ntmps6
  go_wp2_with (first | (go_at_call 23; refine (fixed04_true _).mono ?_; rintro e w' ⟨rfl, rfl⟩) | (go_at_call 24; refine (position_any _ _ _ _ _ p3 q3).mono ?_; rintro e w' ⟨rfl, rfl⟩) | (go_at_call 25; refine (rposition_any _ _ _ _ _ p3 q3 p0 q0 p1 q1).mono ?_; rintro e w' ⟨rfl, rfl⟩) | (go_at_call 26; refine (term_any _ _ _ _ p3 q3 p1 q1).mono ?_; rintro e w' ⟨rfl, rfl⟩) | (go_at_call 27; refine (rterm_any _ _ _ _ p3 q3 p1 q1).mono ?_; rintro e w' ⟨rfl, rfl⟩) | (go_at_call 28; refine (offset_any _ _ _ p3 q3 p4 q4).mono ?_; rintro e w' ⟨rfl, rfl⟩) | (go_at_call 29; refine (roffset_any _ _ _ p3 q3).mono ?_; rintro e w' ⟨rfl, rfl⟩) | (go_at_call 30; refine (count_any _ _ _).mono ?_; rintro e w' ⟨rfl, rfl⟩) | (go_at_call 31; refine (rcount_any _ _ _ p0 q0 p1 q1).mono ?_; rintro e w' ⟨rfl, rfl⟩) | (go_at_call 32; refine (isTerm_any _ _ p3 q3).mono ?_; rintro e w' ⟨rfl, rfl⟩) | (go_at_call 33; refine (risTerm_any _ _ p3 q3).mono ?_; rintro e w' ⟨rfl, rfl⟩) | (go_at_call 34; refine (maxPosition_any _ _ p3 q3).mono ?_; rintro e w' ⟨rfl, rfl⟩) | (go_at_call 35; refine (rmaxPosition_any _ _ p3 q3).mono ?_; rintro e w' ⟨rfl, rfl⟩) | (go_at_call 36; refine (part_any _ _ c0 c1).mono ?_; rintro e w' ⟨rfl, rfl⟩))
  go_ret
  exact ⟨rfl, Below.refl _ _⟩


set_option maxRecDepth 100000 in
theorem lifted (os : Os) (started : os.Started) (H : Type) (enc : TypeId × Value → H) :
    ReturnsInHanded {} Try.checked os 6 .any (Rows.placeTellsSpec.pre6 enc Try.prog Try.f6 Rows.placeTellsRow.domain false) (Rows.placeTellsSpec.post enc Try.prog Try.f6 false true false false) := by
  refine returnsInHanded_of_change (C := Try.checked) own started (by kernel_rfl) Try.func6
    (ChangeSpec.witness6 (enc := enc) (C := Try.checked) false ⟨#[], #[.int .i32 0, .int .i32 0, .int .i64 0, .int .i64 0, .int .i64 0], []⟩ 8 (by kernel_rfl) (by kernel_rfl) (by kernel_rfl) (by kernel_rfl)) ?_
  intro W base args ds gs before hval0 hW hcnd _
  have hval : ∀ (j : Nat) t v, Try.f6.params[j]? = some t → args[j]? = some v → Value.okWide Try.prog W .any base t v := hval0
  have hW' := hW
  obtain ⟨p, q, hA0, hV, rfl, hfz, hnd⟩ := hW
  have hA : DataW.TrodAll enc Try.prog W 0 (fun _ => true) true Try.f6.params.toList args.toList ds p := hA0
  rw [Try.params6] at hA hval
  obtain ⟨v0, vs0, d0, ds0, p0, q0, hargs, rfl, rfl, h0, r0⟩ := trodAll_cons hA
  obtain ⟨v1, vs1, d1, ds1, p1, q1, rfl, rfl, rfl, h1, r1⟩ := trodAll_cons r0
  obtain ⟨v2, vs2, d2, ds2, p2, q2, rfl, rfl, rfl, h2, r2⟩ := trodAll_cons r1
  obtain ⟨v3, vs3, d3, ds3, p3, q3, rfl, rfl, rfl, h3, r3⟩ := trodAll_cons r2
  obtain ⟨v4, vs4, d4, ds4, p4, q4, rfl, rfl, rfl, h4, r4⟩ := trodAll_cons r3
  obtain ⟨rfl, rfl, rfl⟩ := trodAll_nil r4
  obtain rfl : args = #[v0, v1, v2, v3, v4] := by cases args; simp_all
  obtain ⟨rfl, rfl⟩ := trodVars_none hV
  obtain ⟨a0, rfl, rfl, rfl, w0⟩ := open_int Try.underlying21 (hval 0 21 v0 rfl rfl) h0
  obtain ⟨a1, rfl, rfl, rfl, w1⟩ := open_int Try.underlying21 (hval 1 21 v1 rfl rfl) h1
  obtain ⟨a2, rfl, rfl, rfl, w2⟩ := open_int Try.underlying2 (hval 2 2 v2 rfl rfl) h2
  obtain ⟨a3, rfl, rfl, rfl, w3⟩ := open_int Try.underlying2 (hval 3 2 v3 rfl rfl) h3
  obtain ⟨a4, rfl, rfl, rfl, w4⟩ := open_int Try.underlying2 (hval 4 2 v4 rfl rfl) h4
  clear hA0 hval0
  refine (walk a0 a1 a2 a3 a4 W w0 w1 w2 w3 w4).mono fun e W' ⟨he, bel⟩ => ?_
  subst he
  exact ⟨_, rfl, _, _, _, [], _, [], hW', trodAll_mk1 (shut_bool Try.underlying4 _), (trodAll_cons_mk (shut_int Try.underlying21 w0) (trodAll_cons_mk (shut_int Try.underlying21 w1) (trodAll_cons_mk (shut_int Try.underlying2 w2) (trodAll_cons_mk (shut_int Try.underlying2 w3) (trodAll_cons_mk (shut_int Try.underlying2 w4) trodAll_mk0))))), rfl, bel.frame _, fun h => by cases h⟩

theorem over : Rows.placeTellsRow.holds Try.pinned (OpenSpec.ofChange Rows.placeTellsSpec) :=
  OpenClaim.holds_of_wide 6 Try.f6 rfl rfl rfl rfl rfl rfl rfl ⟨rfl, rfl, rfl, rfl, rfl⟩ rfl rfl rfl rfl rfl (by kernel_rfl) Try.func6 (by kernel_rfl)
    (of_decide_eq_true (by kernel_rfl)) (by unfold Func.isWrapper; first | (rw [if_pos (by decide +kernel)]; kernel_rfl) | (rw [if_neg (by decide +kernel)]; exact ⟨rfl, rfl⟩))
    (fun os started H enc _ => lifted os started H enc)

theorem proved : Rows.PlaceTellsSaid := over
#print axioms proved
end Go.Proofs.Ythjmedocjndakaa.placeTells
