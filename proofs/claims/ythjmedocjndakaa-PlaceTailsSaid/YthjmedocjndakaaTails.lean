/- Statement PlaceTails: for every term, offset and raw tail: a raw tail tells what it was made of, and is what the document says.
   No condition: for every input that can be read. -/
import Derived.Test.YthjmedocjndakaaRows
import Derived.Test.YthjmedocjndakaaKit
import Derived.Test.YthjmedocjndakaaFixed04
import Derived.Test.YthjmedocjndakaaPack
import Derived.ProofKit
import Derived.OpenShut
import Derived.ShutString
import Derived.ChangeOld
import Derived.Below
namespace Go.Proofs.Ythjmedocjndakaa.placeTails
open Go.ChangeShapes Go.WideShapes Go.ChangeAt Go.RowKit
open Go.ChangeMaps (open_string shut_string)
set_option linter.unusedVariables false

theorem own : ownKnob Try.prog.godebug = none := by kernel_rfl

theorem walk (a0 a1 a2 : Int) (w : World) (w0 : (Lit.int .i32 a0).wf = true) (w1 : (Lit.int .u32 a1).wf = true) (w2 : (Lit.int .u64 a2).wf = true) :
    Calls Try.prog 8 #[.int .i32 a0, .int .u32 a1, .int .u64 a2] w fun e w' => e = .returned (.bool true) ∧ Below w.heap.size w w' := by
  obtain ⟨p0, q0⟩ := range_i32 w0
  obtain ⟨p1, q1⟩ := range_u32 w1
  obtain ⟨p2, q2⟩ := range_u64 w2
  obtain ⟨k0, k1⟩ := pk_range a0 a1 p1 q1
  obtain ⟨t0, t1⟩ := pk_up a0 a1 p0 q0 p1 q1
  have u0 := up_pk a2 p2 q2
  obtain ⟨_, _, r2, r3⟩ := up_range a2
  clear w0 w1 w2
  go_enter Try.func8, Try.ntmps8
  go_wp2_with (first | (go_at_call 23; refine (fixed04_true _).mono ?_; rintro e w' ⟨rfl, rfl⟩) | (go_at_call 37; (first | (with_reducible refine (pack_any _ _ _ p1 q1).mono ?_) | (with_reducible refine (pack_any _ _ _ r2 r3).mono ?_)); rintro e w' ⟨rfl, rfl⟩) | (go_at_call 40; refine (rpack_any _ _ _ p0 q0 p1 q1).mono ?_; rintro e w' ⟨rfl, rfl⟩) | (go_at_call 38; (first | (with_reducible refine (unpack_any _ _ p2 q2).mono ?_) | (with_reducible refine (unpack_any _ _ k0 k1).mono ?_)); rintro e w' ⟨rfl, rfl⟩) | (go_at_call 39; refine (runpack_any _ _ p2 q2).mono ?_; rintro e w' ⟨rfl, rfl⟩))
  go_ret
  exact ⟨rfl, Below.refl _ _⟩


set_option maxRecDepth 100000 in
theorem lifted (os : Os) (started : os.Started) (H : Type) (enc : TypeId × Value → H) :
    ReturnsInHanded {} Try.checked os 8 .any (Rows.placeTailsSpec.pre6 enc Try.prog Try.f8 Rows.placeTailsRow.domain false) (Rows.placeTailsSpec.post enc Try.prog Try.f8 false true false false) := by
  refine returnsInHanded_of_change (C := Try.checked) own started (by kernel_rfl) Try.func8
    (ChangeSpec.witness6 (enc := enc) (C := Try.checked) false ⟨#[], #[.int .i32 0, .int .u32 0, .int .u64 0], []⟩ 8 (by kernel_rfl) (by kernel_rfl) (by kernel_rfl) (by kernel_rfl)) ?_
  intro W base args ds gs before hval0 hW hcnd _
  have hval : ∀ (j : Nat) t v, Try.f8.params[j]? = some t → args[j]? = some v → Value.okWide Try.prog W .any base t v := hval0
  have hW' := hW
  obtain ⟨p, q, hA0, hV, rfl, hfz, hnd⟩ := hW
  have hA : DataW.TrodAll enc Try.prog W 0 (fun _ => true) true Try.f8.params.toList args.toList ds p := hA0
  rw [Try.params8] at hA hval
  obtain ⟨v0, vs0, d0, ds0, p0, q0, hargs, rfl, rfl, h0, r0⟩ := trodAll_cons hA
  obtain ⟨v1, vs1, d1, ds1, p1, q1, rfl, rfl, rfl, h1, r1⟩ := trodAll_cons r0
  obtain ⟨v2, vs2, d2, ds2, p2, q2, rfl, rfl, rfl, h2, r2⟩ := trodAll_cons r1
  obtain ⟨rfl, rfl, rfl⟩ := trodAll_nil r2
  obtain rfl : args = #[v0, v1, v2] := by cases args; simp_all
  obtain ⟨rfl, rfl⟩ := trodVars_none hV
  obtain ⟨a0, rfl, rfl, rfl, w0⟩ := open_int Try.underlying21 (hval 0 21 v0 rfl rfl) h0
  obtain ⟨a1, rfl, rfl, rfl, w1⟩ := open_int Try.underlying45 (hval 1 45 v1 rfl rfl) h1
  obtain ⟨a2, rfl, rfl, rfl, w2⟩ := open_int Try.underlying22 (hval 2 22 v2 rfl rfl) h2
  clear hA0 hval0
  refine (walk a0 a1 a2 W w0 w1 w2).mono fun e W' ⟨he, bel⟩ => ?_
  subst he
  exact ⟨_, rfl, _, _, _, [], _, [], hW', trodAll_mk1 (shut_bool Try.underlying4 _), (trodAll_cons_mk (shut_int Try.underlying21 w0) (trodAll_cons_mk (shut_int Try.underlying45 w1) (trodAll_cons_mk (shut_int Try.underlying22 w2) trodAll_mk0))), rfl, bel.frame _, fun h => by cases h⟩

theorem over : Rows.placeTailsRow.holds Try.pinned (OpenSpec.ofChange Rows.placeTailsSpec) :=
  OpenClaim.holds_of_wide 8 Try.f8 rfl rfl rfl rfl rfl rfl rfl ⟨rfl, rfl, rfl, rfl, rfl⟩ rfl rfl rfl rfl rfl (by kernel_rfl) Try.func8 (by kernel_rfl)
    (of_decide_eq_true (by kernel_rfl)) (by unfold Func.isWrapper; first | (rw [if_pos (by decide +kernel)]; kernel_rfl) | (rw [if_neg (by decide +kernel)]; exact ⟨rfl, rfl⟩))
    (fun os started H enc _ => lifted os started H enc)

theorem proved : Rows.PlaceTailsSaid := over
#print axioms proved
end Go.Proofs.Ythjmedocjndakaa.placeTails
