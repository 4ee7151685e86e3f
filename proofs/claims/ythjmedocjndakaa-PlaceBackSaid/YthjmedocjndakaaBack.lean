/- Statement PlaceBack: a position's term and offset make it again; the next term is one more, and another one of the three.
   No condition: for every input that can be read. -/
import Derived.Test.YthjmedocjndakaaRows
import Derived.Test.YthjmedocjndakaaKit
import Derived.Test.YthjmedocjndakaaFixed04
import Derived.ProofKit
import Derived.OpenShut
import Derived.ShutString
import Derived.ChangeOld
import Derived.Below
namespace Go.Proofs.Ythjmedocjndakaa.placeBack
open Go.ChangeShapes Go.WideShapes Go.ChangeAt Go.RowKit
open Go.ChangeMaps (open_string shut_string)
set_option linter.unusedVariables false

theorem own : ownKnob Try.prog.godebug = none := by kernel_rfl

theorem back_facts (P a0 S : Int) (hI : inB P S = true) (p0 : -2147483648 ≤ a0) (q0 : a0 ≤ 2147483647) :
    inE P S = 0 ∧ psI (tmI P a0 S) a0 (ofI P S) S = P ∧ psE (tmI P a0 S) a0 (ofI P S) S = 0 ∧ cntI (tmI P a0 S) a0 = P / S ∧ 0 ≤ P / S ∧ P / S < 2147483648 := by
  obtain ⟨hT, h0, h1, h2⟩ := inB_yes hI
  obtain ⟨d0, d1⟩ := div_lt hI
  obtain ⟨e1, e2, e3⟩ := in_yes (i := a0) hI
  have hS := isT_range hT
  have hc : cntI (tmI P a0 S) a0 = P / S := by rw [e1]; unfold cntI wrap32; omega
  have hm0 := Int.emod_nonneg P (show S ≠ 0 by omega)
  have hm1 := Int.emod_lt_of_pos P (show 0 < S by omega)
  have hd := Int.mul_ediv_add_emod P S
  have hp : psB (tmI P a0 S) a0 (ofI P S) S = true := by
    unfold psB; rw [hT, hc, e2]; simp; omega
  obtain ⟨f1, f2⟩ := psI_yes hp
  refine ⟨e3, ?_, f2, hc, d0, d1⟩
  rw [f1, hc, e2, Int.mul_comm]; omega

theorem tm_range (P a0 S : Int) : -2147483648 ≤ tmI P a0 S ∧ tmI P a0 S ≤ 2147483647 := by
  unfold tmI wrap32; split <;> omega

theorem walk (a0 a1 a2 : Int) (w : World) (w0 : (Lit.int .i32 a0).wf = true) (w1 : (Lit.int .i64 a1).wf = true) (w2 : (Lit.int .u8 a2).wf = true) :
    Calls Try.prog 7 #[.int .i32 a0, .int .i64 a1, .int .u8 a2] w fun e w' => e = .returned (.bool true) ∧ Below w.heap.size w w' := by
  obtain ⟨p0, q0⟩ := range_i32 w0
  obtain ⟨p1, q1⟩ := range_i64 w1
  obtain ⟨p2, q2⟩ := range_u8 w2
  clear w0 w1 w2
  obtain ⟨S, hS, hT⟩ : ∃ S, wrap64 (256 * 2 ^ (a2 % 6).toNat) = S ∧ isT S = true := by
    have h : (a2 % 6).toNat = 0 ∨ (a2 % 6).toNat = 1 ∨ (a2 % 6).toNat = 2 ∨ (a2 % 6).toNat = 3 ∨ (a2 % 6).toNat = 4 ∨ (a2 % 6).toNat = 5 := by omega
    refine ⟨_, rfl, ?_⟩
    rcases h with h | h | h | h | h | h <;> rw [h] <;> decide +kernel
  obtain ⟨s0, s1⟩ := isT_range hT
  have hM := mx_yes hT
  have hz : (mxI S == 0) = false := by simp; omega
  have hsz : (S == 0) = false := by simp; omega
  have ht0 : -(mxI S) < a1.tmod (mxI S) := by
    rw [Int.tmod_eq_emod]; have := Int.emod_nonneg a1 (show mxI S ≠ 0 by omega); split <;> omega
  have ht1 : a1.tmod (mxI S) < mxI S := Int.tmod_lt_of_pos a1 (by omega)
  have hm1 : mxI S ≤ 17592186044416 := (mx_range S).2
  obtain ⟨P, hP⟩ : ∃ P, a1.tmod (mxI S) = P := ⟨_, rfl⟩
  rw [hP] at ht0 ht1
  have HP := Lib.hid hP
  by_cases hneg : P < 0
  · obtain ⟨Q, rfl⟩ : ∃ Q, P = -Q := ⟨-P, by omega⟩
    have hI : inB Q S = true := by unfold inB; rw [hT]; simp; omega
    obtain ⟨e1, e2, e3, e4, e5, e6⟩ := back_facts Q a0 S hI p0 q0
    obtain ⟨t0, t1⟩ := tm_range Q a0 S
    have e7 : ((Q / S) % 3 != (Q / S + 1) % 3) = true := by simp; omega
    clear hI hM hT
    go_enter Try.func7, Try.ntmps7
    go_wp2_with (first | (go_at_call 23; refine (fixed04_true _).mono ?_; rintro e w' ⟨rfl, rfl⟩) | (go_at_call 34; refine (maxPosition_any _ _ (by omega) (by omega)).mono ?_; rintro e w' ⟨rfl, rfl⟩) | (go_at_call 26; refine (term_any _ _ _ _ (by omega) (by omega) p0 q0).mono ?_; rintro e w' ⟨rfl, rfl⟩) | (go_at_call 28; refine (offset_any _ _ _ (by omega) (by omega) (by omega) (by omega)).mono ?_; rintro e w' ⟨rfl, rfl⟩) | (go_at_call 24; refine (position_any _ _ _ _ _ (by omega) (by omega)).mono ?_; rintro e w' ⟨rfl, rfl⟩) | (go_at_call 30; refine (count_any _ _ _).mono ?_; rintro e w' ⟨rfl, rfl⟩) | (go_at_call 36; refine (part_any _ _ (by omega) (by omega)).mono ?_; rintro e w' ⟨rfl, rfl⟩))
    go_ret
    exact ⟨rfl, Below.refl _ _⟩
  · have hI : inB P S = true := by unfold inB; rw [hT]; simp; omega
    obtain ⟨e1, e2, e3, e4, e5, e6⟩ := back_facts P a0 S hI p0 q0
    obtain ⟨t0, t1⟩ := tm_range P a0 S
    have e7 : ((P / S) % 3 != (P / S + 1) % 3) = true := by simp; omega
    clear hI hM hT
    go_enter Try.func7, Try.ntmps7
    go_wp2_with (first | (go_at_call 23; refine (fixed04_true _).mono ?_; rintro e w' ⟨rfl, rfl⟩) | (go_at_call 34; refine (maxPosition_any _ _ (by omega) (by omega)).mono ?_; rintro e w' ⟨rfl, rfl⟩) | (go_at_call 26; refine (term_any _ _ _ _ (by omega) (by omega) p0 q0).mono ?_; rintro e w' ⟨rfl, rfl⟩) | (go_at_call 28; refine (offset_any _ _ _ (by omega) (by omega) (by omega) (by omega)).mono ?_; rintro e w' ⟨rfl, rfl⟩) | (go_at_call 24; refine (position_any _ _ _ _ _ (by omega) (by omega)).mono ?_; rintro e w' ⟨rfl, rfl⟩) | (go_at_call 30; refine (count_any _ _ _).mono ?_; rintro e w' ⟨rfl, rfl⟩) | (go_at_call 36; refine (part_any _ _ (by omega) (by omega)).mono ?_; rintro e w' ⟨rfl, rfl⟩))
    go_ret
    exact ⟨rfl, Below.refl _ _⟩


set_option maxRecDepth 100000 in
theorem lifted (os : Os) (started : os.Started) (H : Type) (enc : TypeId × Value → H) :
    ReturnsInHanded {} Try.checked os 7 .any (Rows.placeBackSpec.pre6 enc Try.prog Try.f7 Rows.placeBackRow.domain false) (Rows.placeBackSpec.post enc Try.prog Try.f7 false true false false) := by
  refine returnsInHanded_of_change (C := Try.checked) own started (by kernel_rfl) Try.func7
    (ChangeSpec.witness6 (enc := enc) (C := Try.checked) false ⟨#[], #[.int .i32 0, .int .i64 0, .int .u8 0], []⟩ 8 (by kernel_rfl) (by kernel_rfl) (by kernel_rfl) (by kernel_rfl)) ?_
  intro W base args ds gs before hval0 hW hcnd _
  have hval : ∀ (j : Nat) t v, Try.f7.params[j]? = some t → args[j]? = some v → Value.okWide Try.prog W .any base t v := hval0
  have hW' := hW
  obtain ⟨p, q, hA0, hV, rfl, hfz, hnd⟩ := hW
  have hA : DataW.TrodAll enc Try.prog W 0 (fun _ => true) true Try.f7.params.toList args.toList ds p := hA0
  rw [Try.params7] at hA hval
  obtain ⟨v0, vs0, d0, ds0, p0, q0, hargs, rfl, rfl, h0, r0⟩ := trodAll_cons hA
  obtain ⟨v1, vs1, d1, ds1, p1, q1, rfl, rfl, rfl, h1, r1⟩ := trodAll_cons r0
  obtain ⟨v2, vs2, d2, ds2, p2, q2, rfl, rfl, rfl, h2, r2⟩ := trodAll_cons r1
  obtain ⟨rfl, rfl, rfl⟩ := trodAll_nil r2
  obtain rfl : args = #[v0, v1, v2] := by cases args; simp_all
  obtain ⟨rfl, rfl⟩ := trodVars_none hV
  obtain ⟨a0, rfl, rfl, rfl, w0⟩ := open_int Try.underlying21 (hval 0 21 v0 rfl rfl) h0
  obtain ⟨a1, rfl, rfl, rfl, w1⟩ := open_int Try.underlying2 (hval 1 2 v1 rfl rfl) h1
  obtain ⟨a2, rfl, rfl, rfl, w2⟩ := open_int Try.underlying5 (hval 2 5 v2 rfl rfl) h2
  clear hA0 hval0
  refine (walk a0 a1 a2 W w0 w1 w2).mono fun e W' ⟨he, bel⟩ => ?_
  subst he
  exact ⟨_, rfl, _, _, _, [], _, [], hW', trodAll_mk1 (shut_bool Try.underlying4 _), (trodAll_cons_mk (shut_int Try.underlying21 w0) (trodAll_cons_mk (shut_int Try.underlying2 w1) (trodAll_cons_mk (shut_int Try.underlying5 w2) trodAll_mk0))), rfl, bel.frame _, fun h => by cases h⟩

theorem over : Rows.placeBackRow.holds Try.pinned (OpenSpec.ofChange Rows.placeBackSpec) :=
  OpenClaim.holds_of_wide 7 Try.f7 rfl rfl rfl rfl rfl rfl rfl ⟨rfl, rfl, rfl, rfl, rfl⟩ rfl rfl rfl rfl rfl (by kernel_rfl) Try.func7 (by kernel_rfl)
    (of_decide_eq_true (by kernel_rfl)) (by unfold Func.isWrapper; first | (rw [if_pos (by decide +kernel)]; kernel_rfl) | (rw [if_neg (by decide +kernel)]; exact ⟨rfl, rfl⟩))
    (fun os started H enc _ => lifted os started H enc)

theorem proved : Rows.PlaceBackSaid := over
#print axioms proved
end Go.Proofs.Ythjmedocjndakaa.placeBack
