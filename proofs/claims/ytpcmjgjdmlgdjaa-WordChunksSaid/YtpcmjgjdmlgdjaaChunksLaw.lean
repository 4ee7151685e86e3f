/- Statement WordChunks: for every number n: a copy's parts are the document's, and they make their sum.
   No condition: for every input that can be read. -/
import Derived.Test.YtpcmjgjdmlgdjaaRows
import Derived.Test.YtpcmjgjdmlgdjaaKit
import Derived.Test.YtpcmjgjdmlgdjaaFixed
import Derived.Test.YtpcmjgjdmlgdjaaChunks
import Derived.ProofKit
import Derived.Deep.QuietTactic
import Derived.BigQuiet
import Derived.OpenShut
import Derived.ShutString
import Derived.ChangeOld
import Derived.Below
namespace Go.Proofs.Ytpcmjgjdmlgdjaa.wordChunks
open Go.ChangeShapes Go.WideShapes Go.ChangeAt Go.RowKit
open Go.ChangeMaps (open_string shut_string)
set_option linter.unusedVariables false

theorem own : ownKnob Try.prog.godebug = none := by kernel_rfl

/-- Both rows hold the numbers of L: the loop finds nothing else, and the sum. -/
theorem walk_in (n : Nat) (h1 : 1 ≤ n) (h2 : n ≤ 5000) (w : World) :
    Calls Try.prog 6 #[.int .i64 n] w fun e w' => e = .returned (.bool true) ∧ Below w.heap.size w w' := by
  have hr := ch_range n
  have hs := ch_sum n
  have hle := ch_len n
  have hpos : 0 < (ch n).length := by rw [ch_step n h1]; simp
  generalize hL : ch n = L at *
  have HL := Lib.hid hL
  clear hL
  have hfin : ∀ k, k < L.length → ((L.take (k + 1)).sum = (L.take k).sum + L.getD k 0) := by
    intro k hk
    rw [List.take_succ_eq_append_getElem hk, List.sum_append_int]
    simp [List.getD_eq_getElem?_getD, hk]
  have hsb : ∀ k, k ≤ L.length → 0 ≤ (L.take k).sum ∧ (L.take k).sum ≤ 8 * k := by
    intro k
    induction k with
    | zero => intro _; simp
    | succ k ih =>
      intro hk
      have h := ih (by omega)
      rw [hfin k (by omega)]
      have hg := hr (L.getD k 0) (by simp [List.getD_eq_getElem?_getD, show k < L.length by omega])
      omega
  have HF := Lib.hid hfin
  have HS := Lib.hid hs
  have HR := Lib.hid hr
  have HSB := Lib.hid hsb
  clear hfin hs hr hsb
  go_enter Try.func6, Try.ntmps6
  go_wp2_with (first | (go_at_call 7; refine (fixed_true _).mono ?_; rintro e w1 ⟨rfl, hb1⟩) | (go_at_call 20; refine (chunks_at _ h1 (by omega) _).mono ?_; rintro e w2 ⟨g1, c1, rfl, hg1, hr1, hb2⟩; rw [HL.out] at hr1 ⊢) | (go_at_call 21; refine (rchunks_at _ h1 (by omega) _).mono ?_; rintro e w3 ⟨g2, c2, rfl, hg2, hr2, hb3⟩; rw [HL.out] at hr2 ⊢))
  have hB3 : Below w.heap.size w w3 := (hb1.trans (hb2.mono hb1.size)).trans (hb3.mono (Nat.le_trans hb1.size hb2.size))
  have hr1' : RowAt w3 g1 L := hr1.kept hb3 hr1.1
  have HB3 := Lib.hid hB3
  have HR1 := Lib.hid hr1'
  have HR2 := Lib.hid hr2
  have HX := Lib.hid h1
  clear hB3 hr1' hr2 hr1 hb1 hb2 hb3 hg1 hg2
  go_loopw [5, 6, 21] (fun sm _ c wr => ∃ k : Nat, k ≤ L.length ∧ c = .int .i64 k ∧ sm = .int .i64 (L.take k).sum ∧ Hid (RowAt wr g1 L) ∧ Hid (RowAt wr g2 L) ∧ Hid (Below w.heap.size w wr)) (fun _ _ c _ => L.length - (intOf c).toNat)
  case atStart => exact ⟨0, by omega, rfl, by simp, HR1, HR2, HB3⟩
  case round =>
    clear HR1 HR2 HB3
    obtain ⟨k, hk, rfl, rfl, q1, q2, q3⟩ := hrel
    have hsb := HSB.out k hk
    by_cases hlt : k < L.length
    · have c1 := q1.out.2 k hlt
      have c2 := q2.out.2 k hlt
      have hx := HR.out (L.getD k 0) (by simp [List.getD_eq_getElem?_getD, hlt])
      have hf := HF.out k hlt
      generalize L.getD k 0 = x at *
      generalize (L.take k).sum = sm at *
      have HFK := Lib.hid hf
      clear hf
      have hd1 : decide ((L.length : Int) ≤ (k : Int)) = false := by simp; omega
      have hd2 : decide (x < 1) = false := by simp; omega
      have hd3 : decide (8 < x) = false := by simp; omega
      go_wp2
      go_quiet (fail)
      go_wp2
      go_roundw
      case rel => exact ⟨k + 1, by omega, by go_num, by rw [HFK.out], Lib.hid (q1.out.drewN _), Lib.hid (q2.out.drewN _), Lib.hid (below_drewN q3.out _)⟩
      case measure => simp [intOf]; omega
    · obtain rfl : k = L.length := by omega
      have hsum := HS.out
      rw [List.take_of_length_le (Nat.le_refl _)]
      generalize L.sum = sm at *
      subst hsum
      clear hsb
      go_wp2
      go_ret
      exact ⟨by simp, q3.out⟩

theorem walk_out (n : Int) (hn : n < 1 ∨ 131072 < n) (h1 : -9223372036854775808 ≤ n) (h2 : n ≤ 9223372036854775807) (w : World) :
    Calls Try.prog 6 #[.int .i64 n] w fun e w' => e = .returned (.bool true) ∧ Below w.heap.size w w' := by
  have hn' := Lib.hid hn
  rcases hn with hn | hn
  all_goals
    go_enter Try.func6, Try.ntmps6
    go_wp2_with (first | (go_at_call 7; refine (fixed_true _).mono ?_; rintro e w1 ⟨rfl, hb1⟩) | (go_at_call 20; refine (chunks_out _ hn'.out _).mono ?_; rintro e w2 ⟨rfl, rfl⟩) | (go_at_call 21; refine (rchunks_out _ hn'.out _).mono ?_; rintro e w3 ⟨rfl, rfl⟩))
    have HB1 := Lib.hid hb1
    clear hb1
    go_loop [5, 6, 21] (fun sm _ c => c = .int .i64 0 ∧ sm = .int .i64 0) (fun _ _ _ => 0)
    case atStart => exact ⟨rfl, rfl⟩
    case round =>
      obtain ⟨rfl, rfl⟩ := hrel
      go_wp2
      all_goals
        go_ret
        exact ⟨by simp, HB1.out⟩

theorem walk_early (n : Int) (h1 : 5000 < n) (h2 : n ≤ 131072) (w : World) :
    Calls Try.prog 6 #[.int .i64 n] w fun e w' => e = .returned (.bool true) ∧ Below w.heap.size w w' := by
  go_enter Try.func6, Try.ntmps6
  go_wp2_with (go_at_call 7; refine (fixed_true _).mono ?_; rintro e w1 ⟨rfl, hb1⟩)
  go_ret
  exact ⟨rfl, by assumption⟩

theorem walk (a0 : Int) (w : World) (w0 : (Lit.int .i64 a0).wf = true) :
    Calls Try.prog 6 #[.int .i64 a0] w fun e w' => e = .returned (.bool true) ∧ Below w.heap.size w w' := by
  obtain ⟨h1, h2⟩ := range_i64 w0
  by_cases ho : a0 < 1 ∨ 131072 < a0
  · exact walk_out a0 ho h1 h2 w
  · by_cases he : 5000 < a0
    · exact walk_early a0 he (by omega) w
    · obtain ⟨n, rfl⟩ := Int.eq_ofNat_of_zero_le (show 0 ≤ a0 by omega)
      exact walk_in n (by omega) (by omega) w


set_option maxRecDepth 100000 in
theorem lifted (os : Os) (started : os.Started) (H : Type) (enc : TypeId × Value → H) :
    ReturnsInHanded {} Try.checked os 6 .any (Rows.wordChunksSpec.pre6 enc Try.prog Try.f6 Rows.wordChunksRow.domain false) (Rows.wordChunksSpec.post enc Try.prog Try.f6 false true false false) := by
  refine returnsInHanded_of_change (C := Try.checked) own started (by kernel_rfl) Try.func6
    (ChangeSpec.witness6 (enc := enc) (C := Try.checked) false ⟨#[], #[.int .i64 0], []⟩ 8 (by kernel_rfl) (by kernel_rfl) (by kernel_rfl) (by kernel_rfl)) ?_
  intro W base args ds gs before hval0 hW hcnd _
  have hval : ∀ (j : Nat) t v, Try.f6.params[j]? = some t → args[j]? = some v → Value.okWide Try.prog W .any base t v := hval0
  have hW' := hW
  obtain ⟨p, q, hA0, hV, rfl, hfz, hnd⟩ := hW
  have hA : DataW.TrodAll enc Try.prog W 0 (fun _ => true) true Try.f6.params.toList args.toList ds p := hA0
  rw [Try.params6] at hA hval
  obtain ⟨v0, vs0, d0, ds0, p0, q0, hargs, rfl, rfl, h0, r0⟩ := trodAll_cons hA
  obtain ⟨rfl, rfl, rfl⟩ := trodAll_nil r0
  obtain rfl : args = #[v0] := by cases args; simp_all
  obtain ⟨rfl, rfl⟩ := trodVars_none hV
  obtain ⟨a0, rfl, rfl, rfl, w0⟩ := open_int Try.underlying3 (hval 0 3 v0 rfl rfl) h0
  clear hA0 hval0
  refine (walk a0 W w0).mono fun e W' ⟨he, bel⟩ => ?_
  subst he
  exact ⟨_, rfl, _, _, _, [], _, [], hW', trodAll_mk1 (shut_bool Try.underlying4 _), (trodAll_cons_mk (shut_int Try.underlying3 w0) trodAll_mk0), rfl, bel.frame _, fun h => by cases h⟩

theorem over : Rows.wordChunksRow.holds Try.pinned (OpenSpec.ofChange Rows.wordChunksSpec) :=
  OpenClaim.holds_of_wide 6 Try.f6 rfl rfl rfl rfl rfl rfl rfl ⟨rfl, rfl, rfl, rfl, rfl⟩ rfl rfl rfl rfl rfl (by kernel_rfl) Try.func6 (by kernel_rfl)
    (of_decide_eq_true (by kernel_rfl)) (by unfold Func.isWrapper; first | (rw [if_pos (by decide +kernel)]; kernel_rfl) | (rw [if_neg (by decide +kernel)]; exact ⟨rfl, rfl⟩))
    (fun os started H enc _ => lifted os started H enc)

theorem proved : Rows.WordChunksSaid := over
#print axioms proved
end Go.Proofs.Ytpcmjgjdmlgdjaa.wordChunks
