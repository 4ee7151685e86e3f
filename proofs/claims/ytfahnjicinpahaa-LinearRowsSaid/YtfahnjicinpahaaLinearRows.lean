/- Statement LinearRows: whether any row of any calls fits, and whether a queue does it, is what the document says.
   No condition: for every input that can be read. -/
import Derived.Test.YtfahnjicinpahaaRows
import Derived.Test.YtfahnjicinpahaaKit
import Derived.Test.YtfahnjicinpahaaRk38
import Derived.Test.YtfahnjicinpahaaLinH
import Derived.ProofKit
import Derived.OpenShut
import Derived.ShutString
import Derived.ChangeOld
import Derived.Below
namespace Go.Proofs.Ytfahnjicinpahaa.linearRows
open Go.ChangeShapes Go.WideShapes Go.ChangeAt Go.RowKit
open Go.ChangeMaps (open_string shut_string)
set_option linter.unusedVariables false

theorem own : ownKnob Try.prog.godebug = none := by kernel_rfl
theorem laidOut : laidOutB Try.prog = true := by kernel_rfl
open Go.Proofs.Ytfahnjicinpahaa.rk in
theorem qops_below {w w' : World} {s : Value} {l : List QOp} (h : QOps w s l) (hb : Below w.heap.size w w') : QOps w' s l := by
  obtain ⟨a, cap, h1, h2, h3⟩ := h
  refine ⟨a, cap, h1, h2, h3.imp_right ?_⟩
  rintro ⟨b, off, rfl, hc⟩
  refine ⟨b, off, rfl, fun i hi => ?_⟩
  obtain ⟨e0, e1, e2, e3⟩ := hc i hi
  have hlt : b < w.heap.size := World.block_lt_of_cell? w _ e0
  exact ⟨(hb.cell (p := ⟨b, _, none⟩) hlt).trans e0, (hb.cell (p := ⟨b, _, none⟩) hlt).trans e1, (hb.cell (p := ⟨b, _, none⟩) hlt).trans e2, (hb.cell (p := ⟨b, _, none⟩) hlt).trans e3⟩

theorem intsC_of_row {k : IntKind} {w : World} {a : Option Addr} {len cap : Nat} {zs : List Int} (h : IsRow k w a len cap zs) : IntsC k w (.slice a len cap) (zs.take len) ∧ (∀ n ∈ zs.take len, (Lit.int k n).wf = true) ∧ (zs.take len).length = len := by
  obtain ⟨⟨a', cap', h1, h2⟩, h3, h4, _⟩ := Ints.of_row h
  rw [h4] at h1
  cases h1
  refine ⟨⟨a, cap, by rw [h4], ?_, h2⟩, h3, h4⟩
  rw [h4]
  rcases h with ⟨_, rfl, rfl, _⟩ | ⟨_, _, hl, _⟩
  · exact Nat.le_refl _
  · exact hl

open Go.Proofs.Ytfahnjicinpahaa.rk in
open Classical in
set_option maxRecDepth 100000 in
set_option maxHeartbeats 2000000 in
theorem walk (a0 : Option Addr) (len0 cap0 : Nat) (g0 : List QOp) (a1 : Option Addr) (len1 cap1 : Nat) (z1 : List Int) (w : World) (w0 : QIn w a0 len0 cap0 g0) (w1 : IsRow .i64 w a1 len1 cap1 z1) :
    Calls Try.prog 6 #[.slice a0 len0 cap0, .slice a1 len1 cap1] w fun e w' => e = .returned (.bool true) ∧ Below w.heap.size w w' := by
  obtain ⟨hl0, hq, hqw, _⟩ := w0
  obtain ⟨hs, hz, hl1⟩ := intsC_of_row w1
  generalize z1.take len1 = zs at *
  clear w1
  subst hl0
  subst hl1
  by_cases h0 : 60 < g0.length
  · clear hq hqw hs hz
    go_enter Try.func6, Try.ntmps6
    go_wp2_with (go_at_call 20; refine (fixed38_true _).mono ?_; rintro e w1 ⟨rfl, hb1⟩)
    go_ret
    exact ⟨rfl, hb1⟩
  · by_cases h1 : 60 < zs.length
    · clear hq hqw hs hz
      go_enter Try.func6, Try.ntmps6
      go_wp2_with (go_at_call 20; refine (fixed38_true _).mono ?_; rintro e w1 ⟨rfl, hb1⟩)
      go_ret
      exact ⟨rfl, hb1⟩
    · have hn : g0.length ≤ 60 := by omega
      have hlen : zs.length ≤ 60 := by omega
      obtain ⟨Bf, hBf⟩ : ∃ B : Bool, B = true ↔ (zs.length = g0.length ∧ rowOk g0.length zs) ∧ fitsOk g0 zs := ⟨decide _, decide_eq_true_iff⟩
      obtain ⟨Bd, hBd⟩ : ∃ B : Bool, B = true ↔ (zs.length = g0.length ∧ rowOk g0.length zs) ∧ (qst g0 zs zs.length).isSome = true := ⟨decide _, decide_eq_true_iff⟩
      have H1 := Lib.hid (fun w2 (hb : Below w.heap.size w w2) => fits_any w2 _ _ g0 zs (qops_below hq hb) (hs.below hb) hqw hz hn hlen Bf hBf)
      have H2 := Lib.hid (fun w2 (hb : Below w.heap.size w w2) => rfits_any w2 _ _ g0 zs (qops_below hq hb) (hs.below hb) hqw hz hn hlen Bf hBf)
      have H3 := Lib.hid (fun w2 (hb : Below w.heap.size w w2) => runs_any w2 _ _ g0 zs (qops_below hq hb) (hs.below hb) hz hn hlen Bd hBd)
      have H4 := Lib.hid (fun w2 (hb : Below w.heap.size w w2) => rruns_any w2 _ _ g0 zs (qops_below hq hb) (hs.below hb) hz hn hlen Bd hBd)
      clear hq hqw hs hz hBf hBd
      go_enter Try.func6, Try.ntmps6
      go_wp2_with (first
        | (go_at_call 20; refine (fixed38_true _).mono ?_; rintro e w1 ⟨rfl, hb1⟩)
        | (go_at_call 21; refine (H1.out _ hb1).mono ?_; rintro e w2 ⟨rfl, hb2⟩; have hb2' := hb1.trans (hb2.mono hb1.size))
        | (go_at_call 22; refine (H2.out _ hb2').mono ?_; rintro e w3 ⟨rfl, hb3⟩; have hb3' := hb2'.trans (hb3.mono hb2'.size))
        | (go_at_call 23; refine (H3.out _ hb3').mono ?_; rintro e w4 ⟨rfl, hb4⟩; have hb4' := hb3'.trans (hb4.mono hb3'.size))
        | (go_at_call 24; refine (H4.out _ hb4').mono ?_; rintro e w5 ⟨rfl, hb5⟩; have hb5' := hb4'.trans (hb5.mono hb4'.size)))
      go_ret
      exact ⟨by simp, hb5'⟩

set_option maxRecDepth 100000 in
theorem lifted (os : Os) (started : os.Started) (H : Type) (enc : TypeId × Value → H) :
    ReturnsInHanded {} Try.checked os 6 .any (Rows.linearRowsSpec.pre6 enc Try.prog Try.f6 Rows.linearRowsRow.domain false) (Rows.linearRowsSpec.post enc Try.prog Try.f6 false true false false) := by
  refine returnsInHanded_of_change (C := Try.checked) own started (by kernel_rfl) Try.func6
    (ChangeSpec.witness6 (enc := enc) (C := Try.checked) false ⟨#[], #[.slice none 0 0, .slice none 0 0], []⟩ 8 (by kernel_rfl) (by kernel_rfl) (by kernel_rfl) (by kernel_rfl)) ?_
  intro W base args ds gs before hval0 hW hcnd _
  have hval : ∀ (j : Nat) t v, Try.f6.params[j]? = some t → args[j]? = some v → Value.okWide Try.prog W .any base t v := hval0
  have hW' := hW
  obtain ⟨p, q, hA0, hV, rfl, hfz, hnd⟩ := hW
  have hA : DataW.TrodAll enc Try.prog W 0 (fun _ => true) true Try.f6.params.toList args.toList ds p := hA0
  rw [Try.params6] at hA hval
  obtain ⟨v0, vs0, d0, ds0, p0, q0, hargs, rfl, rfl, h0, r0⟩ := trodAll_cons hA
  obtain ⟨v1, vs1, d1, ds1, p1, q1, rfl, rfl, rfl, h1, r1⟩ := trodAll_cons r0
  obtain ⟨rfl, rfl, rfl⟩ := trodAll_nil r1
  obtain rfl : args = #[v0, v1] := by cases args; simp_all
  obtain ⟨rfl, rfl⟩ := trodVars_none hV
  obtain ⟨a0, len0, cap0, rfl⟩ := okWide_slice Try.underlying42 (hval 0 42 v0 rfl rfl)
  have k0 := h0
  have lt0 : ∀ x ∈ p0, x.block < W.heap.size := by obtain ⟨m, hm⟩ := k0; exact DataW.trod_lt m _ _ _ hm
  obtain ⟨g0, w0⟩ : ∃ g, QIn W a0 len0 cap0 g := by
    obtain ⟨fuel, hf⟩ := h0
    obtain ⟨p, l, c, g, hcs, h1⟩ := open_qops Try.underlying42 Try.underlying65 (by kernel_rfl) (by kernel_rfl) Try.underlying4 Try.underlying3 Try.underlying3 Try.underlying3 hf
    simp [Value.cells] at hcs
    obtain ⟨rfl, rfl, rfl⟩ := hcs
    exact ⟨g, h1⟩
  obtain ⟨a1, len1, cap1, rfl⟩ := okWide_slice Try.underlying43 (hval 1 43 v1 rfl rfl)
  have k1 := h1
  have lt1 : ∀ x ∈ p1, x.block < W.heap.size := by obtain ⟨m, hm⟩ := k1; exact DataW.trod_lt m _ _ _ hm
  obtain ⟨z1, w1⟩ : ∃ zs, IsRow .i64 W a1 len1 cap1 zs := by
    obtain ⟨fuel, hf⟩ := h1
    rcases open_ints Try.underlying43 Try.underlying3 (by kernel_rfl) hf with ⟨hcs, _⟩ | ⟨x, l, c, zs, hcs, _, hl, hm, hz, _, hcell, hwz⟩
    · simp [Value.cells] at hcs
      obtain ⟨rfl, rfl, rfl⟩ := hcs
      exact ⟨[], .inl ⟨rfl, rfl, rfl, rfl⟩⟩
    · simp [Value.cells] at hcs
      obtain ⟨rfl, rfl, rfl⟩ := hcs
      exact ⟨zs, .inr ⟨_, rfl, hl, hm, by simpa using hz, hcell, hwz⟩⟩
  clear hA0 hval0
  refine (walk a0 len0 cap0 g0 a1 len1 cap1 z1 W w0 w1).mono fun e W' ⟨he, bel⟩ => ?_
  subst he
  exact ⟨_, rfl, _, _, _, [], _, [], hW', trodAll_mk1 (shut_bool Try.underlying4 _), (trodAll_cons_mk (Below.trod laidOut (by kernel_rfl) (of_decide_eq_true (by kernel_rfl)) k0 bel lt0) (trodAll_cons_mk (Below.trod laidOut (by kernel_rfl) (of_decide_eq_true (by kernel_rfl)) k1 bel lt1) trodAll_mk0)), rfl, bel.frame _, fun h => by cases h⟩

theorem overAll : Rows.linearRowsRow.holds Try.pinned (OpenSpec.ofChange Rows.linearRowsSpec) :=
  OpenClaim.holds_of_wide 6 Try.f6 rfl rfl rfl rfl rfl rfl rfl ⟨rfl, rfl, rfl, rfl, rfl⟩ rfl rfl rfl rfl rfl (by as_aux_lemma => kernel_rfl) Try.func6 (by as_aux_lemma => kernel_rfl)
    (of_decide_eq_true (by as_aux_lemma => kernel_rfl)) (by unfold Func.isWrapper; first | (rw [if_pos (by decide +kernel)]; kernel_rfl) | (rw [if_neg (by decide +kernel)]; exact ⟨rfl, rfl⟩))
    (fun os started H enc _ => lifted os started H enc)

theorem proved : Rows.LinearRowsSaid := overAll
#print axioms proved
end Go.Proofs.Ytfahnjicinpahaa.linearRows
