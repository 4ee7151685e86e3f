/- Statement CastSteps: whatever a send is told, access by access, each access, and how it ended, is the document's.
   No condition: for every input that can be read. -/
import Derived.Test.YtkmiijmoejcjgaaGreatRows
import Derived.Test.YtkmiijmoejcjgaaGreatKit
import Derived.Test.YtkmiijmoejcjgaaGreatRk11
import Derived.Test.YtkmiijmoejcjgaaGreatTold
import Derived.Test.YtkmiijmoejcjgaaGreatCastT
import Derived.Test.YtkmiijmoejcjgaaGreatCastQ
import Derived.ProofKit
import Derived.OpenShut
import Derived.ShutString
import Derived.ChangeOld
import Derived.Below
import Derived.Deep.Fields
import Derived.WideShapes
import Derived.Lib.SmallJoins
namespace Go.Proofs.YtkmiijmoejcjgaaGreat.castSteps
open Go.ChangeShapes Go.WideShapes Go.ChangeAt Go.RowKit
open Go.ChangeMaps (open_string shut_string)
set_option linter.unusedVariables false

open Go.Joins Go.Deep
theorem ownNone : ownKnob Tryz.prog.godebug = none := by kernel_rfl
section
variable {H : Type} {enc : TypeId × Value → H} {P : Program} {w : World} {base : Nat} {spare : Nat → Bool} {held : Bool}
set_option maxRecDepth 100000 in
theorem open_aggs2 {r : Reach} {b0 : Nat} {t : TypeId} {f0 f1 : Field} {v : Value} {d : DataW H} {p : List MemPlace} (hs : P.underlying t = some (.struct #[f0, f1])) (hone : oneCellFields P #[f0, f1] = true) (hC : P.cellsOf t = 2)
    (hv : Value.okWide P w r b0 t v) (h : DataW.Trod enc P w base spare held t v d p) :
    ∃ (c0 c1 : Value) (y0 y1 : DataW H × List MemPlace) (n : Nat), v = .agg #[c0, c1] ∧ DataW.trod enc P w base spare held n f0.type [c0] = some y0 ∧ DataW.trod enc P w base spare held n f1.type [c1] = some y1 := by
  obtain ⟨cs, rfl, hsz⟩ := okWide_struct hs hv
  obtain ⟨l⟩ := cs
  match l, hsz.trans hC with
  | [c0, c1], _ =>
    obtain ⟨fuel, hf⟩ := h
    obtain ⟨xs, n, _, hx, _, hlen, hg⟩ := DataW.trod_struct hs hf
    obtain ⟨o0, k0⟩ := Go.Deep.hone_of hone 0 f0 rfl
    obtain ⟨o1, k1⟩ := Go.Deep.hone_of hone 1 f1 rfl
    match xs, hlen with
    | [y0, y1], _ =>
      exact ⟨c0, c1, y0, y1, n, rfl, by simpa [Value.cells, o0, k0] using hg 0 f0 rfl, by simpa [Value.cells, o1, k1] using hg 1 f1 rfl⟩
end
theorem laidOut : laidOutB Tryz.prog = true := by kernel_rfl
open Go.X Go.Proofs.YtkmiijmoejcjgaaGreat.rk

/-- Rows of bytes. -/
theorem row_cells {w : World} {a : Option Addr} {len cap : Nat} {zs : List Int} (h : IsRow .u8 w a len cap zs) (hpos : 0 < len) :
    ∃ b off cs t fr, a = some ⟨b, off, none⟩ ∧ len ≤ cap ∧ cap ≤ maxLen ∧ w.heap[b]? = some (.cells cs t fr) ∧ ∀ i, i < len → ∃ z : Int, cs[off + i]? = some (.int .u8 z) := by
  rcases h with ⟨h1, h2, h3, _⟩ | ⟨x, rfl, hle, hmax, hlen, hcell, hwf⟩
  · omega
  have hc0 := hcell 0 (by omega)
  have hc0' : w.cell? x = some (.int .u8 (zs.getD 0 0)) := by simpa [Addr.add] using hc0
  obtain ⟨cs, t, fr, hs, hh, _⟩ := cell_spot hc0'
  obtain ⟨b, off, spt⟩ := x
  have hs : spt = none := hs
  subst hs
  refine ⟨b, off, cs, t, fr, rfl, hle, hmax, hh, fun i hi => ?_⟩
  have h1 := hcell i (by omega)
  rw [add_addr] at h1
  obtain ⟨cs', t', fr', _, h2, h3⟩ := cell_spot h1
  rw [show w.heap[(⟨b, off + i, none⟩ : Addr).block]? = w.heap[b]? from rfl, hh] at h2
  cases h2
  exact ⟨_, h3⟩

/-- No bytes: the slice is what it is. -/
theorem empty_iv {L : Nat → Value} {e : Env} {a : Option Addr} {cap : Nat} (h8 : L 8 = .slice a 0 cap) (h0 : a = none → cap = 0) : iv L e (vun 8 1 (.lit 0) []) = some (.slice a 0 cap) := by
  rw [iv_S (show (20 : Nat) ≠ 12 by decide) (show (20 : Nat) ≠ 13 by decide) (show (20 : Nat) ≠ 15 by decide) (show (20 : Nat) ≠ 16 by decide)]
  cases a with
  | none =>
    obtain rfl := h0 rfl
    exact ivS20_nil (v := vun 8 1 (.lit 0) []) rfl h8 rfl rfl
  | some x =>
    exact ivS20_some (L := L) (e := e) (v := vun 8 1 (.lit 0) []) (a := x) (n := 0) (c := cap) rfl h8 (Int.le_refl 0) (Int.le_refl 0) (Nat.zero_le _) (fun u hu => by cases hu) (.inr rfl)

set_option maxRecDepth 100000 in
theorem walk (a0_0 a0_1 a1 : Int) (a2 : Option Addr) (len2 cap2 : Nat) (z2 : List Int) (p : Option Addr) (len cap : Nat) (g : Nat → Nat → Value) (w : World) (w0_0 : (Lit.int .i64 a0_0).wf = true) (w0_1 : (Lit.int .i64 a0_1).wf = true) (w1 : (Lit.int .i32 a1).wf = true)
    (w2 : IsRow .u8 w a2 len2 cap2 z2) (ht : Go.X.Told w p len cap g) (hmax : len ≤ maxLen) (hg : ∀ k, k < len → (∃ v, g k 0 = .int .u64 v ∧ (Lit.int .u64 v).wf = true) ∧ (∃ b, g k 1 = .bool b) ∧ ∃ p n c, g k 2 = .slice p n c) :
    Calls Tryz.prog 3 #[.agg #[.int .i64 a0_0, .int .i64 a0_1], .int .i32 a1, .slice a2 len2 cap2, .slice p len cap] w fun e w' => e = .returned (.bool true) ∧ Below w.heap.size w w' := by
  have hS := range_i64 w0_1
  have hTy := range_i32 w1
  have hone : ∀ k j, k < len → j < 3 → (g k j).oneCell' = true := fun k j hk hj => by
    obtain ⟨⟨v, h0, _⟩, ⟨b, h1⟩, q, n, c, h2⟩ := hg k hk
    have : j = 0 ∨ j = 1 ∨ j = 2 := by omega
    rcases this with rfl | rfl | rfl
    · rw [h0]; rfl
    · rw [h1]; rfl
    · rw [h2]; rfl
  have hT : 0 ≤ tol g len ∧ tol g len < 18446744073709551616 := by
    unfold tol
    split
    · rename_i hl
      obtain ⟨⟨v, h0, hw⟩, _⟩ := hg 0 hl
      rw [h0]
      have := range_u64 hw
      exact ⟨this.1, by show v < _; omega⟩
    · exact ⟨(by show (0 : Int) ≤ 0; decide), (by show (0 : Int) < 18446744073709551616; decide)⟩
  have hcell : ∀ (ls : List Value) (bs : Nat → Value) (c : List Int) (k j : Nat), k < len → k ≤ 60 → j < 3 → lv ls g len bs c (20 + 3 * k + j) = g k j := fun ls bs c k j hk hk60 hj => by
    unfold lv
    rw [if_neg (by omega), if_pos (by omega), if_pos (by omega)]
    congr 1 <;> omega
  rcases Nat.eq_zero_or_pos len2 with h0 | hpos
  · subst h0
    have hnil : a2 = none → cap2 = 0 := fun h => by
      rcases w2 with ⟨_, _, h3, _⟩ | ⟨x, h1, _⟩
      · exact h3
      · rw [h] at h1; cases h1
    let L0 : Nat → Value := lv (lsOf true a0_0 a0_1 a1 0 (tol g len) (.slice p len cap) (.slice a2 0 cap2)) g len (fun _ => .bool true) (ch (numI true 0))
    have hil : il L0 (env0 w) (args true) = some [.agg #[.int .i64 a0_0, .int .i64 a0_1], .int .i32 a1, .slice a2 0 cap2, .slice p len cap] :=
      il_cons.2 ⟨_, _, iv_vagg (il_cons.2 ⟨_, _, iv3 rfl, il_cons.2 ⟨_, _, iv3 rfl, il_nil, rfl⟩, rfl⟩), il_cons.2 ⟨_, _, iv3 rfl, il_cons.2 ⟨_, _, empty_iv rfl hnil, il_cons.2 ⟨_, _, told_iv ht rfl, il_nil, rfl⟩, rfl⟩, rfl⟩, rfl⟩
    exact core runs (z := true) (n := 0) (L0 := L0) (lv_leafy rfl hone fun _ => rfl) lv_ok (by omega) (fun _ => rfl) (fun h => by cases h) hT ht rfl (hcell _ _ _) hg (known lv_ok rfl rfl hS hTy (by omega) (fun h => by cases h)) (Rel.start0 L0 w) rfl rfl hil
  · obtain ⟨b, off, cs, t, fr, rfl, hle, hmax2, hh, hcs⟩ := row_cells w2 hpos
    let bs : Nat → Value := fun i => .int .u8 (valInt ((cs[off + i]?).getD (.bool true)))
    have hbs : ∀ i, i < len2 → cs[off + i]? = some (bs i) := fun i hi => by
      obtain ⟨z, hz⟩ := hcs i hi
      show _ = some (Value.int .u8 (valInt ((cs[off + i]?).getD (.bool true))))
      rw [hz]; rfl
    have slice_iv : ∀ L : Nat → Value, valInt (L 3) = (len2 : Int) → iv L (rowEnv b off cap2 w.heap.size) (vss Path.zero 0 (l 3) 0 0) = some (.slice (some ⟨b, off, none⟩) len2 cap2) := fun L h3 => by
      have e3 : IE.eval L (l 3) = (len2 : Int) := h3
      have := iv25_of (L := L) (e := rowEnv b off cap2 w.heap.size) (v := vss Path.zero 0 (l 3) 0 0) (q := (b, off)) (k := cap2) rfl (by simp [vss, rowEnv]) (by simp [vss, rowEnv]) (by show 0 ≤ IE.eval L (l 3); omega) (by show 0 + (IE.eval L (l 3)).toNat ≤ cap2; omega)
      rw [this]
      show some (Value.slice (some ⟨b, off + 0, none⟩) (IE.eval L (l 3)).toNat (cap2 - 0)) = _
      rw [e3]
      rfl
    rcases Nat.lt_or_ge 1100 len2 with hbig | hsm
    · let L0 : Nat → Value := lv (lsOf false a0_0 a0_1 a1 len2 (tol g len) (.slice p len cap) (.slice (some ⟨b, off, none⟩) len2 cap2)) g len (fun _ => .bool true) []
      have hun : iv L0 (env0 w) (vun 8 1 (.len 8) []) = some (.slice (some ⟨b, off, none⟩) len2 cap2) := by
        rw [iv_S (show (20 : Nat) ≠ 12 by decide) (show (20 : Nat) ≠ 13 by decide) (show (20 : Nat) ≠ 15 by decide) (show (20 : Nat) ≠ 16 by decide)]
        have hx : (vun 8 1 (.len 8) []).x.eval L0 = (len2 : Int) := rfl
        have := ivS20_some (L := L0) (e := env0 w) (v := vun 8 1 (.len 8) []) (a := ⟨b, off, none⟩) (n := len2) (c := cap2) rfl rfl (by rw [hx]; omega) (by rw [hx]; omega) hle (fun u hu => by cases hu) (.inr rfl)
        rw [this, hx, Int.toNat_natCast]
      have hil : il L0 (env0 w) argsN = some [.agg #[.int .i64 a0_0, .int .i64 a0_1], .int .i32 a1, .slice (some ⟨b, off, none⟩) len2 cap2, .slice p len cap] :=
        il_cons.2 ⟨_, _, iv_vagg (il_cons.2 ⟨_, _, iv3 rfl, il_cons.2 ⟨_, _, iv3 rfl, il_nil, rfl⟩, rfl⟩), il_cons.2 ⟨_, _, iv3 rfl, il_cons.2 ⟨_, _, hun, il_cons.2 ⟨_, _, told_iv ht rfl, il_nil, rfl⟩, rfl⟩, rfl⟩, rfl⟩
      exact tooBig (L0 := L0) (lv_leafy rfl hone fun _ => rfl) (n := len2) rfl hbig hil
    · let L0 : Nat → Value := lv (lsOf false a0_0 a0_1 a1 len2 (tol g len) (.slice p len cap) (.slice (some ⟨b, off, none⟩) len2 cap2)) g len bs (ch (numI false len2))
      have hrow : RowOk L0 bObj off cs := fun _ => ⟨by show (0 : Int) ≤ ((len2 : Nat) : Int); omega, by show ((len2 : Nat) : Int) ≤ 1099511627776; omega, fun i hi => by
        have hi : (i : Int) < ((len2 : Nat) : Int) := hi
        rw [hbs i (by omega)]
        show some (bs i) = some (.int .u8 (valInt (lv _ g len bs _ (4096 * 1 + (0 + i)))))
        unfold lv
        rw [if_neg (by omega), if_neg (by omega), if_pos (by omega), show 4096 * 1 + (0 + i) - 4096 = i by omega]
        rfl⟩
      have hil : il L0 (rowEnv b off cap2 w.heap.size) (args false) = some [.agg #[.int .i64 a0_0, .int .i64 a0_1], .int .i32 a1, .slice (some ⟨b, off, none⟩) len2 cap2, .slice p len cap] :=
        il_cons.2 ⟨_, _, iv_vagg (il_cons.2 ⟨_, _, iv3 rfl, il_cons.2 ⟨_, _, iv3 rfl, il_nil, rfl⟩, rfl⟩), il_cons.2 ⟨_, _, iv3 rfl, il_cons.2 ⟨_, _, slice_iv L0 rfl, il_cons.2 ⟨_, _, told_iv ht rfl, il_nil, rfl⟩, rfl⟩, rfl⟩, rfl⟩
      exact core runs (z := false) (n := len2) (L0 := L0) (lv_leafy rfl hone fun _ => rfl) lv_ok hsm (fun h => by cases h) (fun _ => hpos) hT ht rfl (hcell _ _ _) hg (known lv_ok rfl rfl hS hTy hsm (fun _ => hpos)) (oneRel (o := bObj) rfl rfl hh hrow (fun k v hv => by have hv : CT.get k (.c1 z1) = some v := hv; rw [noCells] at hv; cases hv)) rfl rfl hil

set_option maxRecDepth 100000 in
theorem lifted (os : Os) (started : os.Started) (H : Type) (enc : TypeId × Value → H) :
    ReturnsInHanded {} Tryz.checked os 3 .any (Rows.castStepsSpec.pre6 enc Tryz.prog Tryz.f3 Rows.castStepsRow.domain false) (Rows.castStepsSpec.post enc Tryz.prog Tryz.f3 false true false false) := by
  refine returnsInHanded_of_change (C := Tryz.checked) ownNone started (by kernel_rfl) Tryz.func3
    (ChangeSpec.witness6 (enc := enc) (C := Tryz.checked) false ⟨#[], #[.agg #[.int .i64 0, .int .i64 0], .int .i32 0, .slice none 0 0, .slice none 0 0], []⟩ 8 (by kernel_rfl) (by kernel_rfl) (by kernel_rfl) (by kernel_rfl)) ?_
  intro W base args ds gs before hval0 hW hcnd _
  have hval : ∀ (j : Nat) t v, Tryz.f3.params[j]? = some t → args[j]? = some v → Value.okWide Tryz.prog W .any base t v := hval0
  have hW' := hW
  obtain ⟨p, q, hA0, hV, rfl, hfz, hnd⟩ := hW
  have hA : DataW.TrodAll enc Tryz.prog W 0 (fun _ => true) true Tryz.f3.params.toList args.toList ds p := hA0
  rw [Tryz.params3] at hA hval
  obtain ⟨v0, vs0, d0, ds0, p0, q0, hargs, rfl, rfl, h0, r0⟩ := trodAll_cons hA
  obtain ⟨v1, vs1, d1, ds1, p1, q1, rfl, rfl, rfl, h1, r1⟩ := trodAll_cons r0
  obtain ⟨v2, vs2, d2, ds2, p2, q2, rfl, rfl, rfl, h2, r2⟩ := trodAll_cons r1
  obtain ⟨v3, vs3, d3, ds3, p3, q3, rfl, rfl, rfl, h3, r3⟩ := trodAll_cons r2
  obtain ⟨rfl, rfl, rfl⟩ := trodAll_nil r3
  obtain rfl : args = #[v0, v1, v2, v3] := by cases args; simp_all
  obtain ⟨rfl, rfl⟩ := trodVars_none hV
  have k0 := h0
  have lt0 : ∀ x ∈ p0, x.block < W.heap.size := by obtain ⟨m, hm⟩ := k0; exact DataW.trod_lt m _ _ _ hm
  obtain ⟨c0_0, c0_1, _, _, n0, rfl, t0_0, t0_1⟩ := open_aggs2 Tryz.underlying23 (by kernel_rfl) (by kernel_rfl) (hval 0 23 v0 rfl rfl) h0
  obtain ⟨a0_0, e0_0, _, w0_0⟩ := DataW.trod_int Tryz.underlying3 t0_0
  obtain rfl : c0_0 = .int .i64 a0_0 := by simpa using e0_0
  obtain ⟨a0_1, e0_1, _, w0_1⟩ := DataW.trod_int Tryz.underlying3 t0_1
  obtain rfl : c0_1 = .int .i64 a0_1 := by simpa using e0_1
  obtain ⟨a1, rfl, rfl, rfl, w1⟩ := open_int Tryz.underlying21 (hval 1 21 v1 rfl rfl) h1
  obtain ⟨a2, len2, cap2, rfl⟩ := okWide_slice Tryz.underlying24 (hval 2 24 v2 rfl rfl)
  have k2 := h2
  have lt2 : ∀ x ∈ p2, x.block < W.heap.size := by obtain ⟨m, hm⟩ := k2; exact DataW.trod_lt m _ _ _ hm
  obtain ⟨z2, w2⟩ : ∃ zs, IsRow .u8 W a2 len2 cap2 zs := by
    obtain ⟨fuel, hf⟩ := h2
    rcases open_ints Tryz.underlying24 Tryz.underlying5 (by kernel_rfl) hf with ⟨hcs, _⟩ | ⟨x, l, c, zs, hcs, _, hl, hm, hz, _, hcell, hwz⟩
    · simp [Value.cells] at hcs
      obtain ⟨rfl, rfl, rfl⟩ := hcs
      exact ⟨[], .inl ⟨rfl, rfl, rfl, rfl⟩⟩
    · simp [Value.cells] at hcs
      obtain ⟨rfl, rfl, rfl⟩ := hcs
      exact ⟨zs, .inr ⟨_, rfl, hl, hm, by simpa using hz, hcell, hwz⟩⟩
  obtain ⟨a3, len3, cap3, rfl⟩ := okWide_slice Tryz.underlying25 (hval 3 25 v3 rfl rfl)
  have k3 := h3
  have lt3 : ∀ x ∈ p3, x.block < W.heap.size := by obtain ⟨m, hm⟩ := k3; exact DataW.trod_lt m _ _ _ hm
  obtain ⟨g3, w3, m3, t3⟩ : ∃ g, Go.X.Told W a3 len3 cap3 g ∧ len3 ≤ maxLen ∧ ∀ k, k < len3 → (∃ v, g k 0 = .int .u64 v ∧ (Lit.int .u64 v).wf = true) ∧ (∃ b, g k 1 = .bool b) ∧ ∃ p n c, g k 2 = .slice p n c := by
    obtain ⟨fuel, hf⟩ := h3
    obtain ⟨p, l, c, g, hcs, h1, h2, h3⟩ := Go.X.open_told Tryz.underlying25 Tryz.underlying33 (by kernel_rfl) (by kernel_rfl) Tryz.underlying31 Tryz.underlying4 Tryz.underlying24 hf
    simp [Value.cells] at hcs
    obtain ⟨rfl, rfl, rfl⟩ := hcs
    exact ⟨g, h1, h2, h3⟩
  clear hA0 hval0
  refine (walk a0_0 a0_1 a1 a2 len2 cap2 z2 a3 len3 cap3 g3 W w0_0 w0_1 w1 w2 w3 m3 t3).mono fun e W' ⟨he, bel⟩ => ?_
  subst he
  exact ⟨_, rfl, _, _, _, [], _, [], hW', trodAll_mk1 (shut_bool Tryz.underlying4 _), (trodAll_cons_mk (Below.trod laidOut (by kernel_rfl) (of_decide_eq_true (by kernel_rfl)) k0 bel lt0) (trodAll_cons_mk (shut_int Tryz.underlying21 w1) (trodAll_cons_mk (Below.trod laidOut (by kernel_rfl) (of_decide_eq_true (by kernel_rfl)) k2 bel lt2) (trodAll_cons_mk (Below.trod laidOut (by kernel_rfl) (of_decide_eq_true (by kernel_rfl)) k3 bel lt3) trodAll_mk0)))), rfl, bel.frame _, fun h => by cases h⟩

theorem notMain : (Check.packageOf Tryz.f3.name == "main") = false := by kernel_rfl
set_option maxHeartbeats 4000000 in
theorem wrapOk : Func.isWrapper Tryz.prog Tryz.f3 false "" := by
  unfold Func.isWrapper
  rw [if_neg (fun h => by have k := notMain; rw [h] at k; exact absurd k (by decide))]
  exact ⟨rfl, rfl⟩
set_option maxHeartbeats 4000000 in
theorem overAll : Rows.castStepsRow.holds Tryz.pinned (OpenSpec.ofChange Rows.castStepsSpec) :=
  OpenClaim.holds_of_wide 3 Tryz.f3 rfl rfl rfl rfl rfl rfl rfl ⟨rfl, rfl, rfl, rfl, rfl⟩ rfl rfl rfl rfl rfl (by as_aux_lemma => kernel_rfl) Tryz.func3 (by as_aux_lemma => kernel_rfl)
    (of_decide_eq_true (by as_aux_lemma => kernel_rfl)) wrapOk
    (fun os started H enc _ => lifted os started H enc)

theorem proved : Rows.CastStepsSaid := overAll
#print axioms proved
end Go.Proofs.YtkmiijmoejcjgaaGreat.castSteps
