/- Statement CommandReads: which command any bytes tell is what the document says; it has these bytes.
   No condition: for every input that can be read. -/
import Derived.Test.YtginhhjnbimmeaaRows
import Derived.Test.YtginhhjnbimmeaaKit
import Derived.Test.YtginhhjnbimmeaaRk34
import Derived.Test.YtginhhjnbimmeaaReadsA
import Derived.Test.YtginhhjnbimmeaaReadsB
import Derived.Test.YtginhhjnbimmeaaReadsC
import Derived.Test.YtginhhjnbimmeaaReadsD
import Derived.ProofKit
import Derived.OpenShut
import Derived.ShutString
import Derived.ChangeOld
import Derived.Below
namespace Go.Proofs.Ytginhhjnbimmeaa.commandReads
open Go.ChangeShapes Go.WideShapes Go.ChangeAt Go.RowKit
open Go.ChangeMaps (open_string shut_string)
set_option linter.unusedVariables false

theorem own : ownKnob Try.prog.godebug = none := by kernel_rfl
theorem laidOut : laidOutB Try.prog = true := by kernel_rfl

open Go.X Go.Proofs.Ytginhhjnbimmeaa.rk Go.Proofs.Ytginhhjnbimmeaa.reads

def tree : DT := (.split .lss (.leaf 37) (.lit 1) (.split .eql (.leaf 32) (.lit 1) (.split .lss (.leaf 36) (.lit 0) .run .run) (.split .eql (.leaf 32) (.lit 2) (.split .lss (.leaf 36) (.lit 0) .run .run) (.split .eql (.leaf 32) (.lit 3) (.split .lss (.leaf 36) (.lit 0) .run .run) (.split .eql (.leaf 32) (.lit 5) (.split .lss (.leaf 36) (.lit 0) .run .run) (.split .eql (.leaf 32) (.lit 4) (.split .lss (.leaf 36) (.lit 0) .run .run) (.split .eql (.leaf 32) (.lit 6) (.split .lss (.leaf 36) (.lit 0) .run .run) (.split .lss (.leaf 32) (.lit 1) .run (.split .lss (.lit 6) (.leaf 32) .run (.split .lss (.leaf 36) (.lit 0) .run .run))))))))) (.split .lss (.leaf 36) (.lit 0) (.split .eql (.leaf 32) (.lit 1) .run (.split .eql (.leaf 32) (.lit 2) .run (.split .eql (.leaf 32) (.lit 3) .run (.split .eql (.leaf 32) (.lit 5) .run (.split .eql (.leaf 32) (.lit 4) .run (.split .eql (.leaf 32) (.lit 6) .run (.split .lss (.leaf 32) (.lit 1) .run (.split .lss (.lit 6) (.leaf 32) .run .run)))))))) (.split .eql (.leaf 32) (.lit 1) (.split .eql (.leaf 35) (.lit 0) .run .run) (.split .eql (.leaf 32) (.lit 2) (.split .eql (.leaf 35) (.lit 0) .run .run) (.split .eql (.leaf 32) (.lit 3) (.split .eql (.leaf 35) (.lit 0) .run .run) (.split .eql (.leaf 32) (.lit 5) (.split .eql (.leaf 35) (.lit 0) .run .run) (.split .eql (.leaf 32) (.lit 4) (.split .eql (.leaf 33) (.lit 0) (.split .eql (.leaf 34) (.lit 0) (.split .eql (.leaf 35) (.lit 0) (.split .eql (.leaf 36) (.lit 0) .run .run) (.split .eql (.leaf 36) (.lit 0) .run .run)) .run) .run) (.split .eql (.leaf 32) (.lit 6) (.split .lss (.leaf 35) (.lit 1) .run (.split .lss (.lit 255) (.leaf 35) .run .run)) (.split .lss (.leaf 32) (.lit 1) .run (.split .lss (.lit 6) (.leaf 32) .run (.split .eql (.leaf 35) (.lit 0) .dead .run)))))))))))
def tree2 : DT := .split .lss (.lit 100) (.len 0) .run (.split .eql (.len 0) (.lit 32) .dead .run)

theorem reckoned : DT.goodS cfg34 60 4 [vsv Path.zero 0 32 0 0] (rowSt 32) tree (told pairs) = true := (good_splitS rfl (good_splitS rfl (good_splitS rfl r0 r1) (good_splitS rfl (good_splitS rfl r2 r3) (good_splitS rfl (good_splitS rfl r4 r5) (good_splitS rfl (good_splitS rfl r6 r7) (good_splitS rfl (good_splitS rfl r8 r9) (good_splitS rfl (good_splitS rfl r10 r11) (good_splitS rfl r12 (good_splitS rfl r13 (good_splitS rfl r14 r15))))))))) (good_splitS rfl (good_splitS rfl r16 (good_splitS rfl r17 (good_splitS rfl r18 (good_splitS rfl r19 (good_splitS rfl r20 (good_splitS rfl r21 (good_splitS rfl r22 (good_splitS rfl r23 r24)))))))) (good_splitS rfl (good_splitS rfl r25 r26) (good_splitS rfl (good_splitS rfl r27 r28) (good_splitS rfl (good_splitS rfl r29 r30) (good_splitS rfl (good_splitS rfl r31 r32) (good_splitS rfl (good_splitS rfl (good_splitS rfl (good_splitS rfl (good_splitS rfl r33 r34) (good_splitS rfl r35 r36)) r37) r38) (good_splitS rfl (good_splitS rfl r39 (good_splitS rfl r40 r41)) (good_splitS rfl r42 (good_splitS rfl r43 (good_splitS rfl rfl r44)))))))))))
theorem reckoned2 : DT.good cfg34 60 4 [vosl 0] tree2 [] = true := by kernel_rfl

theorem rowCells_get {k : Nat} {v : V} (h : (rowCells 32).get k = some v) : k < 32 ∧ v = vx 4 (.leaf k) := by
  have hc : cellsOf (rowVs 32) = some (rowCells 32) := rfl
  rw [cellsOf_get hc, rowVs, List.getElem?_map, Option.map_eq_some_iff] at h
  obtain ⟨j, hj, rfl⟩ := h
  obtain ⟨h1, h2⟩ := List.getElem?_eq_some_iff.1 hj
  rw [List.length_range] at h1
  rw [List.getElem_range] at h2
  exact ⟨h1, by rw [h2]⟩

theorem cell_row {w : World} {b off : Nat} {sp : Option Nat} {v : Value} (h : w.cell? ⟨b, off, sp⟩ = some v) : sp = none ∧ ∃ cs t fr, w.heap[b]? = some (.cells cs t fr) ∧ cs[off]? = some v := by
  unfold World.cell? at h
  simp only at h
  split at h
  · rename_i c el fz hw
    split at h
    · cases h
    · rename_i hs
      refine ⟨?_, c, el, fz, hw, h⟩
      cases sp with
      | none => rfl
      | some q => exact absurd rfl hs
  · cases h
theorem add_zero (b off : Nat) (sp : Option Nat) : (⟨b, off, sp⟩ : Addr).add 0 = ⟨b, off, sp⟩ := by simp [Addr.add]
theorem add_row (b off i : Nat) : (⟨b, off, none⟩ : Addr).add i = ⟨b, off + i, none⟩ := by
  unfold Addr.add
  split
  · rename_i h
    subst h
    rfl
  · rfl

/-- Leaves: 32 bytes, and what they tell. -/
def four (bt : Nat → Nat) (a : Nat) : Value := .int .i32 (IntKind.wrap .i32 ((bt a + 256 * bt (a + 1) + 65536 * bt (a + 2) + 16777216 * bt (a + 3) : Nat) : Int))
def eight (bt : Nat → Nat) (a : Nat) : Value :=
  .int .i64 (IntKind.wrap .i64 ((bt a + 256 * bt (a + 1) + 65536 * bt (a + 2) + 16777216 * bt (a + 3) + 4294967296 * bt (a + 4) + 1099511627776 * bt (a + 5) + 281474976710656 * bt (a + 6) + 72057594037927936 * bt (a + 7) : Nat) : Int))
def ls (bt : Nat → Nat) : List Value := (List.range 32).map (fun i => Value.int .u8 ((bt i : Nat) : Int)) ++ [four bt 0, four bt 4, four bt 8, four bt 12, eight bt 16, eight bt 24]

theorem ls_byte (bt : Nat → Nat) {k : Nat} (hk : k < 32) : leaves (ls bt) k = .int .u8 (bt k : Int) := by
  unfold leaves ls
  rw [List.getElem?_append_left (by simpa using hk)]
  simp [hk]

set_option linter.unusedSimpArgs false in
set_option maxRecDepth 100000 in
/-- What can't be. -/
theorem deads (bt : Nat → Nat) : noneSay (leaves (ls bt)) (DT.deads tree (told pairs)) := by
  simp only [tree, DT.deads, List.nil_append, List.append_nil, List.cons_append, noneSay, allSay, Fact.says, eval_lit, eval_leaf]
  refine ⟨?_, trivial⟩ <;> (intro h; omega)

theorem walk (a0 : Option Addr) (len0 cap0 : Nat) (z0 : List Int) (w : World) (w0 : IsRow .u8 w a0 len0 cap0 z0) :
    Calls Try.prog 4 #[.slice a0 len0 cap0] w fun e w' => e = .returned (.bool true) ∧ Below w.heap.size w w' := by
  by_cases h : len0 = 32
  · rcases w0 with ⟨_, h0, _⟩ | ⟨x, rfl, hle, hmax, hlen, hcell, hwf⟩
    · omega
    subst h
    obtain ⟨bt, hbt⟩ : ∃ bt : Nat → Nat, bt = fun i => (z0.getD i 0).toNat := ⟨_, rfl⟩
    have hz : ∀ i, i < 32 → z0.getD i 0 = (bt i : Int) ∧ bt i < 256 := by
      intro i hi
      have hm : z0.getD i 0 ∈ z0 := by
        rw [List.getD_eq_getElem?_getD, List.getElem?_eq_getElem (by omega)]
        exact List.getElem_mem _
      obtain ⟨g1, g2⟩ := range_u8 (hwf _ hm)
      rw [hbt]
      simp only
      omega
    obtain ⟨b, off, sp⟩ := x
    have h0 := hcell 0 (by omega)
    rw [add_zero] at h0
    obtain ⟨rfl, cs, t, fr, hw, _⟩ := cell_row h0
    have hcs : ∀ i, i < 32 → cs[off + i]? = some (.int .u8 (bt i : Int)) := by
      intro i hi
      have h1 := hcell i (by omega)
      rw [add_row, (hz i hi).1] at h1
      obtain ⟨_, cs', t', fr', hw', h2⟩ := cell_row h1
      rw [hw] at hw'
      cases hw'
      exact h2
    have hrel := rowRel (L := leaves (ls bt)) (cap := cap0) (n := 32) hw (fun k v hv => by
      obtain ⟨hk, rfl⟩ := rowCells_get hv
      refine ⟨_, hcs k hk, ?_⟩
      rw [iv3 rfl]
      show some (Value.int (kindOf 4) (valInt (leaves (ls bt) k))) = _
      rw [ls_byte bt hk]
      rfl)
    refine called_from (c := cfg34) (L := leaves (ls bt)) (leaves_leafy ?_) follows34 ext_ok34 known34 (l := [vsv Path.zero 0 32 0 0]) (xs := [.slice (some ⟨b, off, none⟩) 32 cap0]) hrel ?_ tree (told pairs) (sameFacts ?_) (deads_of (deads bt)) reckoned
    · simp [ls, four, eight, Value.oneCell']
    · refine il_cons.2 ⟨_, _, iv_vsv (b := b) (o := off) (c := cap0) (by simp [rowEnv]) (by simp [rowEnv]) (by omega), il_nil, ?_⟩
      simp
    · have hb : ∀ i, i < 32 → leaves (ls bt) i = .int .u8 (bt i : Int) := fun i hi => ls_byte bt hi
      have hl : ∀ i, i < 32 → bt i < 256 := fun i hi => (hz i hi).2
      intro p hp
      simp only [pairs, List.mem_append] at hp
      rcases hp with hp | hp | hp | hp | hp | hp
      · exact pairs4_ok (hb 0 (by decide)) (hb 1 (by decide)) (hb 2 (by decide)) (hb 3 (by decide)) (hl 0 (by decide)) (hl 1 (by decide)) (hl 2 (by decide)) (hl 3 (by decide)) rfl p hp
      · exact pairs4_ok (hb 4 (by decide)) (hb 5 (by decide)) (hb 6 (by decide)) (hb 7 (by decide)) (hl 4 (by decide)) (hl 5 (by decide)) (hl 6 (by decide)) (hl 7 (by decide)) rfl p hp
      · exact pairs4_ok (hb 8 (by decide)) (hb 9 (by decide)) (hb 10 (by decide)) (hb 11 (by decide)) (hl 8 (by decide)) (hl 9 (by decide)) (hl 10 (by decide)) (hl 11 (by decide)) rfl p hp
      · exact pairs4_ok (hb 12 (by decide)) (hb 13 (by decide)) (hb 14 (by decide)) (hb 15 (by decide)) (hl 12 (by decide)) (hl 13 (by decide)) (hl 14 (by decide)) (hl 15 (by decide)) rfl p hp
      · exact pairs8_ok (hb 16 (by decide)) (hb 17 (by decide)) (hb 18 (by decide)) (hb 19 (by decide)) (hb 20 (by decide)) (hb 21 (by decide)) (hb 22 (by decide)) (hb 23 (by decide)) (hl 16 (by decide)) (hl 17 (by decide)) (hl 18 (by decide)) (hl 19 (by decide)) (hl 20 (by decide)) (hl 21 (by decide)) (hl 22 (by decide)) (hl 23 (by decide)) rfl p hp
      · exact pairs8_ok (hb 24 (by decide)) (hb 25 (by decide)) (hb 26 (by decide)) (hb 27 (by decide)) (hb 28 (by decide)) (hb 29 (by decide)) (hb 30 (by decide)) (hb 31 (by decide)) (hl 24 (by decide)) (hl 25 (by decide)) (hl 26 (by decide)) (hl 27 (by decide)) (hl 28 (by decide)) (hl 29 (by decide)) (hl 30 (by decide)) (hl 31 (by decide)) rfl p hp
  · refine called_cases (c := cfg34) (L := leaves [.slice a0 len0 cap0]) (leaves_leafy rfl) follows34 ext_ok34 known34 (l := [vosl 0]) (xs := [.slice a0 len0 cap0]) rfl w tree2 [] (fun _ h => by cases h) (deads_of ?_) reckoned2
    have e0 : valLen (leaves [.slice a0 len0 cap0] 0) = (len0 : Int) := rfl
    simp only [tree2, DT.deads, List.nil_append, List.append_nil, noneSay, allSay, Fact.says, eval_lit, eval_len, e0]
    refine ⟨?_, trivial⟩
    intro h
    omega

set_option maxRecDepth 100000 in
theorem lifted (os : Os) (started : os.Started) (H : Type) (enc : TypeId × Value → H) :
    ReturnsInHanded {} Try.checked os 4 .any (Rows.commandReadsSpec.pre6 enc Try.prog Try.f4 Rows.commandReadsRow.domain false) (Rows.commandReadsSpec.post enc Try.prog Try.f4 false true false false) := by
  refine returnsInHanded_of_change (C := Try.checked) own started (by kernel_rfl) Try.func4
    (ChangeSpec.witness6 (enc := enc) (C := Try.checked) false ⟨#[], #[.slice none 0 0], []⟩ 8 (by kernel_rfl) (by kernel_rfl) (by kernel_rfl) (by kernel_rfl)) ?_
  intro W base args ds gs before hval0 hW hcnd _
  have hval : ∀ (j : Nat) t v, Try.f4.params[j]? = some t → args[j]? = some v → Value.okWide Try.prog W .any base t v := hval0
  have hW' := hW
  obtain ⟨p, q, hA0, hV, rfl, hfz, hnd⟩ := hW
  have hA : DataW.TrodAll enc Try.prog W 0 (fun _ => true) true Try.f4.params.toList args.toList ds p := hA0
  rw [Try.params4] at hA hval
  obtain ⟨v0, vs0, d0, ds0, p0, q0, hargs, rfl, rfl, h0, r0⟩ := trodAll_cons hA
  obtain ⟨rfl, rfl, rfl⟩ := trodAll_nil r0
  obtain rfl : args = #[v0] := by cases args; simp_all
  obtain ⟨rfl, rfl⟩ := trodVars_none hV
  obtain ⟨a0, len0, cap0, rfl⟩ := okWide_slice Try.underlying32 (hval 0 32 v0 rfl rfl)
  have k0 := h0
  have lt0 : ∀ x ∈ p0, x.block < W.heap.size := by obtain ⟨m, hm⟩ := k0; exact DataW.trod_lt m _ _ _ hm
  obtain ⟨z0, w0⟩ : ∃ zs, IsRow .u8 W a0 len0 cap0 zs := by
    obtain ⟨fuel, hf⟩ := h0
    rcases open_ints Try.underlying32 Try.underlying5 (by kernel_rfl) hf with ⟨hcs, _⟩ | ⟨x, l, c, zs, hcs, _, hl, hm, hz, _, hcell, hwz⟩
    · simp [Value.cells] at hcs
      obtain ⟨rfl, rfl, rfl⟩ := hcs
      exact ⟨[], .inl ⟨rfl, rfl, rfl, rfl⟩⟩
    · simp [Value.cells] at hcs
      obtain ⟨rfl, rfl, rfl⟩ := hcs
      exact ⟨zs, .inr ⟨_, rfl, hl, hm, by simpa using hz, hcell, hwz⟩⟩
  clear hA0 hval0
  refine (walk a0 len0 cap0 z0 W w0).mono fun e W' ⟨he, bel⟩ => ?_
  subst he
  exact ⟨_, rfl, _, _, _, [], _, [], hW', trodAll_mk1 (shut_bool Try.underlying4 _), (trodAll_cons_mk (Below.trod laidOut (by kernel_rfl) (of_decide_eq_true (by kernel_rfl)) k0 bel lt0) trodAll_mk0), rfl, bel.frame _, fun h => by cases h⟩

theorem over : Rows.commandReadsRow.holds Try.pinned (OpenSpec.ofChange Rows.commandReadsSpec) :=
  OpenClaim.holds_of_wide 4 Try.f4 rfl rfl rfl rfl rfl rfl rfl ⟨rfl, rfl, rfl, rfl, rfl⟩ rfl rfl rfl rfl rfl (by as_aux_lemma => kernel_rfl) Try.func4 (by as_aux_lemma => kernel_rfl)
    (of_decide_eq_true (by as_aux_lemma => kernel_rfl)) (by unfold Func.isWrapper; first | (rw [if_pos (by decide +kernel)]; kernel_rfl) | (rw [if_neg (by decide +kernel)]; exact ⟨rfl, rfl⟩))
    (fun os started H enc _ => lifted os started H enc)

theorem proved : Rows.CommandReadsSaid := over
#print axioms proved
end Go.Proofs.Ytginhhjnbimmeaa.commandReads
