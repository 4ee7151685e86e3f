/- Statement RotateSteps: whatever a rotation is told, access by access, each access, and how it ended, is the document's.
   No condition: for every input that can be read. -/
import Derived.Test.YtmcelbemhklhaaaRows
import Derived.Test.YtmcelbemhklhaaaKit
import Derived.Test.YtmcelbemhklhaaaRk15
import Derived.Test.YtmcelbemhklhaaaTerm
import Derived.Test.YtmcelbemhklhaaaPack
import Derived.Test.YtmcelbemhklhaaaCnt
import Derived.Test.YtmcelbemhklhaaaTold
import Derived.Test.YtmcelbemhklhaaaRotA
import Derived.Test.YtmcelbemhklhaaaRotBa
import Derived.Test.YtmcelbemhklhaaaRotBb
import Derived.Test.YtmcelbemhklhaaaRotBc
import Derived.Test.YtmcelbemhklhaaaRotCa
import Derived.Test.YtmcelbemhklhaaaRotCb
import Derived.Test.YtmcelbemhklhaaaRotCc
import Derived.Test.YtmcelbemhklhaaaRotDa
import Derived.Test.YtmcelbemhklhaaaRotDb
import Derived.Test.YtmcelbemhklhaaaRotDc
import Derived.Test.YtmcelbemhklhaaaRotEa
import Derived.Test.YtmcelbemhklhaaaRotEb
import Derived.Test.YtmcelbemhklhaaaRotEc
import Derived.Test.YtmcelbemhklhaaaRotEd
import Derived.ProofKit
import Derived.OpenShut
import Derived.ShutString
import Derived.ChangeOld
import Derived.Below
import Derived.Deep.Fields
import Derived.WideShapes
import Derived.Lib.SmallJoins
namespace Go.Proofs.Ytmcelbemhklhaaa.rotateSteps
open Go.ChangeShapes Go.WideShapes Go.ChangeAt Go.RowKit
open Go.ChangeMaps (open_string shut_string)
set_option linter.unusedVariables false

open Go.Joins Go.Deep
theorem own : ownKnob Try.prog.godebug = none := by kernel_rfl
section
variable {H : Type} {enc : TypeId × Value → H} {P : Program} {w : World} {base : Nat} {spare : Nat → Bool} {held : Bool}
set_option maxRecDepth 100000 in
theorem open_aggs7 {r : Reach} {b0 : Nat} {t : TypeId} {f0 f1 f2 f3 f4 f5 f6 : Field} {v : Value} {d : DataW H} {p : List MemPlace} (hs : P.underlying t = some (.struct #[f0, f1, f2, f3, f4, f5, f6])) (hone : oneCellFields P #[f0, f1, f2, f3, f4, f5, f6] = true) (hC : P.cellsOf t = 7)
    (hv : Value.okWide P w r b0 t v) (h : DataW.Trod enc P w base spare held t v d p) :
    ∃ (c0 c1 c2 c3 c4 c5 c6 : Value) (y0 y1 y2 y3 y4 y5 y6 : DataW H × List MemPlace) (n : Nat), v = .agg #[c0, c1, c2, c3, c4, c5, c6] ∧ DataW.trod enc P w base spare held n f0.type [c0] = some y0 ∧ DataW.trod enc P w base spare held n f1.type [c1] = some y1 ∧ DataW.trod enc P w base spare held n f2.type [c2] = some y2 ∧ DataW.trod enc P w base spare held n f3.type [c3] = some y3 ∧ DataW.trod enc P w base spare held n f4.type [c4] = some y4 ∧ DataW.trod enc P w base spare held n f5.type [c5] = some y5 ∧ DataW.trod enc P w base spare held n f6.type [c6] = some y6 := by
  obtain ⟨cs, rfl, hsz⟩ := okWide_struct hs hv
  obtain ⟨l⟩ := cs
  match l, hsz.trans hC with
  | [c0, c1, c2, c3, c4, c5, c6], _ =>
    obtain ⟨fuel, hf⟩ := h
    obtain ⟨xs, n, _, hx, _, hlen, hg⟩ := DataW.trod_struct hs hf
    obtain ⟨o0, k0⟩ := Go.Deep.hone_of hone 0 f0 rfl
    obtain ⟨o1, k1⟩ := Go.Deep.hone_of hone 1 f1 rfl
    obtain ⟨o2, k2⟩ := Go.Deep.hone_of hone 2 f2 rfl
    obtain ⟨o3, k3⟩ := Go.Deep.hone_of hone 3 f3 rfl
    obtain ⟨o4, k4⟩ := Go.Deep.hone_of hone 4 f4 rfl
    obtain ⟨o5, k5⟩ := Go.Deep.hone_of hone 5 f5 rfl
    obtain ⟨o6, k6⟩ := Go.Deep.hone_of hone 6 f6 rfl
    match xs, hlen with
    | [y0, y1, y2, y3, y4, y5, y6], _ =>
      exact ⟨c0, c1, c2, c3, c4, c5, c6, y0, y1, y2, y3, y4, y5, y6, n, rfl, by simpa [Value.cells, o0, k0] using hg 0 f0 rfl, by simpa [Value.cells, o1, k1] using hg 1 f1 rfl, by simpa [Value.cells, o2, k2] using hg 2 f2 rfl, by simpa [Value.cells, o3, k3] using hg 3 f3 rfl, by simpa [Value.cells, o4, k4] using hg 4 f4 rfl, by simpa [Value.cells, o5, k5] using hg 5 f5 rfl, by simpa [Value.cells, o6, k6] using hg 6 f6 rfl⟩
end
theorem laidOut : laidOutB Try.prog = true := by kernel_rfl

open Go.X Go.Proofs.Ytmcelbemhklhaaa.rk

theorem those_get {f : Nat → Bool} {k : Nat} : ∀ {n : Nat}, those f k n = true → ∀ {i : Nat}, i < n → f (k + i) = true
  | 0, _, i, hi => absurd hi (by omega)
  | n + 1, h, i, hi => by
    obtain ⟨h1, h2⟩ := band_true.1 (show band (those f k n) (f (k + n)) = true from h)
    rcases Nat.lt_or_ge i n with hlt | hge
    · exact those_get h1 hlt
    · obtain rfl : i = n := by omega
      exact h2
theorem four {f : Nat → Bool} (h0 : those f 0 5 = true) (h1 : those f 5 5 = true) (h2 : those f 10 5 = true) (h3 : those f 15 5 = true) {c : Nat} (hc : c < 20) : f c = true := by
  rcases Nat.lt_or_ge c 5 with k | k
  · have := those_get h0 k; rwa [Nat.zero_add] at this
  · rcases Nat.lt_or_ge c 10 with k1 | k1
    · have := those_get h1 (show c - 5 < 5 by omega); rwa [show 5 + (c - 5) = c by omega] at this
    · rcases Nat.lt_or_ge c 15 with k2 | k2
      · have := those_get h2 (show c - 10 < 5 by omega); rwa [show 10 + (c - 10) = c by omega] at this
      · have := those_get h3 (show c - 15 < 5 by omega); rwa [show 15 + (c - 15) = c by omega] at this
theorem all2 {c : Nat} (hc : c < 20) : seg2 c = true := four seg2_0 seg2_5 seg2_10 seg2_15 hc
theorem all3 {c : Nat} (hc : c < 20) : seg3 c = true := four seg3_0 seg3_5 seg3_10 seg3_15 hc
theorem all4a {c : Nat} (hc : c < 20) : seg4a c = true := four seg4a_0 seg4a_5 seg4a_10 seg4a_15 hc
theorem all4b {c : Nat} (hc : c < 20) : seg4b c = true := four seg4b_0 seg4b_5 seg4b_10 seg4b_15 hc
theorem all6a {c : Nat} (hc : c < 20) : seg6a c = true := four seg6a_0 seg6a_5 seg6a_10 seg6a_15 hc
theorem all6b {c : Nat} (hc : c < 20) : seg6b c = true := four seg6b_0 seg6b_5 seg6b_10 seg6b_15 hc
theorem b_all : ∀ b, segB b = true | true => bT | false => bF
theorem o_all : ∀ b, segO b = true | true => oT | false => oF
theorem z_all : ∀ b, segZ b = true | true => zT | false => zF
theorem slots87 : Try.f3.ntmps = 87 := by kernel_rfl
theorem has_body : Try.f3.body.isSome = true := by kernel_rfl
theorem has_loop : hasLoop body = true := by kernel_rfl
theorem loop_id : loopId body = 0 := by kernel_rfl

/-! Leaves: all but 16 to 19 stay what they are. -/

def fixedLeaf (j : Nat) : Bool := Nat.blt j 16 || (Nat.ble 20 j && Nat.blt j 1000)
def okI : IE → Bool
  | .lit _ => true
  | .leaf j => fixedLeaf j
  | .len j => fixedLeaf j
  | .bin _ _ a b => okI a && okI b
  | .conv _ a => okI a
  | .shl _ a _ => okI a
  | .shr a _ => okI a
def Agree (L L0 : Nat → Value) : Prop := ∀ j, fixedLeaf j = true → L j = L0 j
theorem eval_ok {L L0 : Nat → Value} (h : Agree L L0) : ∀ {x : IE}, okI x = true → x.eval L = x.eval L0 := by
  intro x
  induction x with
  | lit => intro _; rfl
  | leaf j => intro hx; show valInt (L j) = valInt (L0 j); rw [h j hx]
  | len j => intro hx; show valLen (L j) = valLen (L0 j); rw [h j hx]
  | bin o k a b iha ihb => intro hx; simp only [okI, Bool.and_eq_true] at hx; simp only [IE.eval, iha hx.1, ihb hx.2]
  | conv k a iha => intro hx; simp only [IE.eval, iha hx]
  | shl k a m iha => intro hx; simp only [IE.eval, iha hx]
  | shr a m iha => intro hx; simp only [IE.eval, iha hx]
def FOk (fs : List Fact) : Prop := ∀ f ∈ fs, okI f.a = true ∧ okI f.b = true
theorem facts_ok {L L0 : Nat → Value} (h : Agree L L0) {fs : List Fact} (hb : FOk fs) (hF : FactsOk L0 fs) : FactsOk L fs := fun f hf => by
  obtain ⟨g, hg, hr⟩ := hF f hf
  exact ⟨g, hg, by rw [eval_ok h (hb f hf).1, eval_ok h (hb f hf).2]; exact hr⟩
theorem fok_cons {f : Fact} {fs : List Fact} (h1 : okI f.a = true) (h2 : okI f.b = true) (h : FOk fs) : FOk (f :: fs) := fun q hq => by
  rcases List.mem_cons.1 hq with rfl | hq
  · exact ⟨h1, h2⟩
  · exact h q hq
theorem fok_of {fs : List Fact} (h : fs.all (fun f => okI f.a && okI f.b) = true) : FOk fs := fun f hf => by
  have := List.all_eq_true.1 h f hf
  simpa using this
theorem fok_go : FOk goF := fok_of (by kernel_rfl)
theorem fok_may : FOk mayF := fok_of (by kernel_rfl)
theorem fok_old (k : Nat) (hk : k ≤ 100) (b : Bool) {fs : List Fact} (h : FOk fs) : FOk (oldF k b :: fs) :=
  fok_cons (by show fixedLeaf (220 + 3 * k) = true; unfold fixedLeaf; simp; omega) (by kernel_rfl) h
theorem fok_tail : ∀ c, c ≤ 40 → FOk (tailF c)
  | 0, _ => fok_cons (by kernel_rfl) (by kernel_rfl) fok_go
  | c + 1, h => fok_old _ (by omega) _ (fok_tail c (by omega))
theorem fok_cas {c : Nat} (h : c ≤ 40) (b : Bool) : FOk (casF c b) := fok_old _ (by omega) _ (fok_tail c h)

theorem off_th {th : List (Nat × V)} {X L L0 : Nat → Value} (h : th.all (fun q => Nat.ble 16 q.1 && Nat.blt q.1 20) = true) (ha : Agree L L0) {L2 : Nat → Value} (h2 : ∀ j, j < 1000 → L2 j = Lth th X L j) : Agree L2 L0 := fun j hj => by
  have hj' : j < 1000 ∧ (j < 16 ∨ 20 ≤ j) := by
    unfold fixedLeaf at hj
    simp at hj
    omega
  rw [h2 j hj'.1, ← ha j hj]
  unfold Lth
  cases hq : thGet th j with
  | none => rfl
  | some u =>
    have := List.all_eq_true.1 h _ (thGet_mem hq)
    simp at this
    omega

theorem unpack_hook {c : Cfg} {g : Nat} {l : List KnownV} {L : Nat → Value} (hc : c.hook = hookR g l) (ht : enterTest c.P g = true) (hg : ∀ w, Calls c.P g #[] w fun en w' => en = .returned (.bool true) ∧ Below w.heap.size w w') (hl : ∀ k ∈ l, k.Ok L c.P)
    (he1 : enterTest c.P 46 = true) (he2 : enterTest c.P 27 = true)
    (hu1 : ∀ j, 20 ≤ j → j < 143 → ∀ w, Calls c.P 46 #[.int .u64 (valInt (L j))] w fun en w' => en = .returned (.tuple #[.int .i32 (valInt (L (200 + j))), .int .u32 (valInt (L (400 + j)))]) ∧ w = w')
    (hu2 : ∀ j, 20 ≤ j → j < 143 → ∀ w, Calls c.P 27 #[.int .u64 (valInt (L j))] w fun en w' => en = .returned (.tuple #[.int .i32 (valInt (L (200 + j))), .int .u32 (valInt (L (400 + j)))]) ∧ w = w') : HookOk L c := by
  intro F w0 f args s v s' xs e w h hx hr
  rw [hc] at h
  unfold hookR at h
  rw [sel_eq] at h
  split at h
  · rename_i hf
    unfold unpackOf at h
    split at h
    · rename_i u
      obtain ⟨h1, h⟩ := chk_some.1 h
      obtain ⟨h3, h7⟩ := band_true.1 h1
      split at h
      · rename_i j hj
        obtain ⟨h2, h⟩ := chk_some.1 h
        obtain ⟨g1, g2⟩ := band_true.1 h2
        have g1 := ble_true.1 g1
        have g2 := blt_true.1 g2
        cases h
        obtain ⟨x, y, hx1, hy, rfl⟩ := il_cons.1 hx
        rw [il_nil] at hy
        cases hy
        rw [iv3 (V.is_true.1 h3), beq_true.1 h7, hj] at hx1
        cases hx1
        have hres : ∀ e', iv L e' (vtup [vx 2 (.leaf (200 + j)), vx 6 (.leaf (400 + j))]) = some (.tuple #[.int .i32 (valInt (L (200 + j))), .int .u32 (valInt (L (400 + j)))]) := fun e' => iv_vtup (il_cons.2 ⟨_, _, iv3 rfl, il_cons.2 ⟨_, _, iv3 rfl, il_nil, rfl⟩, rfl⟩)
        simp only [Bool.or_eq_true, Go.X.beq_true] at hf
        rcases hf with rfl | rfl
        · refine ⟨enter_run he1 _ _, fun R hR => (hu1 j g1 g2 w).mono fun en w' ⟨hen, hw⟩ => ?_⟩
          subst hen hw
          exact hR e _ w (Ext.refl _ _) (hres e) hr
        · refine ⟨enter_run he2 _ _, fun R hR => (hu2 j g1 g2 w).mono fun en w' ⟨hen, hw⟩ => ?_⟩
          subst hen hw
          exact hR e _ w (Ext.refl _ _) (hres e) hr
      · cases h
    · cases h
  · exact hookOk_V (c := { P := c.P, ext := c.ext, hook := knowsV g l, facts := c.facts }) rfl ht hg hl F w0 f args s v s' xs e w h hx hr

/-- What was told at these places: it was told, and swaps were done, or not. -/
def PathOk (g : Nat → Nat → Value) (len : Nat) (P : List (Nat × Nat)) : Prop := ∀ q ∈ P, q.1 < len ∧ (q.2 = 0 ∨ (q.2 = 1 ∧ g q.1 1 = .bool true) ∨ (q.2 = 2 ∧ g q.1 1 = .bool false))
theorem path_cons {g : Nat → Nat → Value} {len : Nat} {q : Nat × Nat} {P : List (Nat × Nat)} (h1 : q.1 < len) (h2 : q.2 = 0 ∨ (q.2 = 1 ∧ g q.1 1 = .bool true) ∨ (q.2 = 2 ∧ g q.1 1 = .bool false)) (h : PathOk g len P) : PathOk g len (q :: P) := fun p hp => by
  rcases List.mem_cons.1 hp with rfl | hp
  · exact ⟨h1, h2⟩
  · exact h p hp

/-- The loop's head. -/
def Head (bt : Bool) (w0 : World) (L0 : Nat → Value) (g : Nat → Nat → Value) (len : Nat) (m : Nat) (a : Act) (w : World) : Prop :=
  ∃ (L : Nat → Value) (e : Env) (C : Canon), Leafy L ∧ Agree L L0 ∧ e.low = w0.heap.size ∧ ARel L e C.tm 87 a ∧ Rel L (fun b => b < w0.heap.size) w0 e C.st w ∧
    ((bt = true ∧ FactsOk L0 goF ∧ C = st0 (num 0) mClean ∧ m = len + 2) ∨
     (∃ c : Nat, bt = true ∧ 1 + 2 * c ≤ len ∧ PathOk g len (tailP c) ∧ FactsOk L0 (tailF c) ∧ C = st0 (num (1 + 2 * c)) mTail ∧ m = len + 2 - (1 + 2 * c)) ∨
     (∃ c : Nat, bt = true ∧ 2 + 2 * c ≤ len ∧ PathOk g len (casP c) ∧ FactsOk L0 (casF c true) ∧ C = st0 (num (2 + 2 * c)) (mCas (1 + 2 * c)) ∧ m = len + 2 - (2 + 2 * c)) ∨
     (∃ (i : Nat) (P : List (Nat × Nat)) (fs : List Fact), bt = true ∧ i ≤ len ∧ PathOk g len P ∧ FOk fs ∧ FactsOk L0 fs ∧ seg4 i P fs = true ∧ idle (mEnd V.T 0) ((i, 1) :: P) (i + 1) fs = true ∧ idle (mEnd V.F 0) ((i, 2) :: P) (i + 1) fs = true ∧ C = st0 (num i) mAct ∧ m = len + 2 - i) ∨
     (∃ (i : Nat) (mm : List CO) (P : List (Nat × Nat)) (n : Nat) (fs : List Fact), bt = true ∧ n ≤ i ∧ i ≤ len ∧ idle mm P n fs = true ∧ PathOk g len P ∧ FOk fs ∧ FactsOk L0 fs ∧ L 16 = .int .i64 (i : Int) ∧ C = st0 leafI mm ∧ m = len + 2 - i) ∨
     (∃ i : Nat, (bt = true → ¬ FactsOk L0 mayF) ∧ i ≤ len ∧ L 16 = .int .i64 (i : Int) ∧ C = st0 leafI (mEnd V.F 1) ∧ m = len + 2 - i) ∨
     (∃ i : Nat, len < i ∧ L 16 = .int .i64 (i : Int) ∧ C = out leafI ∧ m = 0))

theorem past_ok {L : Nat → Value} {i : Nat} (h : valInt (L 16) = i) : ∀ n, n ≤ i → FactsOk L (pastF n)
  | 0, _ => factsOk_cons ⟨ltF, rfl, by show ltF (valInt (L 16)) 0 = false; rw [ltF_eq, h]; simp⟩ fun _ h => by cases h
  | n + 1, hn => factsOk_cons ⟨ltF, rfl, by show ltF (Int.ofNat n) (valInt (L 16)) = true; rw [ltF_eq, h]; simp; omega⟩ (past_ok h n (by omega))

/-- All leaves, from the beginning. -/
def toldV (g : Nat → Nat → Value) (len : Nat) (j : Nat) : Value := if (j - 20) / 3 < len then g ((j - 20) / 3) ((j - 20) % 3) else .bool true
def allLeaves (l : List Value) (g : Nat → Nat → Value) (len : Nat) (j : Nat) : Value :=
  if j < 20 then (l[j]?).getD (.bool true) else if j < 143 then toldV g len j else if 220 ≤ j ∧ j < 343 then .int .i32 (upT (valInt (toldV g len (j - 200)))) else if 420 ≤ j ∧ j < 543 then .int .u32 (upO (valInt (toldV g len (j - 400)))) else .bool true

set_option linter.unusedSimpArgs false in
set_option maxRecDepth 100000 in
theorem walk (a0_0 a0_1 a0_2 a0_3 a0_4 a0_5 a0_6 a1 : Int) (p : Option Addr) (len cap : Nat) (g : Nat → Nat → Value) (w : World) (w0_0 : (Lit.int .i64 a0_0).wf = true) (w0_1 : (Lit.int .i64 a0_1).wf = true) (w0_2 : (Lit.int .i64 a0_2).wf = true) (w0_3 : (Lit.int .i64 a0_3).wf = true) (w0_4 : (Lit.int .i32 a0_4).wf = true) (w0_5 : (Lit.int .i32 a0_5).wf = true) (w0_6 : (Lit.int .i32 a0_6).wf = true) (w1 : (Lit.int .i32 a1).wf = true)
    (ht : Go.X.Told w p len cap g) (hmax : len ≤ maxLen) (hg : ∀ k, k < len → (∃ v, g k 0 = .int .u64 v ∧ (Lit.int .u64 v).wf = true) ∧ (∃ b, g k 1 = .bool b) ∧ ∃ p n c, g k 2 = .slice p n c) :
    Calls Try.prog 3 #[.agg #[.int .i64 a0_0, .int .i64 a0_1, .int .i64 a0_2, .int .i64 a0_3, .int .i32 a0_4, .int .i32 a0_5, .int .i32 a0_6], .int .i32 a1, .slice p len cap] w fun e w' => e = .returned (.bool true) ∧ Below w.heap.size w w' := by
  obtain ⟨l1, u1⟩ := range_i64 w0_1
  obtain ⟨l4, u4⟩ := range_i32 w0_4
  obtain ⟨l8, u8⟩ := range_i32 w1
  have hone : ∀ k j, k < len → j < 3 → (g k j).oneCell' = true := fun k j hk hj => by
    obtain ⟨⟨v, h0, _⟩, ⟨b, h1⟩, q, n, c, h2⟩ := hg k hk
    have : j = 0 ∨ j = 1 ∨ j = 2 := by omega
    rcases this with rfl | rfl | rfl
    · rw [h0]; rfl
    · rw [h1]; rfl
    · rw [h2]; rfl
  have hnum2 : ∀ k j, k < len → j < 3 → 0 ≤ valInt (g k j) ∧ valInt (g k j) ≤ 18446744073709551615 := fun k j hk hj => by
    obtain ⟨⟨v, h0, hw⟩, ⟨b, h1⟩, q, n, c, h2⟩ := hg k hk
    have : j = 0 ∨ j = 1 ∨ j = 2 := by omega
    rcases this with rfl | rfl | rfl
    · rw [h0]; exact range_u64 hw
    · rw [h1]; exact ⟨(by show (0 : Int) ≤ 0; decide), (by show (0 : Int) ≤ 18446744073709551615; decide)⟩
    · rw [h2]; exact ⟨(by show (0 : Int) ≤ 0; decide), (by show (0 : Int) ≤ 18446744073709551615; decide)⟩
  let ls : List Value := [.int .i64 a0_0, .int .i64 a0_1, .int .i64 a0_2, .int .i64 a0_3, .int .i32 a0_4, .int .i32 a0_5, .int .i32 a0_6, .slice p len cap, .int .i32 a1, .int .u32 (cntI a1 a0_4), .int .u64 (pkI (IntKind.wrap .i32 (a1 + 1)) 0)]
  have hls : ls.all (fun v => v.oneCell') = true := rfl
  have hL : Leafy (allLeaves ls g len) := fun j => by
    have told : ∀ j, (toldV g len j).oneCell' = true := fun j => by
      unfold toldV
      split
      · rename_i h; exact hone _ _ h (Nat.mod_lt _ (by decide))
      · rfl
    unfold allLeaves
    split
    · cases hq : ls[j]? with
      | none => rfl
      | some v => exact List.all_eq_true.1 hls v (List.mem_of_getElem? hq)
    · split
      · exact told j
      · split
        · rfl
        · split <;> rfl
  have e1 : allLeaves ls g len 1 = .int .i64 a0_1 := rfl
  have e4 : allLeaves ls g len 4 = .int .i32 a0_4 := rfl
  have e7 : allLeaves ls g len 7 = .slice p len cap := rfl
  have e8 : allLeaves ls g len 8 = .int .i32 a1 := rfl
  have e9 : allLeaves ls g len 9 = .int .u32 (cntI a1 a0_4) := rfl
  have e10 : allLeaves ls g len 10 = .int .u64 (pkI (IntKind.wrap .i32 (a1 + 1)) 0) := rfl
  have etold : ∀ k j, k < len → k ≤ 40 → j < 3 → allLeaves ls g len (20 + 3 * k + j) = g k j := fun k j hk hk40 hj => by
    unfold allLeaves
    rw [if_neg (show ¬ 20 + 3 * k + j < 20 by omega), if_pos (show 20 + 3 * k + j < 143 by omega)]
    unfold toldV
    rw [if_pos (show (20 + 3 * k + j - 20) / 3 < len by omega)]
    congr 1 <;> omega
  have erange : ∀ j, 20 ≤ j → j < 143 → 0 ≤ valInt (allLeaves ls g len j) ∧ valInt (allLeaves ls g len j) ≤ 18446744073709551615 := fun j h1 h2 => by
    unfold allLeaves
    rw [if_neg (show ¬ j < 20 by omega), if_pos h2]
    unfold toldV
    split
    · rename_i h; exact hnum2 _ _ h (Nat.mod_lt _ (by decide))
    · exact ⟨by decide, by decide⟩
  have eT : ∀ j, 20 ≤ j → j < 143 → allLeaves ls g len (200 + j) = .int .i32 (upT (valInt (allLeaves ls g len j))) ∧ allLeaves ls g len (400 + j) = .int .u32 (upO (valInt (allLeaves ls g len j))) := fun j h1 h2 => by
    unfold allLeaves
    rw [if_neg (show ¬ 200 + j < 20 by omega), if_neg (show ¬ 200 + j < 143 by omega), if_pos (show 220 ≤ 200 + j ∧ 200 + j < 343 by omega), if_neg (show ¬ j < 20 by omega), if_pos h2,
      if_neg (show ¬ 400 + j < 20 by omega), if_neg (show ¬ 400 + j < 143 by omega), if_neg (show ¬ (220 ≤ 400 + j ∧ 400 + j < 343) by omega), if_pos (show 420 ≤ 400 + j ∧ 400 + j < 543 by omega)]
    rw [show 200 + j - 200 = j by omega, show 400 + j - 400 = j by omega]
    exact ⟨rfl, rfl⟩
  have hil : il (allLeaves ls g len) (env0 w) args = some [.agg #[.int .i64 a0_0, .int .i64 a0_1, .int .i64 a0_2, .int .i64 a0_3, .int .i32 a0_4, .int .i32 a0_5, .int .i32 a0_6], .int .i32 a1, .slice p len cap] :=
    il_cons.2 ⟨_, _, rfl, il_cons.2 ⟨_, _, rfl, il_cons.2 ⟨_, _, told_iv ht e7, il_nil, rfl⟩, rfl⟩, rfl⟩
  generalize allLeaves ls g len = L0 at hL e1 e4 e7 e8 e9 e10 etold erange eT hil
  clear hls
  -- what calls are known to answer
  have hknown : ∀ L, Agree L L0 → HookOk L (cfgR (isT a0_1)) := fun L hag => by
    have f1 : IE.eval L (.leaf 1) = a0_1 := by show valInt (L 1) = _; rw [hag 1 rfl, e1]; rfl
    have f4 : IE.eval L (.leaf 4) = a0_4 := by show valInt (L 4) = _; rw [hag 4 rfl, e4]; rfl
    have f8 : IE.eval L (.leaf 8) = a1 := by show valInt (L 8) = _; rw [hag 8 rfl, e8]; rfl
    have hnx : IE.eval L next = IntKind.wrap .i32 (a1 + 1) := by unfold next; rw [eval_add, f8, eval_lit]
    have hw := wrap_i32 (a1 + 1)
    have ag : ∀ j, 20 ≤ j → j < 143 → L j = L0 j ∧ L (200 + j) = L0 (200 + j) ∧ L (400 + j) = L0 (400 + j) := fun j h1 h2 => by
      refine ⟨hag _ ?_, hag _ ?_, hag _ ?_⟩ <;> (unfold fixedLeaf; simp; omega)
    refine unpack_hook rfl (by kernel_rfl) fixed15_true (fun k hk => ?_) (by kernel_rfl) (by kernel_rfl) (fun j h1 h2 w => ?_) (fun j h1 h2 w => ?_)
    · simp only [asked, List.mem_cons, List.not_mem_nil, or_false] at hk
      rcases hk with rfl | rfl | rfl | rfl | rfl | rfl
      · refine ⟨by kernel_rfl, .bool (isT a0_1), fun e => iv_vb _, fun w => ?_⟩
        show Calls Try.prog _ #[.int .i64 (IE.eval L (.leaf 1))] w _
        rw [f1]
        exact (isTerm_any a0_1 w l1 u1).mono fun en w' ⟨h1, h2⟩ => ⟨h1, h2 ▸ Below.refl _ _⟩
      · refine ⟨by kernel_rfl, .bool (isT a0_1), fun e => iv_vb _, fun w => ?_⟩
        show Calls Try.prog _ #[.int .i64 (IE.eval L (.leaf 1))] w _
        rw [f1]
        exact (risTerm_any a0_1 w l1 u1).mono fun en w' ⟨h1, h2⟩ => ⟨h1, h2 ▸ Below.refl _ _⟩
      · refine ⟨by kernel_rfl, .int .u32 (cntI a1 a0_4), fun e => by rw [iv3 rfl]; show some (Value.int .u32 (valInt (L 9))) = _; rw [hag 9 rfl, e9]; rfl, fun w => ?_⟩
        show Calls Try.prog _ #[.int .i32 (IE.eval L (.leaf 8)), .int .i32 (IE.eval L (.leaf 4))] w _
        rw [f8, f4]
        exact (count_any a1 a0_4 w).mono fun en w' ⟨h1, h2⟩ => ⟨h1, h2 ▸ Below.refl _ _⟩
      · refine ⟨by kernel_rfl, .int .u32 (cntI a1 a0_4), fun e => by rw [iv3 rfl]; show some (Value.int .u32 (valInt (L 9))) = _; rw [hag 9 rfl, e9]; rfl, fun w => ?_⟩
        show Calls Try.prog _ #[.int .i32 (IE.eval L (.leaf 8)), .int .i32 (IE.eval L (.leaf 4))] w _
        rw [f8, f4]
        exact (rcount_any a1 a0_4 w l8 u8 l4 u4).mono fun en w' ⟨h1, h2⟩ => ⟨h1, h2 ▸ Below.refl _ _⟩
      · refine ⟨by kernel_rfl, .int .u64 (pkI (IntKind.wrap .i32 (a1 + 1)) 0), fun e => by rw [iv3 rfl]; show some (Value.int .u64 (valInt (L 10))) = _; rw [hag 10 rfl, e10]; rfl, fun w => ?_⟩
        show Calls Try.prog _ #[.int .i32 (IE.eval L next), .int .u32 0] w _
        rw [hnx]
        exact (pack_any (IntKind.wrap .i32 (a1 + 1)) 0 w (by omega) (by omega)).mono fun en w' ⟨h1, h2⟩ => ⟨h1, h2 ▸ Below.refl _ _⟩
      · refine ⟨by kernel_rfl, .int .u64 (pkI (IntKind.wrap .i32 (a1 + 1)) 0), fun e => by rw [iv3 rfl]; show some (Value.int .u64 (valInt (L 10))) = _; rw [hag 10 rfl, e10]; rfl, fun w => ?_⟩
        show Calls Try.prog _ #[.int .i32 (IE.eval L next), .int .u32 0] w _
        rw [hnx]
        exact (rpack_any (IntKind.wrap .i32 (a1 + 1)) 0 w (by omega) (by omega) (by omega) (by omega)).mono fun en w' ⟨h1, h2⟩ => ⟨h1, h2 ▸ Below.refl _ _⟩
    · obtain ⟨k1, k2, k3⟩ := ag j h1 h2
      obtain ⟨q1, q2⟩ := eT j h1 h2
      obtain ⟨r1, r2⟩ := erange j h1 h2
      rw [k1, k2, k3, q1, q2]
      exact unpack_any _ w r1 r2
    · obtain ⟨k1, k2, k3⟩ := ag j h1 h2
      obtain ⟨q1, q2⟩ := eT j h1 h2
      obtain ⟨r1, r2⟩ := erange j h1 h2
      rw [k1, k2, k3, q1, q2]
      exact runpack_any _ w r1 r2
  generalize isT a0_1 = bt at hknown
  have hlen7 : ∀ L : Nat → Value, Agree L L0 → IE.eval L (.len 7) = len := fun L hag => by
    show valLen (L 7) = _
    rw [hag 7 rfl, e7]; rfl
  -- places that were told already
  have hgive : len ≤ 40 → ∀ (L : Nat → Value), Agree L L0 → ∀ (P : List (Nat × Nat)), PathOk g len P → ∀ q ∈ P, GivOk L (fun b => b < w.heap.size) w w.heap.size (toldK q) := fun h40 L hag P hP q hq => by
    obtain ⟨h1, h2⟩ := hP q hq
    refine given_told (cells := fun _ => [vx 7 (.leaf (20 + 3 * q.1)), sel (Nat.beq q.2 0) (vo (21 + 3 * q.1)) (vb (Nat.beq q.2 1)), vo (22 + 3 * q.1)]) (q := (q.1, .lit (.ofNat q.1))) ht (by rw [hag 7 rfl, e7]) (i := q.1) h1 (fun L' _ => rfl) (by show 3 ≤ 3; omega) fun t v hv L' e' hag' => ?_
    have fx : ∀ t, t < 3 → L' (20 + 3 * q.1 + t) = g q.1 t := fun t ht => by
      rw [hag' _ (by omega), hag _ (by unfold fixedLeaf; simp; omega), etold _ _ h1 (by omega) ht]
    have ht3 : t < 3 := (List.getElem?_eq_some_iff.1 hv).1
    have : t = 0 ∨ t = 1 ∨ t = 2 := by omega
    rcases this with rfl | rfl | rfl
    · cases hv
      rw [iv3 rfl]
      obtain ⟨⟨z, hz, _⟩, _⟩ := hg q.1 h1
      show some (Value.int .u64 (valInt (L' (20 + 3 * q.1)))) = _
      rw [show L' (20 + 3 * q.1) = g q.1 0 from fx 0 (by omega), hz]
      rfl
    · have hv : sel (Nat.beq q.2 0) (vo (21 + 3 * q.1)) (vb (Nat.beq q.2 1)) = v := by simpa using hv
      subst hv
      rcases h2 with h2 | ⟨h2, h3⟩ | ⟨h2, h3⟩
      · rw [h2]
        show iv L' e' (vo (21 + 3 * q.1)) = _
        rw [iv17 rfl]
        show some (L' (21 + 3 * q.1)) = _
        rw [show 21 + 3 * q.1 = 20 + 3 * q.1 + 1 by omega, fx 1 (by omega)]
      · rw [h2, h3]; exact iv1 rfl
      · rw [h2, h3]; exact iv0 rfl
    · cases hv
      rw [iv17 rfl]
      show some (L' (22 + 3 * q.1)) = _
      rw [show 22 + 3 * q.1 = 20 + 3 * q.1 + 2 by omega, fx 2 (by omega)]
  have hX : ∀ i, Leafy (fun j => if i < len ∧ j - 17 < 3 then g i (j - 17) else .bool true) := fun i j => by
    show (if i < len ∧ j - 17 < 3 then g i (j - 17) else Value.bool true).oneCell' = true
    split
    · rename_i h; exact hone _ _ h.1 h.2
    · rfl
  have hhere : ∀ (L : Nat → Value), Agree L L0 → ∀ i : Nat, i < len → L 16 = .int .i64 (i : Int) → GivOk (Lth thH (fun j => if i < len ∧ j - 17 < 3 then g i (j - 17) else .bool true) L) (fun b => b < w.heap.size) w w.heap.size here := fun L hag i hi h16 => by
    refine given_told (cells := fun _ => [vo 17, vo 18, vo 19]) (q := (0, .leaf 16)) ht (by show L 7 = _; rw [hag 7 rfl, e7]) (i := i) hi (fun L' hag' => ?_) (by show 3 ≤ 3; omega) fun t v hv L' e' hag' => ?_
    · show valInt (L' 16) = _
      rw [hag' 16 (by omega)]
      show valInt (L 16) = _
      rw [h16]; rfl
    · have ht3 : t < 3 := (List.getElem?_eq_some_iff.1 hv).1
      have : t = 0 ∨ t = 1 ∨ t = 2 := by omega
      rcases this with rfl | rfl | rfl
      · cases hv; rw [iv17 rfl]; show some (L' 17) = _; rw [hag' 17 (by omega)]; show some (if i < len ∧ 17 - 17 < 3 then g i (17 - 17) else _) = _; rw [if_pos ⟨hi, by omega⟩]
      · cases hv; rw [iv17 rfl]; show some (L' 18) = _; rw [hag' 18 (by omega)]; show some (if i < len ∧ 18 - 17 < 3 then g i (18 - 17) else _) = _; rw [if_pos ⟨hi, by omega⟩]
      · cases hv; rw [iv17 rfl]; show some (L' 19) = _; rw [hag' 19 (by omega)]; show some (if i < len ∧ 19 - 17 < 3 then g i (19 - 17) else _) = _; rw [if_pos ⟨hi, by omega⟩]
  refine law_of (N := 87) Try.func3 has_body hil slots87 (by decide) (by decide) fun a ha => ?_
  show wps Try.prog _ _ body a w
  rw [takeDrop has_loop, wps_append]
  let Q : Exit → Act → World → Prop := lawPost Try.prog Try.f3 w
  have one1 : Leafy (fun _ => Value.bool true) := fun _ => rfl
  have fol : (cfgR bt).P.follows .mixedOrders = true := follows
  have ext1 : ExtOk (cfgR bt) := extOk_of exts rfl exts_ok
  -- behind the loop
  have hrest : ∀ (L : Nat → Value) (e : Env) (a' : Act) (w' : World), Leafy L → Agree L L0 → e.low = w.heap.size → ARel L e nothing.tm 87 a' → Rel L (fun b => b < w.heap.size) w e nothing.st w' → wps Try.prog (Q .normal) Q (loopRest body) a' w' :=
    fun L e a' w' hLf hag hlow har hrr => SG.sound (fn := Try.f3) (n := 60) one1 hLf fol ext1 (hknown L hag) har hrr (.fin 1) [] (z_all bt) (fun _ h => by cases h)
      fun _ a2 w2 e2 s2 hd hrun hr2 => post_fin hd hrun hr2
  have moreOk : ∀ (L1 : Nat → Value), Agree L1 L0 → ∀ i, i < len → FactsOk L1 (moreF i) := fun L1 hag1 i hi => factsOk_of rfl ⟨by show (Int.ofNat i : Int) < IE.eval L1 (.len 7); rw [hlen7 L1 hag1]; simp; omega, by show (Int.ofNat i : Int) ≤ IE.eval L1 (.len 7); rw [hlen7 L1 hag1]; simp; omega, trivial⟩
  have lastOk : ∀ (L1 : Nat → Value), Agree L1 L0 → FactsOk L1 (lastF len) := fun L1 hag1 => factsOk_of rfl ⟨by show IE.eval L1 (.len 7) ≤ (Int.ofNat len : Int); rw [hlen7 L1 hag1]; simp, by show (Int.ofNat len : Int) ≤ IE.eval L1 (.len 7); rw [hlen7 L1 hag1]; simp, trivial⟩
  have moreLOk : ∀ (L1 : Nat → Value), Agree L1 L0 → ∀ i : Nat, L1 16 = .int .i64 (i : Int) → i < len → FactsOk L1 moreL := fun L1 hag1 i h16 hi => factsOk_of rfl ⟨by show valInt (L1 16) < IE.eval L1 (.len 7); rw [hlen7 L1 hag1, h16]; show (i : Int) < len; omega, by show valInt (L1 16) ≤ IE.eval L1 (.len 7); rw [hlen7 L1 hag1, h16]; show (i : Int) ≤ len; omega, trivial⟩
  have lastLOk : ∀ (L1 : Nat → Value), Agree L1 L0 → L1 16 = .int .i64 (len : Int) → FactsOk L1 lastL := fun L1 hag1 h16 => factsOk_of rfl ⟨by show IE.eval L1 (.len 7) ≤ valInt (L1 16); rw [hlen7 L1 hag1, h16]; exact Int.le_refl _, by show valInt (L1 16) ≤ IE.eval L1 (.len 7); rw [hlen7 L1 hag1, h16]; exact Int.le_refl _, trivial⟩
  -- what ends come to
  let Hd := fun (G : SG) (K : Act → World → Prop) (Qx : Exit → Act → World → Prop) (L1 : Nat → Value) (fs : List Fact) => G.Holds (fun _ => Value.bool true) L1 (fun b => b < w.heap.size) w w.heap.size Try.prog Try.f3 87 (Exit.then K Qx) fs
  have toOk : ∀ (i : Nat) (m : List CO) (K : Act → World → Prop) (Qx : Exit → Act → World → Prop) (L1 : Nat → Value) (fs : List Fact), Agree L1 L0 → (FactsOk L1 fs → ∀ L2 e2 a2 w2, Leafy L2 → Agree L2 L0 → e2.low = w.heap.size → ARel L2 e2 (st0 (num i) m).tm 87 a2 → Rel L2 (fun b => b < w.heap.size) w e2 (st0 (num i) m).st w2 → K a2 w2) → Hd (to i m) K Qx L1 fs :=
    fun i m K Qx L1 fs hag h hF => ⟨fun _ h => by (cases h), fun L2 e2 a2 w2 h2 hl2 hlow2 har2 hrr2 => h hF L2 e2 a2 w2 hl2 (off_th rfl hag h2) hlow2 har2 hrr2⟩
  have idleOk : ∀ (i : Nat) (m : List CO) (K : Act → World → Prop) (Qx : Exit → Act → World → Prop) (L1 : Nat → Value) (fs : List Fact), Agree L1 L0 → (FactsOk L1 fs → ∀ L2 e2 a2 w2, Leafy L2 → Agree L2 L0 → e2.low = w.heap.size → L2 16 = .int .i64 (i : Int) → ARel L2 e2 (st0 leafI m).tm 87 a2 → Rel L2 (fun b => b < w.heap.size) w e2 (st0 leafI m).st w2 → K a2 w2) → Hd (toIdle i m) K Qx L1 fs :=
    fun i m K Qx L1 fs hag h hF => ⟨fun _ h => by (cases h), fun L2 e2 a2 w2 h2 hl2 hlow2 har2 hrr2 => h hF L2 e2 a2 w2 hl2 (off_th rfl hag h2) hlow2 (by rw [h2 16 (by omega)]; rfl) har2 hrr2⟩
  have next16 : ∀ (L1 : Nat → Value) (i : Nat), L1 16 = .int .i64 (i : Int) → i ≤ 40 → Lth [(16, nextL)] (fun _ => Value.bool true) L1 16 = .int .i64 ((i + 1 : Nat) : Int) := fun L1 i h16 hi => by
    show (Value.int .i64 (IE.eval L1 (.bin .add .i64 (.leaf 16) (.lit 1)))) = _
    rw [eval_add, eval_lit]
    show Value.int .i64 (IntKind.wrap .i64 (valInt (L1 16) + 1)) = _
    rw [h16]
    show Value.int .i64 (IntKind.wrap .i64 ((i : Int) + 1)) = _
    have h5 : IntKind.wrap .i64 ((i : Int) + 1) = ((i + 1 : Nat) : Int) := by rw [wrap_i64]; omega
    rw [h5]
  have hloop : len ≤ 40 → ∀ m a' w', Head bt w L0 g len m a' w' → wps Try.prog (Q .normal) Q (.block (loopId body) (.loop (loopBody body)) :: loopRest body) a' w' := fun h40 m a' w' hI => by
    refine wps_loop (Head bt w L0 g len) hI fun m a' w' ⟨L, e, C, hLf, hag, hlow, har, hrr, hk⟩ => ?_
    let K := fun (a' : Act) (w' : World) => ∃ m', m' < m ∧ Head bt w L0 g len m' a' w'
    let Qx := atExit (loopId body) (wps Try.prog (Q .normal) Q (loopRest body)) Q
    show wps Try.prog K Qx turn a' w'
    have doMore : ∀ {i : Nat} {mm : List CO} {P : List (Nat × Nat)} {fs : List Fact} {G : SG}, bt = true → C = st0 (num i) mm → more i mm P fs G = true → i < len → PathOk g len P → FOk fs → FactsOk L0 fs → (∀ L1, Agree L1 L0 → Hd G K Qx L1 (moreF i ++ fs)) → wps Try.prog K Qx turn a' w' := by
      intro i mm P fs G hb hC hm hi hP hfo hF hH
      subst hb hC
      obtain ⟨h1, h2⟩ := band_true.1 hm
      obtain ⟨L1, e1', k1, k2, k3, k4, k5⟩ := fits_sound one1 hLf h1 har hrr (by
        rw [hlow]
        intro gv hgv
        obtain ⟨q, hq, rfl⟩ := List.mem_map.1 hgv
        exact hgive h40 _ hag P hP q hq)
      have hag1 : Agree L1 L0 := off_th rfl hag k1
      refine SG.sound (fn := Try.f3) (n := 60) one1 k2 fol ext1 (hknown L1 hag1) k4 k5 _ _ h2 (factsOk_append.2 ⟨moreOk L1 hag1 i hi, facts_ok hag1 hfo hF⟩) ?_
      rw [show e1'.low = w.heap.size from k3.trans hlow]
      exact hH L1 hag1
    have outOk : ∀ (i : Nat) (v : V) (L1 : Nat → Value) (fs : List Fact), 0 < m → Agree L1 L0 → len < i → Lth [(16, v)] (fun _ => Value.bool true) L1 16 = .int .i64 (i : Int) → Hd (toOut v) K Qx L1 fs := fun i v L1 fs hm hag1 hi h16 _ =>
      ⟨fun _ h => by (cases h), fun L2 e2 a2 w2 h2 hl2 hlow2 har2 hrr2 => ⟨0, hm, L2, e2, _, hl2, off_th rfl hag1 h2, hlow2, har2, hrr2, .inr (.inr (.inr (.inr (.inr (.inr ⟨i, hi, by rw [h2 16 (by omega)]; exact h16, rfl, rfl⟩)))))⟩⟩
    have doLast : ∀ {mm : List CO} {P : List (Nat × Nat)} {fs : List Fact}, bt = true → C = st0 (num len) mm → 0 < m → last len mm P fs = true → PathOk g len P → FOk fs → FactsOk L0 fs → wps Try.prog K Qx turn a' w' := by
      intro mm P fs hb hC hm0 hm hP hfo hF
      subst hb hC
      obtain ⟨h1, h2⟩ := band_true.1 hm
      obtain ⟨L1, e1', k1, k2, k3, k4, k5⟩ := fits_sound one1 hLf h1 har hrr (by
        rw [hlow]
        intro gv hgv
        obtain ⟨q, hq, rfl⟩ := List.mem_map.1 hgv
        exact hgive h40 _ hag P hP q hq)
      have hag1 : Agree L1 L0 := off_th rfl hag k1
      refine SG.sound (fn := Try.f3) (n := 60) one1 k2 fol ext1 (hknown L1 hag1) k4 k5 _ _ h2 (factsOk_append.2 ⟨lastOk L1 hag1, facts_ok hag1 hfo hF⟩) ?_
      rw [show e1'.low = w.heap.size from k3.trans hlow]
      exact outOk (len + 1) _ L1 _ hm0 hag1 (by omega) rfl
    have doIdle : ∀ {i : Nat} {mm : List CO} {P : List (Nat × Nat)} {n : Nat} {fs : List Fact} {G H : SG}, C = st0 leafI mm → L 16 = .int .i64 (i : Int) → n ≤ i → i ≤ len → m = len + 2 - i → idleG bt G H mm P n fs = true → PathOk g len P → FOk fs → FactsOk L0 fs →
        (∀ L1 fs, Agree L1 L0 → (∀ fs, Hd (stay mm) K Qx L1 fs) → Hd G K Qx L1 fs) → (∀ L1 fs, Agree L1 L0 → (∀ fs, Hd (toOut nextL) K Qx L1 fs) → Hd H K Qx L1 fs) →
        (∀ L2 e2 a2 w2, i < len → Leafy L2 → Agree L2 L0 → e2.low = w.heap.size → L2 16 = .int .i64 ((i + 1 : Nat) : Int) → ARel L2 e2 (st0 leafI mm).tm 87 a2 → Rel L2 (fun b => b < w.heap.size) w e2 (st0 leafI mm).st w2 → Head bt w L0 g len (len + 2 - (i + 1)) a2 w2) → wps Try.prog K Qx turn a' w' := by
      intro i mm P n fs G H hC h16 hn hil2 hm hseg hP hfo hF hG hH hnext
      subst hC
      obtain ⟨hA, hB⟩ := band_true.1 hseg
      rcases Nat.lt_or_ge i len with hlt | hge
      · obtain ⟨h1, h2⟩ := band_true.1 hA
        obtain ⟨L1, e1', k1, k2, k3, k4, k5⟩ := fits_sound (hX i) hLf h1 har hrr (by
          rw [hlow]
          intro gv hgv
          rcases List.mem_cons.1 hgv with rfl | hgv
          · exact hhere L hag i hlt h16
          · obtain ⟨q, hq, rfl⟩ := List.mem_map.1 hgv
            exact hgive h40 _ (off_th (th := thH) (L := L) rfl hag fun _ _ => rfl) P hP q hq)
        have hag1 : Agree L1 L0 := off_th rfl hag k1
        have g16 : L1 16 = .int .i64 (i : Int) := by rw [k1 16 (by omega)]; exact h16
        refine SG.sound (fn := Try.f3) (n := 60) one1 k2 fol ext1 (hknown L1 hag1) k4 k5 _ _ h2 (factsOk_append.2 ⟨moreLOk L1 hag1 i g16 hlt, factsOk_append.2 ⟨past_ok (by rw [g16]; rfl) _ hn, facts_ok hag1 hfo hF⟩⟩) ?_
        rw [show e1'.low = w.heap.size from k3.trans hlow]
        refine hG L1 _ hag1 fun fs _ => ⟨fun _ h => by (cases h), fun L2 e2 a2 w2 h2 hl2 hlow2 har2 hrr2 => ⟨_, by omega, hnext L2 e2 a2 w2 hlt hl2 (off_th rfl hag1 h2) hlow2 ?_ har2 hrr2⟩⟩
        rw [h2 16 (by omega)]
        exact next16 L1 i g16 (by omega)
      · obtain rfl : i = len := by omega
        obtain ⟨h1, h2⟩ := band_true.1 hB
        obtain ⟨L1, e1', k1, k2, k3, k4, k5⟩ := fits_sound one1 hLf h1 har hrr (by
          rw [hlow]
          intro gv hgv
          obtain ⟨q, hq, rfl⟩ := List.mem_map.1 hgv
          exact hgive h40 _ hag P hP q hq)
        have hag1 : Agree L1 L0 := off_th rfl hag k1
        have g16 : L1 16 = .int .i64 (i : Int) := by rw [k1 16 (by omega)]; exact h16
        refine SG.sound (fn := Try.f3) (n := 60) one1 k2 fol ext1 (hknown L1 hag1) k4 k5 _ _ h2 (factsOk_append.2 ⟨lastLOk L1 hag1 g16, factsOk_append.2 ⟨past_ok (by rw [g16]; rfl) _ hn, facts_ok hag1 hfo hF⟩⟩) ?_
        rw [show e1'.low = w.heap.size from k3.trans hlow]
        exact hH L1 _ hag1 fun fs => outOk (i + 1) _ L1 fs (by omega) hag1 (by omega) (next16 L1 i g16 (by omega))
    have bool_at : ∀ k, k < len → g k 1 = .bool true ∨ g k 1 = .bool false := fun k hk => by
      obtain ⟨_, ⟨b, hb⟩, _⟩ := hg k hk
      cases b <;> simp [hb]
    have p0 : 0 < len → PathOk g len [(0, 0)] := fun h q hq => by
      obtain rfl : q = (0, 0) := by simpa using hq
      exact ⟨h, .inl rfl⟩
    rcases hk with ⟨hb, hF, hC, hm⟩ | ⟨c, hb, hi, hP, hF, hC, hm⟩ | ⟨c, hb, hi, hP, hF, hC, hm⟩ | ⟨i, P, fs, hb, hi, hP, hfo, hF, hs4, hsT, hsF, hC, hm⟩ | ⟨i, mm, P, n, fs, hb, hn, hi, hidle, hP, hfo, hF, h16, hC, hm⟩ | ⟨i, hbad, hi, h16, hC, hm⟩ | ⟨i, hi, h16, hC, hm⟩
    · -- the wiped count
      obtain ⟨hA, hB⟩ := band_true.1 s1
      rcases Nat.eq_zero_or_pos len with h0 | hpos
      · exact doLast hb (by rw [h0]; exact hC) (by omega) (by rw [h0]; exact hB) (fun q hq => by cases hq) fok_go hF
      · refine doMore hb hC hA hpos (p0 hpos) fok_go hF fun L1 hag1 => ⟨?_, ?_⟩
        · refine idleOk _ _ _ _ _ _ hag1 fun hF1 L2 e2 a2 w2 hl2 hag2 hlow2 h162 har2 hrr2 => ⟨len + 2 - 1, by omega, L2, e2, _, hl2, hag2, hlow2, har2, hrr2, .inr (.inr (.inr (.inr (.inl ⟨1, _, _, 1, _, hb, by omega, by omega, s5, p0 hpos, fok_cons (by kernel_rfl) (by kernel_rfl) fok_go, ?_, h162, rfl, rfl⟩))))⟩
          exact factsOk_cons (by obtain ⟨q, hq, hr⟩ := hF1 _ List.mem_cons_self; exact ⟨q, hq, by rw [← eval_ok hag1 (by kernel_rfl), ← eval_ok hag1 (by kernel_rfl)]; exact hr⟩) hF
        · refine toOk _ _ _ _ _ _ hag1 fun hF1 L2 e2 a2 w2 hl2 hag2 hlow2 har2 hrr2 => ⟨len + 2 - (1 + 2 * 0), by omega, L2, e2, _, hl2, hag2, hlow2, har2, hrr2, .inr (.inl ⟨0, hb, by omega, p0 hpos, ?_, rfl, rfl⟩)⟩
          exact factsOk_cons (by obtain ⟨q, hq, hr⟩ := hF1 _ List.mem_cons_self; exact ⟨q, hq, by rw [← eval_ok hag1 (by kernel_rfl), ← eval_ok hag1 (by kernel_rfl)]; exact hr⟩) hF
    · -- a tail
      obtain ⟨hA, hB⟩ := band_true.1 (all2 (show c < 20 by omega))
      have hold : ∀ (b : Bool) (L1 : Nat → Value) (fs : List Fact), Agree L1 L0 → FactsOk L1 (oldF (1 + 2 * c) b :: fs) → FactsOk L0 (casF c b) := fun b L1 fs hag1 hF1 =>
        factsOk_cons (by obtain ⟨q, hq, hr⟩ := hF1 _ List.mem_cons_self; exact ⟨q, hq, by rw [← eval_ok hag1 (by show fixedLeaf (220 + 3 * (1 + 2 * c)) = true; unfold fixedLeaf; simp; omega), ← eval_ok hag1 (by kernel_rfl)]; exact hr⟩) hF
      rcases Nat.lt_or_ge (1 + 2 * c) len with hlt | hge
      · have hP2 : PathOk g len (casP c) := path_cons hlt (.inl rfl) hP
        refine doMore hb hC hA hlt hP2 (fok_tail c (by omega)) hF fun L1 hag1 => ⟨?_, ?_⟩
        · exact toOk _ _ _ _ _ _ hag1 fun hF1 L2 e2 a2 w2 hl2 hag2 hlow2 har2 hrr2 => ⟨len + 2 - (2 + 2 * c), by omega, L2, e2, _, hl2, hag2, hlow2, har2, hrr2, .inr (.inr (.inl ⟨c, hb, by omega, hP2, hold true L1 _ hag1 hF1, rfl, rfl⟩))⟩
        · obtain ⟨t1, t2⟩ := band_true.1 (all6a (show c < 20 by omega))
          exact toOk _ _ _ _ _ _ hag1 fun hF1 L2 e2 a2 w2 hl2 hag2 hlow2 har2 hrr2 => ⟨len + 2 - (2 + 2 * c), by omega, L2, e2, _, hl2, hag2, hlow2, har2, hrr2, .inr (.inr (.inr (.inl ⟨2 + 2 * c, casP c, casF c false, hb, by omega, hP2, fok_cas (by omega) _, hold false L1 _ hag1 hF1, all4a (show c < 20 by omega), by rw [show 2 + 2 * c + 1 = 3 + 2 * c by omega]; exact t1, by rw [show 2 + 2 * c + 1 = 3 + 2 * c by omega]; exact t2, rfl, rfl⟩)))⟩
      · have hl : 1 + 2 * c = len := by omega
        exact doLast hb (by rw [← hl]; exact hC) (by omega) (by rw [← hl]; exact hB) hP (fok_tail c (by omega)) hF
    · -- a swap
      obtain ⟨hA, hB⟩ := band_true.1 (all3 (show c < 20 by omega))
      obtain ⟨hB, hD⟩ := band_true.1 hB
      rcases Nat.lt_or_ge (2 + 2 * c) len with hlt | hge
      · rcases bool_at _ hlt with hd | hd
        · have hP2 : PathOk g len (doneP c) := path_cons hlt (.inr (.inl ⟨rfl, hd⟩)) hP
          obtain ⟨t1, t2⟩ := band_true.1 (all6b (show c < 20 by omega))
          exact doMore hb hC hA hlt hP2 (fok_cas (by omega) _) hF fun L1 hag1 => toOk _ _ _ _ _ _ hag1 fun hF1 L2 e2 a2 w2 hl2 hag2 hlow2 har2 hrr2 => ⟨len + 2 - (3 + 2 * c), by omega, L2, e2, _, hl2, hag2, hlow2, har2, hrr2, .inr (.inr (.inr (.inl ⟨3 + 2 * c, doneP c, casF c true, hb, by omega, hP2, fok_cas (by omega) _, hF, all4b (show c < 20 by omega), by rw [show 3 + 2 * c + 1 = 4 + 2 * c by omega]; exact t1, by rw [show 3 + 2 * c + 1 = 4 + 2 * c by omega]; exact t2, rfl, rfl⟩)))⟩
        · have hP2 : PathOk g len (tailP (c + 1)) := path_cons hlt (.inr (.inr ⟨rfl, hd⟩)) hP
          exact doMore hb hC hB hlt hP2 (fok_cas (by omega) _) hF fun L1 hag1 => toOk _ _ _ _ _ _ hag1 fun hF1 L2 e2 a2 w2 hl2 hag2 hlow2 har2 hrr2 => ⟨len + 2 - (1 + 2 * (c + 1)), by omega, L2, e2, _, hl2, hag2, hlow2, har2, hrr2, .inr (.inl ⟨c + 1, hb, by omega, hP2, hF, by rw [show 1 + 2 * (c + 1) = 3 + 2 * c by omega], rfl⟩)⟩
      · have hl : 2 + 2 * c = len := by omega
        exact doLast hb (by rw [← hl]; exact hC) (by omega) (by rw [← hl]; exact hD) hP (fok_cas (by omega) _) hF
    · -- the count
      obtain ⟨hA, hB⟩ := band_true.1 hs4
      obtain ⟨hB, hD⟩ := band_true.1 hB
      rcases Nat.lt_or_ge i len with hlt | hge
      · rcases bool_at _ hlt with hd | hd
        · have hP2 : PathOk g len ((i, 1) :: P) := path_cons hlt (.inr (.inl ⟨rfl, hd⟩)) hP
          exact doMore hb hC hA hlt hP2 hfo hF fun L1 hag1 => idleOk _ _ _ _ _ _ hag1 fun _ L2 e2 a2 w2 hl2 hag2 hlow2 h162 har2 hrr2 => ⟨len + 2 - (i + 1), by omega, L2, e2, _, hl2, hag2, hlow2, har2, hrr2, .inr (.inr (.inr (.inr (.inl ⟨i + 1, _, _, i + 1, _, hb, by omega, by omega, hsT, hP2, hfo, hF, h162, rfl, rfl⟩))))⟩
        · have hP2 : PathOk g len ((i, 2) :: P) := path_cons hlt (.inr (.inr ⟨rfl, hd⟩)) hP
          exact doMore hb hC hB hlt hP2 hfo hF fun L1 hag1 => idleOk _ _ _ _ _ _ hag1 fun _ L2 e2 a2 w2 hl2 hag2 hlow2 h162 har2 hrr2 => ⟨len + 2 - (i + 1), by omega, L2, e2, _, hl2, hag2, hlow2, har2, hrr2, .inr (.inr (.inr (.inr (.inl ⟨i + 1, _, _, i + 1, _, hb, by omega, by omega, hsF, hP2, hfo, hF, h162, rfl, rfl⟩))))⟩
      · have hl : i = len := by omega
        exact doLast hb (by rw [← hl]; exact hC) (by omega) (by rw [← hl]; exact hD) hP hfo hF
    · -- nothing to do any more
      subst hb
      exact doIdle hC h16 hn hi hm hidle hP hfo hF (fun L1 fs _ h => h fs) (fun L1 fs _ h => h fs) fun L2 e2 a2 w2 hlt hl2 hag2 hlow2 h162 har2 hrr2 => ⟨L2, e2, _, hl2, hag2, hlow2, har2, hrr2, .inr (.inr (.inr (.inr (.inl ⟨i + 1, mm, P, n, fs, rfl, by omega, by omega, hidle, hP, hfo, hF, h162, rfl, rfl⟩))))⟩
    · -- a log that may not be
      have tree : ∀ (r : SG) (L1 : Nat → Value) (fs : List Fact), Agree L1 L0 → (∀ fs', Hd r K Qx L1 fs') → Hd (sel bt (mayTree r mayF) r) K Qx L1 fs := fun r L1 fs hag1 hr => by
        cases bt with
        | false => exact hr fs
        | true =>
          have key : ∀ (l : List Fact) (fs : List Fact), (FactsOk L1 fs → FactsOk L1 l → False) → Hd (mayTree r l) K Qx L1 fs := by
            intro l
            induction l with
            | nil => intro fs h hF; exact h hF fun _ h => by cases h
            | cons f l ih =>
              intro fs h
              have hnext : ∀ b, b = f.r → Hd (mayTree r l) K Qx L1 (⟨f.op, f.a, f.b, b⟩ :: fs) := fun b hb => ih _ fun hF hl => h (fun q hq => hF q (List.mem_cons_of_mem _ hq)) (factsOk_cons (by have := hF _ List.mem_cons_self; rw [hb] at this; exact this) hl)
              show Hd (sel f.r (mayTree r l) r) K Qx L1 _ ∧ Hd (sel f.r r (mayTree r l)) K Qx L1 _
              cases hfr : f.r with
              | true => exact ⟨hnext true hfr.symm, hr _⟩
              | false => exact ⟨hr _, hnext false hfr.symm⟩
          exact key mayF fs fun _ hm => hbad rfl (facts_ok (fun j hj => (hag1 j hj).symm) fok_may hm)
      exact doIdle hC h16 (Nat.zero_le _) hi hm (b_all bt) (fun q hq => by cases hq) (fun f hf => by cases hf) (fun f hf => by cases hf) (fun L1 fs hag1 h => tree _ L1 fs hag1 h) (fun L1 fs hag1 h => tree _ L1 fs hag1 h) fun L2 e2 a2 w2 hlt hl2 hag2 hlow2 h162 har2 hrr2 => ⟨L2, e2, _, hl2, hag2, hlow2, har2, hrr2, .inr (.inr (.inr (.inr (.inr (.inl ⟨i + 1, hbad, by omega, h162, rfl, rfl⟩)))))⟩
    · -- all rounds are done
      subst hC
      refine SG.sound (fn := Try.f3) (n := 60) one1 hLf fol ext1 (hknown L hag) har hrr (.run 2 nothing []) outL (o_all bt) (factsOk_of (gs := outL) rfl ⟨by show IE.eval L (.len 7) < valInt (L 16); rw [hlen7 L hag, h16]; show (len : Int) < i; omega, trivial⟩) ?_
      refine fun _ => ⟨fun _ h => by (cases h), fun L2 e2 a2 w2 h2 hl2 hlow2 har2 hrr2 => ?_⟩
      show (if 0 = loopId body then wps Try.prog (Q .normal) Q (loopRest body) a2 w2 else Q (.exit 0) a2 w2)
      rw [if_pos loop_id.symm]
      exact hrest L2 e2 a2 w2 hl2 (off_th rfl hag h2) (hlow2.trans hlow) har2 hrr2
  -- ahead of the loop
  let K0 := wps Try.prog (Q .normal) Q (.block (loopId body) (.loop (loopBody body)) :: loopRest body)
  have ag0 : Agree L0 L0 := fun _ _ => rfl
  have le40 : ∀ fs, (⟨.lss, .lit 40, .len 7, false⟩ : Fact) ∈ fs → FactsOk L0 fs → len ≤ 40 := fun fs hm hF => by
    obtain ⟨g1, hg1, hr1⟩ := hF _ hm
    cases hg1
    have hr1 : ltF 40 (IE.eval L0 (.len 7)) = false := hr1
    rw [ltF_eq, hlen7 L0 ag0] at hr1
    have hr1 := of_decide_eq_false hr1
    omega
  have toBadOk : ∀ fs, (⟨.lss, .lit 40, .len 7, false⟩ : Fact) ∈ fs → (bt = true → FactsOk L0 fs → ¬ FactsOk L0 mayF) → Hd toBad K0 Q L0 fs := fun fs hm hb =>
    idleOk _ _ _ _ _ _ ag0 fun hF L2 e2 a2 w2 hl2 hag2 hlow2 h162 har2 hrr2 => hloop (le40 fs hm hF) (len + 2) a2 w2 ⟨L2, e2, _, hl2, hag2, hlow2, har2, hrr2, .inr (.inr (.inr (.inr (.inr (.inl ⟨0, fun hbt => hb hbt hF, by omega, h162, rfl, by omega⟩)))))⟩
  have finOk : ∀ fs, Hd (.fin 1) K0 Q L0 fs := fun fs _ a2 w2 e2 s2 hd hrun hr2 => post_fin hd hrun hr2
  have hst := Rel.start0 L0 w
  cases bt with
  | false =>
    exact SG.sound (fn := Try.f3) (n := 60) one1 hL fol ext1 (hknown L0 ag0) ha hst treeF [] pF (fun _ h => by cases h) ⟨finOk _, toBadOk _ (by simp) fun h => by cases h⟩
  | true =>
    -- what is said both ways can't be
    have clash : ∀ (f : Fact) (fs : List Fact), f ∈ mayF → (⟨f.op, f.a, f.b, !f.r⟩ : Fact) ∈ fs → FactsOk L0 fs → ¬ FactsOk L0 mayF := fun f fs h1 h2 hF hM => by
      obtain ⟨g1, hg1, hr1⟩ := hM f h1
      obtain ⟨g2, hg2, hr2⟩ := hF _ h2
      have hg2 : cmpB f.op = some g2 := hg2
      have hr2 : g2 (f.a.eval L0) (f.b.eval L0) = !f.r := hr2
      rw [hg1] at hg2
      cases hg2
      rw [hr1] at hr2
      cases hfr : f.r <;> rw [hfr] at hr2 <;> cases hr2
    have mayOk : ∀ (b : Bool) (fs : List Fact), (∀ f ∈ mayF, f ∈ fs) → FactsOk L0 (cntF b :: fs) → FactsOk L0 (cntF b :: mayF) := fun b fs hsub hF => factsOk_cons (hF _ List.mem_cons_self) fun f hf => hF f (List.mem_cons_of_mem _ (hsub f hf))
    have hpart : FactsOk L0 partF := by
      have h9 : IE.eval L0 (.leaf 9) = cntI a1 a0_4 := by show valInt (L0 9) = _; rw [e9]; rfl
      have hp : IE.eval L0 part = ((cntI a1 a0_4 + 1) % 4294967296) % 3 := by
        unfold part
        rw [eval_conv]
        show IntKind.wrap .i64 (((some (remF (IE.eval L0 (.bin .add .u32 (.leaf 9) (.lit 1))) 3)).getD 0 : Int)) = _
        rw [eval_add, h9, eval_lit, wrap_u32, Option.getD_some, remF_eq, wrap_i64]
        have h0 : (0 : Int) ≤ (cntI a1 a0_4 + 1) % 4294967296 := by omega
        rw [Int.tmod_eq_emod_of_nonneg h0]
        omega
      refine factsOk_of rfl ⟨?_, ?_, trivial⟩
      · show (0 : Int) ≤ IE.eval L0 part
        rw [hp]; omega
      · show IE.eval L0 part < 3
        rw [hp]; omega
    refine SG.sound (fn := Try.f3) (n := 60) one1 hL fol ext1 (hknown L0 ag0) ha hst treeT [] pT (fun _ h => by cases h) ?_
    refine ⟨finOk _, toBadOk _ (by simp) fun _ => clash ⟨.lss, .leaf 3, .lit 1, false⟩ _ (by simp [mayF]) (by simp), toBadOk _ (by simp) fun _ => clash ⟨.lss, .lit 8, .leaf 3, false⟩ _ (by simp [mayF]) (by simp), toBadOk _ (by simp) fun _ => clash ⟨.lss, .leaf 2, .lit 32, false⟩ _ (by simp [mayF]) (by simp),
      toBadOk _ (by simp) fun _ => clash ⟨.lss, .bin .quo .i64 (.leaf 1) (.lit 8), .leaf 2, false⟩ _ (by simp [mayF]) (by simp), ⟨toBadOk _ (by simp) fun _ => clash ⟨.lss, .leaf 0, .lit 0, false⟩ _ (by simp [mayF]) (by simp),
      toBadOk _ (by simp) fun _ => clash ⟨.lss, .bin .sub .i64 (.bin .sub .i64 (.lit 131072) (.bin .mul .i64 (.lit 3) (.leaf 1))) (.lit 128), .leaf 0, false⟩ _ (by simp [mayF]) (by simp), ⟨⟨?_, ?_⟩, toBadOk _ (by simp) fun _ => clash ⟨.eql, .bin .rem .i64 (.leaf 0) (.lit 8), .lit 0, true⟩ _ (by simp [mayF]) (by simp)⟩⟩,
      toBadOk _ (by simp) fun _ => clash ⟨.eql, .bin .rem .i64 (.leaf 2) (.lit 32), .lit 0, true⟩ _ (by simp [mayF]) (by simp)⟩
    · refine toOk _ _ _ _ _ _ ag0 fun hF L2 e2 a2 w2 hl2 hag2 hlow2 har2 hrr2 => hloop (le40 _ (by simp) hF) (len + 2) a2 w2 ⟨L2, e2, _, hl2, hag2, hlow2, har2, hrr2, .inl ⟨rfl, ?_, rfl, rfl⟩⟩
      have := mayOk true _ (fun f hf => by simp only [mayF, List.mem_cons, List.not_mem_nil, or_false] at hf; rcases hf with rfl | rfl | rfl | rfl | rfl | rfl | rfl | rfl <;> simp) hF
      exact factsOk_cons (this _ List.mem_cons_self) (factsOk_append.2 ⟨fun f hf => this f (List.mem_cons_of_mem _ hf), hpart⟩)
    · refine idleOk _ _ _ _ _ _ ag0 fun hF L2 e2 a2 w2 hl2 hag2 hlow2 h162 har2 hrr2 => hloop (le40 _ (by simp) hF) (len + 2) a2 w2 ⟨L2, e2, _, hl2, hag2, hlow2, har2, hrr2, .inr (.inr (.inr (.inr (.inl ⟨0, _, [], 0, _, rfl, by omega, by omega, sM, (fun q hq => by cases hq), fok_cons (by kernel_rfl) (by kernel_rfl) fok_may, ?_, h162, rfl, by omega⟩))))⟩
      exact mayOk false _ (fun f hf => by simp only [mayF, List.mem_cons, List.not_mem_nil, or_false] at hf; rcases hf with rfl | rfl | rfl | rfl | rfl | rfl | rfl | rfl <;> simp) hF

set_option maxRecDepth 100000 in
theorem lifted (os : Os) (started : os.Started) (H : Type) (enc : TypeId × Value → H) :
    ReturnsInHanded {} Try.checked os 3 .any (Rows.rotateStepsSpec.pre6 enc Try.prog Try.f3 Rows.rotateStepsRow.domain false) (Rows.rotateStepsSpec.post enc Try.prog Try.f3 false true false false) := by
  refine returnsInHanded_of_change (C := Try.checked) own started (by kernel_rfl) Try.func3
    (ChangeSpec.witness6 (enc := enc) (C := Try.checked) false ⟨#[], #[.agg #[.int .i64 0, .int .i64 0, .int .i64 0, .int .i64 0, .int .i32 0, .int .i32 0, .int .i32 0], .int .i32 0, .slice none 0 0], []⟩ 8 (by kernel_rfl) (by kernel_rfl) (by kernel_rfl) (by kernel_rfl)) ?_
  intro W base args ds gs before hval0 hW hcnd _
  have hval : ∀ (j : Nat) t v, Try.f3.params[j]? = some t → args[j]? = some v → Value.okWide Try.prog W .any base t v := hval0
  have hW' := hW
  obtain ⟨p, q, hA0, hV, rfl, hfz, hnd⟩ := hW
  have hA : DataW.TrodAll enc Try.prog W 0 (fun _ => true) true Try.f3.params.toList args.toList ds p := hA0
  rw [Try.params3] at hA hval
  obtain ⟨v0, vs0, d0, ds0, p0, q0, hargs, rfl, rfl, h0, r0⟩ := trodAll_cons hA
  obtain ⟨v1, vs1, d1, ds1, p1, q1, rfl, rfl, rfl, h1, r1⟩ := trodAll_cons r0
  obtain ⟨v2, vs2, d2, ds2, p2, q2, rfl, rfl, rfl, h2, r2⟩ := trodAll_cons r1
  obtain ⟨rfl, rfl, rfl⟩ := trodAll_nil r2
  obtain rfl : args = #[v0, v1, v2] := by cases args; simp_all
  obtain ⟨rfl, rfl⟩ := trodVars_none hV
  have k0 := h0
  have lt0 : ∀ x ∈ p0, x.block < W.heap.size := by obtain ⟨m, hm⟩ := k0; exact DataW.trod_lt m _ _ _ hm
  obtain ⟨c0_0, c0_1, c0_2, c0_3, c0_4, c0_5, c0_6, _, _, _, _, _, _, _, n0, rfl, t0_0, t0_1, t0_2, t0_3, t0_4, t0_5, t0_6⟩ := open_aggs7 Try.underlying23 (by kernel_rfl) (by kernel_rfl) (hval 0 23 v0 rfl rfl) h0
  obtain ⟨a0_0, e0_0, _, w0_0⟩ := DataW.trod_int Try.underlying3 t0_0
  obtain rfl : c0_0 = .int .i64 a0_0 := by simpa using e0_0
  obtain ⟨a0_1, e0_1, _, w0_1⟩ := DataW.trod_int Try.underlying3 t0_1
  obtain rfl : c0_1 = .int .i64 a0_1 := by simpa using e0_1
  obtain ⟨a0_2, e0_2, _, w0_2⟩ := DataW.trod_int Try.underlying3 t0_2
  obtain rfl : c0_2 = .int .i64 a0_2 := by simpa using e0_2
  obtain ⟨a0_3, e0_3, _, w0_3⟩ := DataW.trod_int Try.underlying3 t0_3
  obtain rfl : c0_3 = .int .i64 a0_3 := by simpa using e0_3
  obtain ⟨a0_4, e0_4, _, w0_4⟩ := DataW.trod_int Try.underlying21 t0_4
  obtain rfl : c0_4 = .int .i32 a0_4 := by simpa using e0_4
  obtain ⟨a0_5, e0_5, _, w0_5⟩ := DataW.trod_int Try.underlying21 t0_5
  obtain rfl : c0_5 = .int .i32 a0_5 := by simpa using e0_5
  obtain ⟨a0_6, e0_6, _, w0_6⟩ := DataW.trod_int Try.underlying21 t0_6
  obtain rfl : c0_6 = .int .i32 a0_6 := by simpa using e0_6
  obtain ⟨a1, rfl, rfl, rfl, w1⟩ := open_int Try.underlying21 (hval 1 21 v1 rfl rfl) h1
  obtain ⟨a2, len2, cap2, rfl⟩ := okWide_slice Try.underlying24 (hval 2 24 v2 rfl rfl)
  have k2 := h2
  have lt2 : ∀ x ∈ p2, x.block < W.heap.size := by obtain ⟨m, hm⟩ := k2; exact DataW.trod_lt m _ _ _ hm
  obtain ⟨g2, w2, m2, t2⟩ : ∃ g, Go.X.Told W a2 len2 cap2 g ∧ len2 ≤ maxLen ∧ ∀ k, k < len2 → (∃ v, g k 0 = .int .u64 v ∧ (Lit.int .u64 v).wf = true) ∧ (∃ b, g k 1 = .bool b) ∧ ∃ p n c, g k 2 = .slice p n c := by
    obtain ⟨fuel, hf⟩ := h2
    obtain ⟨p, l, c, g, hcs, h1, h2, h3⟩ := Go.X.open_told Try.underlying24 Try.underlying44 (by kernel_rfl) (by kernel_rfl) Try.underlying29 Try.underlying4 Try.underlying30 hf
    simp [Value.cells] at hcs
    obtain ⟨rfl, rfl, rfl⟩ := hcs
    exact ⟨g, h1, h2, h3⟩
  clear hA0 hval0
  refine (walk a0_0 a0_1 a0_2 a0_3 a0_4 a0_5 a0_6 a1 a2 len2 cap2 g2 W w0_0 w0_1 w0_2 w0_3 w0_4 w0_5 w0_6 w1 w2 m2 t2).mono fun e W' ⟨he, bel⟩ => ?_
  subst he
  exact ⟨_, rfl, _, _, _, [], _, [], hW', trodAll_mk1 (shut_bool Try.underlying4 _), (trodAll_cons_mk (Below.trod laidOut (by kernel_rfl) (of_decide_eq_true (by kernel_rfl)) k0 bel lt0) (trodAll_cons_mk (shut_int Try.underlying21 w1) (trodAll_cons_mk (Below.trod laidOut (by kernel_rfl) (of_decide_eq_true (by kernel_rfl)) k2 bel lt2) trodAll_mk0))), rfl, bel.frame _, fun h => by cases h⟩

theorem overAll : Rows.rotateStepsRow.holds Try.pinned (OpenSpec.ofChange Rows.rotateStepsSpec) :=
  OpenClaim.holds_of_wide 3 Try.f3 rfl rfl rfl rfl rfl rfl rfl ⟨rfl, rfl, rfl, rfl, rfl⟩ rfl rfl rfl rfl rfl (by as_aux_lemma => kernel_rfl) Try.func3 (by as_aux_lemma => kernel_rfl)
    (of_decide_eq_true (by as_aux_lemma => kernel_rfl)) (by unfold Func.isWrapper; first | (rw [if_pos (by decide +kernel)]; kernel_rfl) | (rw [if_neg (by decide +kernel)]; exact ⟨rfl, rfl⟩))
    (fun os started H enc _ => lifted os started H enc)

theorem proved : Rows.RotateStepsSaid := overAll
#print axioms proved
end Go.Proofs.Ytmcelbemhklhaaa.rotateSteps
