/- Statement MetaInit: whatever a new log's machine is told, each access is the document's.
   No condition: for every input that can be read. -/
import Derived.Test.YtlgpfopipkiabaaRows
import Derived.Test.YtlgpfopipkiabaaKit
import Derived.Test.YtlgpfopipkiabaaRk14
import Derived.Test.YtlgpfopipkiabaaTerm
import Derived.Test.YtlgpfopipkiabaaPk
import Derived.Test.YtlgpfopipkiabaaTold
import Derived.Test.YtlgpfopipkiabaaInitA
import Derived.Test.YtlgpfopipkiabaaInitB
import Derived.Test.YtlgpfopipkiabaaInitC
import Derived.ProofKit
import Derived.OpenShut
import Derived.ShutString
import Derived.ChangeOld
import Derived.Below
import Derived.Deep.Fields
import Derived.WideShapes
import Derived.Lib.SmallJoins
namespace Go.Proofs.Ytlgpfopipkiabaa.metaInit
open Go.ChangeShapes Go.WideShapes Go.ChangeAt Go.RowKit
open Go.ChangeMaps (open_string shut_string)
set_option linter.unusedVariables false

open Go.Joins Go.Deep
theorem own : ownKnob Try.prog.godebug = none := by kernel_rfl
section
variable {H : Type} {enc : TypeId × Value → H} {P : Program} {w : World} {base : Nat} {spare : Nat → Bool} {held : Bool}
set_option maxRecDepth 100000 in
theorem open_aggs7 {r : Reach} {b0 : Nat} {t : TypeId} {f0 f1 f2 f3 f4 f5 f6 : Field} {v : Value} {d : DataW H} {p : List MemPlace} (hs : P.underlying t = some (.struct #[f0, f1, f2, f3, f4, f5, f6])) (hone : oneCellFields P #[f0, f1, f2, f3, f4, f5, f6] = true) (hC : P.cellsOf t = 7)
    (hv : Value.okWide P w r b0 t v) (h : DataW.Trod enc P w base spare held t v d p) :
    ∃ (c0 c1 c2 c3 c4 c5 c6 : Value) (y0 y1 y2 y3 y4 y5 y6 : DataW H × List MemPlace) (n : Nat), v = .agg #[c0, c1, c2, c3, c4, c5, c6] ∧ DataW.trod enc P w base spare held n f0.type [c0] = some y0 ∧ DataW.trod enc P w base spare held n f1.type [c1] = some y1 ∧ DataW.trod enc P w base spare held n f2.type [c2] = some y2 ∧ DataW.trod enc P w base spare held n f3.type [c3] = some y3 ∧ DataW.trod enc P w base spare held n f4.type [c4] = some y4 ∧ DataW.trod enc P w base spare held n f5.type [c5] = some y5 ∧ DataW.trod enc P w base spare held n f6.type [c6] = some y6 := by
  obtain ⟨cs, rfl, hsz⟩ := okWide_struct hs hv
  obtain ⟨l⟩ := cs
  match l, hsz.trans hC with
  | [c0, c1, c2, c3, c4, c5, c6], _ =>
    obtain ⟨fuel, hf⟩ := h
    obtain ⟨xs, n, _, hx, _, hlen, hg⟩ := DataW.trod_struct hs hf
    obtain ⟨o0, k0⟩ := Go.Deep.hone_of hone 0 f0 rfl
    obtain ⟨o1, k1⟩ := Go.Deep.hone_of hone 1 f1 rfl
    obtain ⟨o2, k2⟩ := Go.Deep.hone_of hone 2 f2 rfl
    obtain ⟨o3, k3⟩ := Go.Deep.hone_of hone 3 f3 rfl
    obtain ⟨o4, k4⟩ := Go.Deep.hone_of hone 4 f4 rfl
    obtain ⟨o5, k5⟩ := Go.Deep.hone_of hone 5 f5 rfl
    obtain ⟨o6, k6⟩ := Go.Deep.hone_of hone 6 f6 rfl
    match xs, hlen with
    | [y0, y1, y2, y3, y4, y5, y6], _ =>
      exact ⟨c0, c1, c2, c3, c4, c5, c6, y0, y1, y2, y3, y4, y5, y6, n, rfl, by simpa [Value.cells, o0, k0] using hg 0 f0 rfl, by simpa [Value.cells, o1, k1] using hg 1 f1 rfl, by simpa [Value.cells, o2, k2] using hg 2 f2 rfl, by simpa [Value.cells, o3, k3] using hg 3 f3 rfl, by simpa [Value.cells, o4, k4] using hg 4 f4 rfl, by simpa [Value.cells, o5, k5] using hg 5 f5 rfl, by simpa [Value.cells, o6, k6] using hg 6 f6 rfl⟩
end
theorem laidOut : laidOutB Try.prog = true := by kernel_rfl

open Go.X Go.Proofs.Ytlgpfopipkiabaa.rk

theorem upTo_get {f : Nat → Bool} : ∀ {n : Nat}, upTo f n = true → ∀ {i : Nat}, i < n → f i = true
  | 0, _, i, hi => absurd hi (by omega)
  | n + 1, h, i, hi => by
    obtain ⟨h1, h2⟩ := band_true.1 (show band (upTo f n) (f n) = true from h)
    rcases Nat.lt_or_ge i n with hlt | hge
    · exact upTo_get h1 hlt
    · obtain rfl : i = n := by omega
      exact h2
theorem ab_all {S : Nat} (h1 : 1 ≤ S) (h8 : S ≤ 8) : segAB S = true := by
  have : S = 1 ∨ S = 2 ∨ S = 3 ∨ S = 4 ∨ S = 5 ∨ S = 6 ∨ S = 7 ∨ S = 8 := by omega
  rcases this with rfl | rfl | rfl | rfl | rfl | rfl | rfl | rfl 
  · exact ab1
  · exact ab2
  · exact ab3
  · exact ab4
  · exact ab5
  · exact ab6
  · exact ab7
  · exact ab8
theorem c_all {S : Nat} (h1 : 1 ≤ S) (h8 : S ≤ 8) : segC S = true := by
  have : S = 1 ∨ S = 2 ∨ S = 3 ∨ S = 4 ∨ S = 5 ∨ S = 6 ∨ S = 7 ∨ S = 8 := by omega
  rcases this with rfl | rfl | rfl | rfl | rfl | rfl | rfl | rfl 
  · exact c1
  · exact c2
  · exact c3
  · exact c4
  · exact c5
  · exact c6
  · exact c7
  · exact c8
theorem d_all {S : Nat} (h1 : 1 ≤ S) (h8 : S ≤ 8) : segD S = true := by
  have : S = 1 ∨ S = 2 ∨ S = 3 ∨ S = 4 ∨ S = 5 ∨ S = 6 ∨ S = 7 ∨ S = 8 := by omega
  rcases this with rfl | rfl | rfl | rfl | rfl | rfl | rfl | rfl 
  · exact d1
  · exact d2
  · exact d3
  · exact d4
  · exact d5
  · exact d6
  · exact d7
  · exact d8
theorem e_all : ∀ b, segE b = true | true => eT | false => eF
theorem g_all : ∀ b, segG b = true | true => gT | false => gF
theorem o_all : ∀ b, segO b = true | true => oT | false => oF
theorem z_all : ∀ b, segZ b = true | true => zT | false => zF
theorem slots74 : Try.f3.ntmps = 74 := by kernel_rfl
theorem has_body : Try.f3.body.isSome = true := by kernel_rfl
theorem has_loop : hasLoop body = true := by kernel_rfl
theorem loop_id : loopId body = 0 := by kernel_rfl

/-- What is known of a log that may be, in numbers. -/
theorem good_ok {L : Nat → Value} {S : Nat} (h3 : valInt (L 3) = S) (hm : FactsOk L mayF) : FactsOk L (goodF S) := by
  refine factsOk_cons ⟨eqF, rfl, ?_⟩ (factsOk_append.2 ⟨hm, ?_⟩)
  · show eqF (valInt (L 3)) (Int.ofNat S) = true
    rw [eqF_eq, h3]
    exact beq_self_eq_true _
  · clear hm h3
    induction S with
    | zero => intro f hf; cases hf
    | succ k ih =>
      refine factsOk_cons ⟨eqF, rfl, ?_⟩ ih
      show eqF (IE.eval L (.bin .add .i64 (.bin .add .i64 base (.lit 48)) (.lit (.ofNat (8 * k))))) (IE.eval L (spot (48 + 8 * k))) = true
      rw [eqF_eq, beq_iff_eq]
      unfold spot
      simp only [eval_add, eval_lit, wrap_i64]
      generalize IE.eval L base = B
      have e1 : (Int.ofNat (8 * k) : Int) = 8 * (k : Int) := by simp
      have e2 : (Int.ofNat (48 + 8 * k) : Int) = 48 + 8 * (k : Int) := by simp
      rw [e1, e2]
      omega
theorem may_low : mayF.all (fun f => f.a.upTo 16 && f.b.upTo 16) = true := by kernel_rfl

theorem past_ok {L : Nat → Value} {i : Nat} (h : valInt (L 16) = i) : ∀ n, n ≤ i → FactsOk L (pastF n)
  | 0, _ => factsOk_cons ⟨ltF, rfl, by show ltF (valInt (L 16)) 0 = false; rw [ltF_eq, h]; simp⟩ fun _ h => by cases h
  | n + 1, hn => factsOk_cons ⟨ltF, rfl, by show ltF (Int.ofNat n) (valInt (L 16)) = true; rw [ltF_eq, h]; simp; omega⟩ (past_ok h n (by omega))

/-- The loop's head. -/
def Head (bt : Bool) (w0 : World) (L0 : Nat → Value) (len : Nat) (m : Nat) (a : Act) (w : World) : Prop :=
  ∃ (L : Nat → Value) (e : Env) (C : Canon), Leafy L ∧ (∀ j, j < 16 → L j = L0 j) ∧ e.low = w0.heap.size ∧ ARel L e C.tm 74 a ∧ Rel L (fun b => b < w0.heap.size) w0 e C.st w ∧
    ((∃ S i : Nat, bt = true ∧ 1 ≤ S ∧ S ≤ 8 ∧ valInt (L0 3) = (S : Int) ∧ FactsOk L0 mayF ∧ i < 6 + S ∧ i ≤ len ∧ C = good S i (vi 3 (.ofNat i)) [] ∧ m = len + 2 - i) ∨
     (∃ S i : Nat, bt = true ∧ 1 ≤ S ∧ S ≤ 8 ∧ valInt (L0 3) = (S : Int) ∧ FactsOk L0 mayF ∧ 6 + S ≤ i ∧ i ≤ len ∧ L 16 = .int .i64 (i : Int) ∧ C = idle S [] ∧ m = len + 2 - i) ∨
     (∃ i : Nat, (bt = true → ¬ FactsOk L0 mayF) ∧ i ≤ len ∧ L 16 = .int .i64 (i : Int) ∧ C = badL [] ∧ m = len + 2 - i) ∨
     (∃ i : Nat, len < i ∧ L 16 = .int .i64 (i : Int) ∧ C = out (vx 3 (.leaf 16)) ∧ m = 0))

set_option linter.unusedSimpArgs false in
set_option maxRecDepth 100000 in
theorem walk (a0_0 a0_1 a0_2 a0_3 a0_4 a0_5 a0_6 : Int) (p : Option Addr) (len cap : Nat) (g : Nat → Nat → Value) (w : World) (w0_0 : (Lit.int .i64 a0_0).wf = true) (w0_1 : (Lit.int .i64 a0_1).wf = true) (w0_2 : (Lit.int .i64 a0_2).wf = true) (w0_3 : (Lit.int .i64 a0_3).wf = true) (w0_4 : (Lit.int .i32 a0_4).wf = true) (w0_5 : (Lit.int .i32 a0_5).wf = true) (w0_6 : (Lit.int .i32 a0_6).wf = true)
    (ht : Go.X.Told w p len cap g) (hmax : len ≤ maxLen) (hg : ∀ k, k < len → (∃ v, g k 0 = .int .u64 v ∧ (Lit.int .u64 v).wf = true) ∧ (∃ b, g k 1 = .bool b) ∧ ∃ p n c, g k 2 = .slice p n c) :
    Calls Try.prog 3 #[.agg #[.int .i64 a0_0, .int .i64 a0_1, .int .i64 a0_2, .int .i64 a0_3, .int .i32 a0_4, .int .i32 a0_5, .int .i32 a0_6], .slice p len cap] w fun e w' => e = .returned (.bool true) ∧ Below w.heap.size w w' := by
  obtain ⟨l1, u1⟩ := range_i64 w0_1
  have hone : ∀ k j, k < len → j < 3 → (g k j).oneCell' = true := fun k j hk hj => by
    obtain ⟨⟨v, h0, _⟩, ⟨b, h1⟩, q, n, c, h2⟩ := hg k hk
    have : j = 0 ∨ j = 1 ∨ j = 2 := by omega
    rcases this with rfl | rfl | rfl
    · rw [h0]; rfl
    · rw [h1]; rfl
    · rw [h2]; rfl
  let P0 : Int → Value := fun d => .int .u64 (pkI (IntKind.wrap .i32 (a0_4 + d)) 0)
  have hL : Leafy (leaves [.int .i64 a0_0, .int .i64 a0_1, .int .i64 a0_2, .int .i64 a0_3, .int .i32 a0_4, .int .i32 a0_5, .int .i32 a0_6, .slice p len cap, .bool true, .bool true, P0 0, P0 (-2), P0 (-1)]) := leaves_leafy rfl
  have e1 : leaves [.int .i64 a0_0, .int .i64 a0_1, .int .i64 a0_2, .int .i64 a0_3, .int .i32 a0_4, .int .i32 a0_5, .int .i32 a0_6, .slice p len cap, .bool true, .bool true, P0 0, P0 (-2), P0 (-1)] 1 = .int .i64 a0_1 := rfl
  have e4 : leaves [.int .i64 a0_0, .int .i64 a0_1, .int .i64 a0_2, .int .i64 a0_3, .int .i32 a0_4, .int .i32 a0_5, .int .i32 a0_6, .slice p len cap, .bool true, .bool true, P0 0, P0 (-2), P0 (-1)] 4 = .int .i32 a0_4 := rfl
  have e7 : leaves [.int .i64 a0_0, .int .i64 a0_1, .int .i64 a0_2, .int .i64 a0_3, .int .i32 a0_4, .int .i32 a0_5, .int .i32 a0_6, .slice p len cap, .bool true, .bool true, P0 0, P0 (-2), P0 (-1)] 7 = .slice p len cap := rfl
  have e10 : leaves [.int .i64 a0_0, .int .i64 a0_1, .int .i64 a0_2, .int .i64 a0_3, .int .i32 a0_4, .int .i32 a0_5, .int .i32 a0_6, .slice p len cap, .bool true, .bool true, P0 0, P0 (-2), P0 (-1)] 10 = P0 0 := rfl
  have e11 : leaves [.int .i64 a0_0, .int .i64 a0_1, .int .i64 a0_2, .int .i64 a0_3, .int .i32 a0_4, .int .i32 a0_5, .int .i32 a0_6, .slice p len cap, .bool true, .bool true, P0 0, P0 (-2), P0 (-1)] 11 = P0 (-2) := rfl
  have e12 : leaves [.int .i64 a0_0, .int .i64 a0_1, .int .i64 a0_2, .int .i64 a0_3, .int .i32 a0_4, .int .i32 a0_5, .int .i32 a0_6, .slice p len cap, .bool true, .bool true, P0 0, P0 (-2), P0 (-1)] 12 = P0 (-1) := rfl
  have hil : il (leaves [.int .i64 a0_0, .int .i64 a0_1, .int .i64 a0_2, .int .i64 a0_3, .int .i32 a0_4, .int .i32 a0_5, .int .i32 a0_6, .slice p len cap, .bool true, .bool true, P0 0, P0 (-2), P0 (-1)]) (env0 w) args = some [.agg #[.int .i64 a0_0, .int .i64 a0_1, .int .i64 a0_2, .int .i64 a0_3, .int .i32 a0_4, .int .i32 a0_5, .int .i32 a0_6], .slice p len cap] :=
    il_cons.2 ⟨_, _, rfl, il_cons.2 ⟨_, _, told_iv ht e7, il_nil, rfl⟩, rfl⟩
  generalize leaves [.int .i64 a0_0, .int .i64 a0_1, .int .i64 a0_2, .int .i64 a0_3, .int .i32 a0_4, .int .i32 a0_5, .int .i32 a0_6, .slice p len cap, .bool true, .bool true, P0 0, P0 (-2), P0 (-1)] = L0 at hL e1 e4 e7 e10 e11 e12 hil
  -- what calls are known to answer
  have hknown : ∀ L, (∀ j, j < 16 → L j = L0 j) → HookOk L (cfgI (isT a0_1)) := fun L hag => by
    have f1 : IE.eval L (.leaf 1) = a0_1 := by show valInt (L 1) = _; rw [hag 1 (by omega), e1]; rfl
    have f4 : IE.eval L (.leaf 4) = a0_4 := by show valInt (L 4) = _; rw [hag 4 (by omega), e4]; rfl
    have pk : ∀ (d : Int) (j : Nat), j < 16 → L0 j = P0 d → KnownV.Ok L Try.prog ⟨14, [(2, .bin .add .i32 (.leaf 4) (.lit d)), (6, .lit 0)], vx 7 (.leaf j)⟩ := fun d j hj hp => by
      refine ⟨by kernel_rfl, P0 d, fun e => ?_, fun w => ?_⟩
      · rw [iv3 rfl]
        show some (Value.int .u64 (valInt (L j))) = _
        rw [hag j hj, hp]
        rfl
      · show Calls Try.prog _ #[.int .i32 (IE.eval L (.bin .add .i32 (.leaf 4) (.lit d))), .int .u32 0] w _
        rw [eval_add, f4, eval_lit]
        exact (pack_any (IntKind.wrap .i32 (a0_4 + d)) 0 w (by omega) (by omega)).mono fun en w' ⟨h1, h2⟩ => ⟨h1, h2 ▸ Below.refl _ _⟩
    have rpk : ∀ (d : Int) (j : Nat), j < 16 → L0 j = P0 (-d) → KnownV.Ok L Try.prog ⟨24, [(2, .bin .sub .i32 (.leaf 4) (.lit d)), (6, .lit 0)], vx 7 (.leaf j)⟩ := fun d j hj hp => by
      refine ⟨by kernel_rfl, P0 (-d), fun e => ?_, fun w => ?_⟩
      · rw [iv3 rfl]
        show some (Value.int .u64 (valInt (L j))) = _
        rw [hag j hj, hp]
        rfl
      · show Calls Try.prog _ #[.int .i32 (IE.eval L (.bin .sub .i32 (.leaf 4) (.lit d))), .int .u32 0] w _
        rw [eval_sub, f4, eval_lit, Int.sub_eq_add_neg]
        have hw := wrap_i32 (a0_4 + -d)
        exact (rpack_any (IntKind.wrap .i32 (a0_4 + -d)) 0 w (by omega) (by omega) (by omega) (by omega)).mono fun en w' ⟨h1, h2⟩ => ⟨h1, h2 ▸ Below.refl _ _⟩
    refine hookOk_V rfl (by kernel_rfl) fixed14_true fun k hk => ?_
    simp only [asked, List.mem_cons, List.not_mem_nil, or_false] at hk
    rcases hk with rfl | rfl | rfl | rfl | rfl | rfl | rfl | rfl
    · refine ⟨by kernel_rfl, .bool (isT a0_1), fun e => iv_vb _, fun w => ?_⟩
      show Calls Try.prog _ #[.int .i64 (IE.eval L (.leaf 1))] w _
      rw [f1]
      exact (isTerm_any a0_1 w l1 u1).mono fun en w' ⟨h1, h2⟩ => ⟨h1, h2 ▸ Below.refl _ _⟩
    · refine ⟨by kernel_rfl, .bool (isT a0_1), fun e => iv_vb _, fun w => ?_⟩
      show Calls Try.prog _ #[.int .i64 (IE.eval L (.leaf 1))] w _
      rw [f1]
      exact (risTerm_any a0_1 w l1 u1).mono fun en w' ⟨h1, h2⟩ => ⟨h1, h2 ▸ Below.refl _ _⟩
    · exact pk 0 10 (by omega) e10
    · exact pk (-2) 11 (by omega) e11
    · exact pk (-1) 12 (by omega) e12
    · exact rpk 0 10 (by omega) e10
    · exact rpk 2 11 (by omega) e11
    · exact rpk 1 12 (by omega) e12
  generalize hbt : isT a0_1 = bt at hknown
  have hlen7 : ∀ L : Nat → Value, (∀ j, j < 16 → L j = L0 j) → IE.eval L (.len 7) = len := fun L hag => by
    show valLen (L 7) = _
    rw [hag 7 (by omega), e7]; rfl
  -- places that were told already
  have hgive : ∀ (L : Nat → Value), (∀ j, j < 16 → L j = L0 j) → ∀ (n i : Nat), n ≤ len → ∀ q ∈ firsts n, n ≤ 20 → ∀ l, (∀ q ∈ firsts n, q ∈ l) → GivOk (Lth (fresh l) (toldX g len i) L) (fun b => b < w.heap.size) w w.heap.size (toldAt 7 vos q) := fun L hag n i hn q hq hn20 l hl => by
    obtain ⟨h1, h2⟩ := firsts_mem hq
    refine given_told ht (by rw [fresh_low (by omega), hag 7 (by omega), e7]) (i := q.1) (by omega) (fun L' _ => by rw [h2]; rfl) (by show 3 ≤ 3; omega) fun t v hv L' e' hag' => ?_
    have hx : ∀ t, t < 3 → L' (20 + 3 * q.1 + t) = g q.1 t := fun t ht => by
      rw [hag' _ (by omega), fresh_at (hl q hq) ht]
      unfold toldX
      rw [if_neg (by omega), if_pos (by omega)]
      congr 1 <;> omega
    have ht3 : t < 3 := (List.getElem?_eq_some_iff.1 hv).1
    have : t = 0 ∨ t = 1 ∨ t = 2 := by omega
    rcases this with rfl | rfl | rfl
    · cases hv; rw [iv17 rfl]; exact congrArg some (hx 0 (by omega))
    · cases hv; rw [iv17 rfl]; show some (L' (21 + 3 * q.1)) = _; rw [show 21 + 3 * q.1 = 20 + 3 * q.1 + 1 by omega]; exact congrArg some (hx 1 (by omega))
    · cases hv; rw [iv17 rfl]; show some (L' (22 + 3 * q.1)) = _; rw [show 22 + 3 * q.1 = 20 + 3 * q.1 + 2 by omega]; exact congrArg some (hx 2 (by omega))
  have hhere : ∀ (L : Nat → Value), (∀ j, j < 16 → L j = L0 j) → ∀ i : Nat, i < len → L 16 = .int .i64 (i : Int) → ∀ l, ((20, .leaf 16) : Nat × IE) ∈ l → GivOk (Lth (fresh l) (toldX g len i) L) (fun b => b < w.heap.size) w w.heap.size (toldAt 7 vos (20, .leaf 16)) := fun L hag i hi h16 l hl => by
    refine given_told ht (by rw [fresh_low (by omega), hag 7 (by omega), e7]) (i := i) hi (fun L' hag' => ?_) (by show 3 ≤ 3; omega) fun t v hv L' e' hag' => ?_
    · show valInt (L' 16) = _
      rw [hag' 16 (by omega), fresh_low (by omega), h16]; rfl
    · have hx : ∀ t, t < 3 → L' (80 + t) = g i t := fun t ht => by
        rw [hag' _ (by omega), show 80 + t = 20 + 3 * ((20, .leaf 16) : Nat × IE).1 + t from rfl, fresh_at hl ht]
        unfold toldX
        show (if 80 ≤ 20 + 3 * 20 + t then (if i < len ∧ 20 + 3 * 20 + t - 80 < 3 then g i (20 + 3 * 20 + t - 80) else _) else _) = _
        rw [if_pos (by omega), if_pos (by omega)]
        congr 1; omega
      have ht3 : t < 3 := (List.getElem?_eq_some_iff.1 hv).1
      have : t = 0 ∨ t = 1 ∨ t = 2 := by omega
      rcases this with rfl | rfl | rfl
      · cases hv; rw [iv17 rfl]; exact congrArg some (hx 0 (by omega))
      · cases hv; rw [iv17 rfl]; exact congrArg some (hx 1 (by omega))
      · cases hv; rw [iv17 rfl]; exact congrArg some (hx 2 (by omega))
  refine law_of (N := 74) Try.func3 has_body hil slots74 (by decide) (by decide) fun a ha => ?_
  show wps Try.prog _ _ body a w
  rw [takeDrop has_loop, wps_append]
  let Q : Exit → Act → World → Prop := lawPost Try.prog Try.f3 w
  -- behind the loop
  have hrest : ∀ (L : Nat → Value) (e : Env) (a' : Act) (w' : World), Leafy L → (∀ j, j < 16 → L j = L0 j) → e.low = w.heap.size → ARel L e over.tm 74 a' → Rel L (fun b => b < w.heap.size) w e over.st w' → wps Try.prog (Q .normal) Q (loopRest body) a' w' :=
    fun L e a' w' hLf hag hlow har hrr => SG.sound (fn := Try.f3) (n := 60) (X := fun _ => .bool true) (fun _ => rfl) hLf (c := cfgI bt) follows (extOk_of exts rfl exts_ok) (hknown L hag) har hrr (.fin 1) [] (z_all bt) (fun _ h => by cases h)
      fun _ a2 w2 e2 s2 hd hrun hr2 => post_fin hd hrun hr2
  have hloop : len ≤ 40 → ∀ m a' w', Head bt w L0 len m a' w' → wps Try.prog (Q .normal) Q (.block (loopId body) (.loop (loopBody body)) :: loopRest body) a' w' := fun h40 m a' w' hI => by
    refine wps_loop (Head bt w L0 len) hI fun m a' w' ⟨L, e, C, hLf, hag, hlow, har, hrr, hk⟩ => ?_
    have hOk : ∀ L', (∀ j, j < 16 → L' j = L0 j) → HookOk L' (cfgI bt) := hknown
    have one1 : Leafy (fun _ => Value.bool true) := fun _ => rfl
    have fol : (cfgI bt).P.follows .mixedOrders = true := follows
    have ext1 : ExtOk (cfgI bt) := extOk_of exts rfl exts_ok
    have more : ∀ (L1 : Nat → Value), (∀ j, j < 16 → L1 j = L0 j) → ∀ i, i < len → FactsOk L1 (moreF i) := fun L1 hag1 i hi => factsOk_of rfl ⟨by show (Int.ofNat i : Int) < IE.eval L1 (.len 7); rw [hlen7 L1 hag1]; simp; omega, by show (Int.ofNat i : Int) ≤ IE.eval L1 (.len 7); rw [hlen7 L1 hag1]; simp; omega, trivial⟩
    have last : ∀ (L1 : Nat → Value), (∀ j, j < 16 → L1 j = L0 j) → FactsOk L1 (lastF len) := fun L1 hag1 => factsOk_of rfl ⟨by show IE.eval L1 (.len 7) ≤ (Int.ofNat len : Int); rw [hlen7 L1 hag1]; simp, by show (Int.ofNat len : Int) ≤ IE.eval L1 (.len 7); rw [hlen7 L1 hag1]; simp, trivial⟩
    have moreL1 : ∀ (L1 : Nat → Value), (∀ j, j < 16 → L1 j = L0 j) → ∀ i : Nat, L1 16 = .int .i64 (i : Int) → i < len → FactsOk L1 moreL := fun L1 hag1 i h16 hi => factsOk_of rfl ⟨by show valInt (L1 16) < IE.eval L1 (.len 7); rw [hlen7 L1 hag1, h16]; show (i : Int) < len; omega, by show valInt (L1 16) ≤ IE.eval L1 (.len 7); rw [hlen7 L1 hag1, h16]; show (i : Int) ≤ len; omega, trivial⟩
    have lastL1 : ∀ (L1 : Nat → Value), (∀ j, j < 16 → L1 j = L0 j) → L1 16 = .int .i64 (len : Int) → FactsOk L1 lastL := fun L1 hag1 h16 => factsOk_of rfl ⟨by show IE.eval L1 (.len 7) ≤ valInt (L1 16); rw [hlen7 L1 hag1, h16]; exact Int.le_refl _, by show valInt (L1 16) ≤ IE.eval L1 (.len 7); rw [hlen7 L1 hag1, h16]; exact Int.le_refl _, trivial⟩
    have next : ∀ (L1 : Nat → Value) (i : Nat), L1 16 = .int .i64 (i : Int) → i ≤ len → Lth [(16, nextL)] (fun _ => Value.bool true) L1 16 = .int .i64 ((i + 1 : Nat) : Int) := fun L1 i h16 hi => by
      show (Value.int .i64 (IE.eval L1 (.bin .add .i64 (.leaf 16) (.lit 1)))) = _
      rw [eval_add, eval_lit]
      show Value.int .i64 (IntKind.wrap .i64 (valInt (L1 16) + 1)) = _
      rw [h16]
      show Value.int .i64 (IntKind.wrap .i64 ((i : Int) + 1)) = _
      have h5 : IntKind.wrap .i64 ((i : Int) + 1) = ((i + 1 : Nat) : Int) := by rw [wrap_i64]; omega
      rw [h5]
    have low16 : ∀ (v : V) (L1 : Nat → Value), (∀ j, j < 16 → L1 j = L0 j) → ∀ (L2 : Nat → Value), (∀ j, j < 1000 → L2 j = Lth [(16, v)] (fun _ => Value.bool true) L1 j) → ∀ j, j < 16 → L2 j = L0 j := fun v L1 hag1 L2 hag2 j hj => by
      rw [hag2 j (by omega), Lth_low rfl hj, hag1 j hj]
    rcases hk with ⟨S, i, rfl, s1, s8, s3, smay, hi, hil', rfl, rfl⟩ | ⟨S, i, rfl, s1, s8, s3, smay, hi, hil', h16, rfl, rfl⟩ | ⟨i, hbad, hi, h16, rfl, rfl⟩ | ⟨i, hi, h16, rfl, rfl⟩
    · -- an access of the machine's
      obtain ⟨hA, hB⟩ := band_true.1 (upTo_get (ab_all s1 s8) hi)
      rcases Nat.lt_or_ge i len with hlt | hge
      · obtain ⟨h1, h2⟩ := band_true.1 hA
        obtain ⟨L1, e1', k1, k2, k3, k4, k5⟩ := fits_sound (X := toldX g len 0) (toldX_leafy hone 0) hLf h1 har hrr (by
          rw [hlow]
          intro gv hgv
          obtain ⟨q, hq, rfl⟩ := List.mem_map.1 hgv
          exact hgive L hag (i + 1) 0 (by omega) q hq (by omega) _ fun q hq => hq)
        have hag1 : ∀ j, j < 16 → L1 j = L0 j := fun j hj => by rw [k1 j (by omega), fresh_low (by omega), hag j hj]
        refine SG.sound (fn := Try.f3) (n := 60) one1 k2 fol ext1 (hOk L1 hag1) k4 k5 _ _ h2 (factsOk_append.2 ⟨more L1 hag1 i hlt, good_ok (by rw [hag1 3 (by omega)]; exact s3) (facts_below hag1 may_low smay)⟩) ?_
        refine fun _ => ⟨fun _ h => by (cases h), fun L2 e2 a2 w2 hag2 hl2 hlow2 har2 hrr2 => ?_⟩
        by_cases hend : i + 1 = 6 + S
        · have hth : thAt S (i + 1) = [(16, vi 3 (.ofNat (i + 1)))] := by unfold thAt; rw [sel_eq, if_pos (beq_true.2 hend)]
          have hia : iAt S (i + 1) = vx 3 (.leaf 16) := by unfold iAt; rw [sel_eq, if_pos (beq_true.2 hend)]
          rw [hth] at hag2
          rw [hia, hend] at har2 hrr2
          refine ⟨len + 2 - (i + 1), by omega, L2, e2, idle S [], hl2, low16 _ L1 hag1 L2 hag2, hlow2.trans (k3.trans hlow), har2, hrr2, .inr (.inl ⟨S, i + 1, rfl, s1, s8, s3, smay, by omega, by omega, ?_, rfl, rfl⟩)⟩
          rw [hag2 16 (by omega)]
          rfl
        · have hth : thAt S (i + 1) = [] := by unfold thAt; rw [sel_eq, if_neg (fun hc => hend (beq_true.1 hc))]
          have hia : iAt S (i + 1) = vi 3 (.ofNat (i + 1)) := by unfold iAt; rw [sel_eq, if_neg (fun hc => hend (beq_true.1 hc))]
          rw [hth] at hag2
          rw [hia] at har2 hrr2
          exact ⟨len + 2 - (i + 1), by omega, L2, e2, _, hl2, fun j hj => by rw [hag2 j (by omega)]; exact hag1 j hj, hlow2.trans (k3.trans hlow), har2, hrr2, .inl ⟨S, i + 1, rfl, s1, s8, s3, smay, by omega, by omega, rfl, rfl⟩⟩
      · obtain rfl : i = len := by omega
        obtain ⟨h1, h2⟩ := band_true.1 hB
        obtain ⟨L1, e1', k1, k2, k3, k4, k5⟩ := fits_sound (X := toldX g i 0) (toldX_leafy hone 0) hLf h1 har hrr (by
          rw [hlow]
          intro gv hgv
          obtain ⟨q, hq, rfl⟩ := List.mem_map.1 hgv
          exact hgive L hag i 0 (by omega) q hq (by omega) _ fun q hq => hq)
        have hag1 : ∀ j, j < 16 → L1 j = L0 j := fun j hj => by rw [k1 j (by omega), fresh_low (by omega), hag j hj]
        refine SG.sound (fn := Try.f3) (n := 60) one1 k2 fol ext1 (hOk L1 hag1) k4 k5 _ _ h2 (factsOk_append.2 ⟨last L1 hag1, good_ok (by rw [hag1 3 (by omega)]; exact s3) (facts_below hag1 may_low smay)⟩) ?_
        refine fun _ => ⟨fun _ h => by (cases h), fun L2 e2 a2 w2 hag2 hl2 hlow2 har2 hrr2 => ?_⟩
        exact ⟨0, by omega, L2, e2, _, hl2, low16 _ L1 hag1 L2 hag2, hlow2.trans (k3.trans hlow), har2, hrr2, .inr (.inr (.inr ⟨i + 1, by omega, by rw [hag2 16 (by omega)]; rfl, rfl, rfl⟩))⟩
    · -- nothing to do any more
      rcases Nat.lt_or_ge i len with hlt | hge
      · obtain ⟨h1, h2⟩ := band_true.1 (c_all s1 s8)
        obtain ⟨L1, e1', k1, k2, k3, k4, k5⟩ := fits_sound (X := toldX g len i) (toldX_leafy hone i) hLf h1 har hrr (by
          rw [hlow]
          intro gv hgv
          obtain ⟨q, hq, rfl⟩ := List.mem_map.1 hgv
          rcases List.mem_append.1 hq with hq | hq
          · exact hgive L hag (6 + S) i (by omega) q hq (by omega) _ fun q hq => List.mem_append_left _ hq
          · obtain rfl : q = (20, .leaf 16) := by simpa [here] using hq
            exact hhere L hag i hlt h16 _ (List.mem_append_right _ (by simp [here])))
        have hag1 : ∀ j, j < 16 → L1 j = L0 j := fun j hj => by rw [k1 j (by omega), fresh_low (by omega), hag j hj]
        have g16 : L1 16 = .int .i64 (i : Int) := by rw [k1 16 (by omega), fresh_low (by omega), h16]
        refine SG.sound (fn := Try.f3) (n := 60) one1 k2 fol ext1 (hOk L1 hag1) k4 k5 _ _ h2 (factsOk_append.2 ⟨moreL1 L1 hag1 i g16 hlt, factsOk_append.2 ⟨past_ok (by rw [g16]; rfl) _ hi, good_ok (by rw [hag1 3 (by omega)]; exact s3) (facts_below hag1 may_low smay)⟩⟩) ?_
        refine fun _ => ⟨fun _ h => by (cases h), fun L2 e2 a2 w2 hag2 hl2 hlow2 har2 hrr2 => ?_⟩
        exact ⟨len + 2 - (i + 1), by omega, L2, e2, _, hl2, low16 _ L1 hag1 L2 hag2, hlow2.trans (k3.trans hlow), har2, hrr2, .inr (.inl ⟨S, i + 1, rfl, s1, s8, s3, smay, by omega, by omega, by rw [hag2 16 (by omega), next L1 i g16 hil'], rfl, rfl⟩)⟩
      · obtain rfl : i = len := by omega
        obtain ⟨h1, h2⟩ := band_true.1 (d_all s1 s8)
        obtain ⟨L1, e1', k1, k2, k3, k4, k5⟩ := fits_sound (X := toldX g i 0) (toldX_leafy hone 0) hLf h1 har hrr (by
          rw [hlow]
          intro gv hgv
          obtain ⟨q, hq, rfl⟩ := List.mem_map.1 hgv
          exact hgive L hag (6 + S) 0 (by omega) q hq (by omega) _ fun q hq => hq)
        have hag1 : ∀ j, j < 16 → L1 j = L0 j := fun j hj => by rw [k1 j (by omega), fresh_low (by omega), hag j hj]
        have g16 : L1 16 = .int .i64 (i : Int) := by rw [k1 16 (by omega), fresh_low (by omega), h16]
        refine SG.sound (fn := Try.f3) (n := 60) one1 k2 fol ext1 (hOk L1 hag1) k4 k5 _ _ h2 (factsOk_append.2 ⟨lastL1 L1 hag1 g16, factsOk_append.2 ⟨past_ok (by rw [g16]; rfl) _ hi, good_ok (by rw [hag1 3 (by omega)]; exact s3) (facts_below hag1 may_low smay)⟩⟩) ?_
        refine fun _ => ⟨fun _ h => by (cases h), fun L2 e2 a2 w2 hag2 hl2 hlow2 har2 hrr2 => ?_⟩
        exact ⟨0, by omega, L2, e2, _, hl2, low16 _ L1 hag1 L2 hag2, hlow2.trans (k3.trans hlow), har2, hrr2, .inr (.inr (.inr ⟨i + 1, by omega, by rw [hag2 16 (by omega), next L1 i g16 hil'], rfl, rfl⟩))⟩
    · -- a log that may not be
      have tree : ∀ (r : SG) (L1 : Nat → Value), (∀ j, j < 16 → L1 j = L0 j) → ∀ (Qx : Exit → Act → World → Prop) (fs : List Fact) , (∀ fs', r.Holds (fun _ => Value.bool true) L1 (fun b => b < w.heap.size) w w.heap.size Try.prog Try.f3 74 Qx fs') →
          (sel bt (mayTree r mayF) r).Holds (fun _ => Value.bool true) L1 (fun b => b < w.heap.size) w w.heap.size Try.prog Try.f3 74 Qx fs := fun r L1 hag1 Qx fs hr => by
        cases bt with
        | false => exact hr fs
        | true =>
          have key : ∀ (l : List Fact) (fs : List Fact), (FactsOk L1 fs → FactsOk L1 l → False) → (mayTree r l).Holds (fun _ => Value.bool true) L1 (fun b => b < w.heap.size) w w.heap.size Try.prog Try.f3 74 Qx fs := by
            intro l
            induction l with
            | nil => intro fs h hF; exact h hF fun _ h => by cases h
            | cons f l ih =>
              intro fs h
              have hnext : ∀ b, b = f.r → (mayTree r l).Holds (fun _ => Value.bool true) L1 (fun b => b < w.heap.size) w w.heap.size Try.prog Try.f3 74 Qx (⟨f.op, f.a, f.b, b⟩ :: fs) := fun b hb => ih _ fun hF hl => h (fun q hq => hF q (List.mem_cons_of_mem _ hq)) (factsOk_cons (by have := hF _ List.mem_cons_self; rw [hb] at this; exact this) hl)
              show SG.Holds _ _ _ _ _ _ _ _ _ (sel f.r (mayTree r l) r) _ ∧ SG.Holds _ _ _ _ _ _ _ _ _ (sel f.r r (mayTree r l)) _
              cases hfr : f.r with
              | true => exact ⟨hnext true hfr.symm, hr _⟩
              | false => exact ⟨hr _, hnext false hfr.symm⟩
          exact key mayF fs fun _ hm => hbad rfl (facts_below (fun j hj => (hag1 j hj).symm) may_low hm)
      rcases Nat.lt_or_ge i len with hlt | hge
      · obtain ⟨h1, h2⟩ := band_true.1 (e_all bt)
        obtain ⟨L1, e1', k1, k2, k3, k4, k5⟩ := fits_sound (X := toldX g len i) (toldX_leafy hone i) hLf h1 har hrr (by
          rw [hlow]
          intro gv hgv
          obtain ⟨q, hq, rfl⟩ := List.mem_map.1 hgv
          obtain rfl : q = (20, .leaf 16) := by simpa [here] using hq
          exact hhere L hag i hlt h16 _ (by simp [here]))
        have hag1 : ∀ j, j < 16 → L1 j = L0 j := fun j hj => by rw [k1 j (by omega), fresh_low (by omega), hag j hj]
        have g16 : L1 16 = .int .i64 (i : Int) := by rw [k1 16 (by omega), fresh_low (by omega), h16]
        refine SG.sound (fn := Try.f3) (n := 60) one1 k2 fol ext1 (hOk L1 hag1) k4 k5 _ _ h2 (factsOk_append.2 ⟨moreL1 L1 hag1 i g16 hlt, past_ok (by rw [g16]; rfl) 0 (by omega)⟩) ?_
        rw [show e1'.low = w.heap.size from k3.trans hlow]
        refine tree _ L1 hag1 _ _ fun fs' _ => ⟨fun _ h => by (cases h), fun L2 e2 a2 w2 hag2 hl2 hlow2 har2 hrr2 => ?_⟩
        exact ⟨len + 2 - (i + 1), by omega, L2, e2, _, hl2, low16 _ L1 hag1 L2 hag2, hlow2, har2, hrr2, .inr (.inr (.inl ⟨i + 1, hbad, by omega, by rw [hag2 16 (by omega), next L1 i g16 hi], rfl, rfl⟩))⟩
      · obtain rfl : i = len := by omega
        refine SG.sound (fn := Try.f3) (n := 60) one1 hLf fol ext1 (hOk L hag) har hrr _ _ (g_all bt) (factsOk_append.2 ⟨lastL1 L hag h16, past_ok (by rw [h16]; rfl) 0 (by omega)⟩) ?_
        rw [hlow]
        refine tree _ L hag _ _ fun fs' _ => ⟨fun _ h => by (cases h), fun L2 e2 a2 w2 hag2 hl2 hlow2 har2 hrr2 => ?_⟩
        exact ⟨0, by omega, L2, e2, _, hl2, low16 _ L hag L2 hag2, hlow2, har2, hrr2, .inr (.inr (.inr ⟨i + 1, by omega, by rw [hag2 16 (by omega), next L i h16 hi], rfl, rfl⟩))⟩
    · -- all rounds are done
      refine SG.sound (fn := Try.f3) (n := 60) one1 hLf fol ext1 (hOk L hag) har hrr (.run 2 over []) outL (o_all bt) (factsOk_of (gs := outL) rfl ⟨by show IE.eval L (.len 7) < valInt (L 16); rw [hlen7 L hag, h16]; show (len : Int) < i; omega, trivial⟩) ?_
      refine fun _ => ⟨fun _ h => by (cases h), fun L2 e2 a2 w2 hag2 hl2 hlow2 har2 hrr2 => ?_⟩
      show (if 0 = loopId body then wps Try.prog (Q .normal) Q (loopRest body) a2 w2 else Q (.exit 0) a2 w2)
      rw [if_pos loop_id.symm]
      exact hrest L2 e2 a2 w2 hl2 (fun j hj => by rw [hag2 j (by omega)]; exact hag j hj) (hlow2.trans hlow) har2 hrr2
  -- ahead of the loop
  have le40 : ∀ fs, (⟨.lss, .lit 40, .len 7, false⟩ : Fact) ∈ fs → FactsOk L0 fs → len ≤ 40 := fun fs hm hF => by
    obtain ⟨g1, hg1, hr1⟩ := hF _ hm
    cases hg1
    have hr1 : ltF 40 (IE.eval L0 (.len 7)) = false := hr1
    rw [ltF_eq, hlen7 L0 fun _ _ => rfl] at hr1
    have hr1 := of_decide_eq_false hr1
    omega
  have toBadOk : ∀ fs, (⟨.lss, .lit 40, .len 7, false⟩ : Fact) ∈ fs → (bt = true → FactsOk L0 fs → ¬ FactsOk L0 mayF) → SG.Holds (fun _ => Value.bool true) L0 (fun b => b < w.heap.size) w w.heap.size Try.prog Try.f3 74 (Exit.then (wps Try.prog (Q .normal) Q (.block (loopId body) (.loop (loopBody body)) :: loopRest body)) Q) toBad fs := fun fs hm hb hF =>
    ⟨fun _ h => by (cases h), fun L2 e2 a2 w2 hag2 hl2 hlow2 har2 hrr2 => hloop (le40 fs hm hF) (len + 2) a2 w2 ⟨L2, e2, _, hl2, fun j hj => by rw [hag2 j (by omega), Lth_low rfl hj], hlow2, har2, hrr2, .inr (.inr (.inl ⟨0, fun hbt => hb hbt hF, by omega, by rw [hag2 16 (by omega)]; rfl, rfl, by omega⟩))⟩⟩
  have finOk : ∀ fs, SG.Holds (fun _ => Value.bool true) L0 (fun b => b < w.heap.size) w w.heap.size Try.prog Try.f3 74 (Exit.then (wps Try.prog (Q .normal) Q (.block (loopId body) (.loop (loopBody body)) :: loopRest body)) Q) (.fin 1) fs := fun fs _ a2 w2 e2 s2 hd hrun hr2 => post_fin hd hrun hr2
  have hst := Rel.start0 L0 w
  cases bt with
  | false =>
    exact SG.sound (fn := Try.f3) (n := 60) (X := fun _ => .bool true) (fun _ => rfl) hL (c := cfgI false) follows (extOk_of exts rfl exts_ok) (hknown L0 fun _ _ => rfl) ha hst treeF [] pF (fun _ h => by cases h) ⟨finOk _, toBadOk _ (by simp) fun h => by cases h⟩
  | true =>
    have mem : ∀ {f : Fact} {fs : List Fact}, f ∈ fs → FactsOk L0 fs → ∃ g, cmpB f.op = some g ∧ g (f.a.eval L0) (f.b.eval L0) = f.r := fun h hF => hF _ h
    -- what is said both ways can't be
    have clash : ∀ (f : Fact) (fs : List Fact), f ∈ mayF → (⟨f.op, f.a, f.b, !f.r⟩ : Fact) ∈ fs → FactsOk L0 fs → ¬ FactsOk L0 mayF := fun f fs h1 h2 hF hM => by
      obtain ⟨g1, hg1, hr1⟩ := hM f h1
      obtain ⟨g2, hg2, hr2⟩ := hF _ h2
      have hg2 : cmpB f.op = some g2 := hg2
      have hr2 : g2 (f.a.eval L0) (f.b.eval L0) = !f.r := hr2
      rw [hg1] at hg2
      cases hg2
      rw [hr1] at hr2
      cases hfr : f.r <;> rw [hfr] at hr2 <;> cases hr2
    have toGoodOk : ∀ (S : Nat) (fs : List Fact), (⟨.lss, .lit 40, .len 7, false⟩ : Fact) ∈ fs → 1 ≤ S → S ≤ 8 → (FactsOk L0 fs → valInt (L0 3) = (S : Int)) → (FactsOk L0 fs → FactsOk L0 mayF) → SG.Holds (fun _ => Value.bool true) L0 (fun b => b < w.heap.size) w w.heap.size Try.prog Try.f3 74 (Exit.then (wps Try.prog (Q .normal) Q (.block (loopId body) (.loop (loopBody body)) :: loopRest body)) Q) (toGood S) fs := fun S fs hm s1 s8 hS hM hF =>
      ⟨fun _ h => by (cases h), fun L2 e2 a2 w2 hag2 hl2 hlow2 har2 hrr2 => hloop (le40 fs hm hF) (len + 2) a2 w2 ⟨L2, e2, _, hl2, fun j hj => hag2 j (by omega), hlow2, har2, hrr2, .inl ⟨S, 0, rfl, s1, s8, hS hF, hM hF, by omega, by omega, rfl, by omega⟩⟩⟩
    have subsOk : ∀ (n k : Nat) (fs : List Fact), (⟨.lss, .lit 40, .len 7, false⟩ : Fact) ∈ fs → n + k = 8 → (FactsOk L0 fs → (k : Int) ≤ valInt (L0 3) ∧ 1 ≤ valInt (L0 3) ∧ valInt (L0 3) ≤ 8) → (FactsOk L0 fs → FactsOk L0 mayF) → SG.Holds (fun _ => Value.bool true) L0 (fun b => b < w.heap.size) w w.heap.size Try.prog Try.f3 74 (Exit.then (wps Try.prog (Q .normal) Q (.block (loopId body) (.loop (loopBody body)) :: loopRest body)) Q) (subsTree n k) fs := by
      intro n
      induction n with
      | zero =>
        intro k fs hm hk hS hM
        obtain rfl : k = 8 := by omega
        exact toGoodOk 8 fs hm (by omega) (by omega) (fun hF => by have := hS hF; omega) hM
      | succ n ih =>
        intro k fs hm hk hS hM
        have tail : ∀ b, FactsOk L0 ((⟨.lss, .lit (.ofNat k), .leaf 3, b⟩ : Fact) :: fs) → FactsOk L0 fs := fun b hF f hf => hF f (List.mem_cons_of_mem _ hf)
        have says : ∀ b, FactsOk L0 ((⟨.lss, .lit (.ofNat k), .leaf 3, b⟩ : Fact) :: fs) → decide ((k : Int) < valInt (L0 3)) = b := fun b hF => by
          obtain ⟨g, hg, hr⟩ := hF _ List.mem_cons_self
          cases hg
          have hr : ltF (Int.ofNat k) (valInt (L0 3)) = b := hr
          rw [ltF_eq] at hr
          exact hr
        refine ⟨ih (k + 1) _ (List.mem_cons_of_mem _ hm) (by omega) (fun hF => ?_) (fun hF => hM (tail _ hF)), ?_⟩
        · have h1 := of_decide_eq_true (says true hF)
          have h2 := hS (tail _ hF)
          exact ⟨by omega, h2.2⟩
        · show SG.Holds _ _ _ _ _ _ _ _ _ (sel (Nat.beq k 0) .dead (toGood k)) _
          rw [sel_eq]
          split
          · rename_i h0
            have h0 := beq_true.1 h0
            intro hF
            have h1 := of_decide_eq_false (says false hF)
            have h2 := hS (tail _ hF)
            omega
          · rename_i h0
            have h0 : k ≠ 0 := fun hc => h0 (beq_true.2 hc)
            exact toGoodOk k _ (List.mem_cons_of_mem _ hm) (by omega) (by omega) (fun hF => by have h1 := of_decide_eq_false (says false hF); have h2 := hS (tail _ hF); omega) (fun hF => hM (tail _ hF))
    refine SG.sound (fn := Try.f3) (n := 60) (X := fun _ => .bool true) (fun _ => rfl) hL (c := cfgI true) follows (extOk_of exts rfl exts_ok) (hknown L0 fun _ _ => rfl) ha hst treeT [] pT (fun _ h => by cases h) ?_
    refine ⟨finOk _, toBadOk _ (by simp) fun _ => clash ⟨.lss, .leaf 3, .lit 1, false⟩ _ (by simp [mayF]) (by simp), toBadOk _ (by simp) fun _ => clash ⟨.lss, .lit 8, .leaf 3, false⟩ _ (by simp [mayF]) (by simp), toBadOk _ (by simp) fun _ => clash ⟨.lss, .leaf 2, .lit 32, false⟩ _ (by simp [mayF]) (by simp),
      toBadOk _ (by simp) fun _ => clash ⟨.lss, .bin .quo .i64 (.leaf 1) (.lit 8), .leaf 2, false⟩ _ (by simp [mayF]) (by simp), ⟨toBadOk _ (by simp) fun _ => clash ⟨.lss, .leaf 0, .lit 0, false⟩ _ (by simp [mayF]) (by simp),
      toBadOk _ (by simp) fun _ => clash ⟨.lss, .bin .sub .i64 (.bin .sub .i64 (.lit 131072) (.bin .mul .i64 (.lit 3) (.leaf 1))) (.lit 128), .leaf 0, false⟩ _ (by simp [mayF]) (by simp), ⟨?_, toBadOk _ (by simp) fun _ => clash ⟨.eql, .bin .rem .i64 (.leaf 0) (.lit 8), .lit 0, true⟩ _ (by simp [mayF]) (by simp)⟩⟩,
      toBadOk _ (by simp) fun _ => clash ⟨.eql, .bin .rem .i64 (.leaf 2) (.lit 32), .lit 0, true⟩ _ (by simp [mayF]) (by simp)⟩
    refine subsOk 8 0 _ (by simp) (by omega) (fun hF => ?_) (fun hF f hf => ?_)
    · obtain ⟨g1, hg1, hr1⟩ := mem (f := ⟨.lss, .leaf 3, .lit 1, false⟩) (by simp) hF
      obtain ⟨g2, hg2, hr2⟩ := mem (f := ⟨.lss, .lit 8, .leaf 3, false⟩) (by simp) hF
      cases hg1
      cases hg2
      have hr1 : ltF (valInt (L0 3)) 1 = false := hr1
      have hr2 : ltF 8 (valInt (L0 3)) = false := hr2
      rw [ltF_eq] at hr1 hr2
      have hr1 := of_decide_eq_false hr1
      have hr2 := of_decide_eq_false hr2
      exact ⟨by omega, by omega, by omega⟩
    · refine hF f ?_
      simp only [mayF, List.mem_cons, List.not_mem_nil, or_false] at hf
      rcases hf with rfl | rfl | rfl | rfl | rfl | rfl | rfl | rfl <;> simp

set_option maxRecDepth 100000 in
theorem lifted (os : Os) (started : os.Started) (H : Type) (enc : TypeId × Value → H) :
    ReturnsInHanded {} Try.checked os 3 .any (Rows.metaInitSpec.pre6 enc Try.prog Try.f3 Rows.metaInitRow.domain false) (Rows.metaInitSpec.post enc Try.prog Try.f3 false true false false) := by
  refine returnsInHanded_of_change (C := Try.checked) own started (by kernel_rfl) Try.func3
    (ChangeSpec.witness6 (enc := enc) (C := Try.checked) false ⟨#[], #[.agg #[.int .i64 0, .int .i64 0, .int .i64 0, .int .i64 0, .int .i32 0, .int .i32 0, .int .i32 0], .slice none 0 0], []⟩ 8 (by kernel_rfl) (by kernel_rfl) (by kernel_rfl) (by kernel_rfl)) ?_
  intro W base args ds gs before hval0 hW hcnd _
  have hval : ∀ (j : Nat) t v, Try.f3.params[j]? = some t → args[j]? = some v → Value.okWide Try.prog W .any base t v := hval0
  have hW' := hW
  obtain ⟨p, q, hA0, hV, rfl, hfz, hnd⟩ := hW
  have hA : DataW.TrodAll enc Try.prog W 0 (fun _ => true) true Try.f3.params.toList args.toList ds p := hA0
  rw [Try.params3] at hA hval
  obtain ⟨v0, vs0, d0, ds0, p0, q0, hargs, rfl, rfl, h0, r0⟩ := trodAll_cons hA
  obtain ⟨v1, vs1, d1, ds1, p1, q1, rfl, rfl, rfl, h1, r1⟩ := trodAll_cons r0
  obtain ⟨rfl, rfl, rfl⟩ := trodAll_nil r1
  obtain rfl : args = #[v0, v1] := by cases args; simp_all
  obtain ⟨rfl, rfl⟩ := trodVars_none hV
  have k0 := h0
  have lt0 : ∀ x ∈ p0, x.block < W.heap.size := by obtain ⟨m, hm⟩ := k0; exact DataW.trod_lt m _ _ _ hm
  obtain ⟨c0_0, c0_1, c0_2, c0_3, c0_4, c0_5, c0_6, _, _, _, _, _, _, _, n0, rfl, t0_0, t0_1, t0_2, t0_3, t0_4, t0_5, t0_6⟩ := open_aggs7 Try.underlying23 (by kernel_rfl) (by kernel_rfl) (hval 0 23 v0 rfl rfl) h0
  obtain ⟨a0_0, e0_0, _, w0_0⟩ := DataW.trod_int Try.underlying3 t0_0
  obtain rfl : c0_0 = .int .i64 a0_0 := by simpa using e0_0
  obtain ⟨a0_1, e0_1, _, w0_1⟩ := DataW.trod_int Try.underlying3 t0_1
  obtain rfl : c0_1 = .int .i64 a0_1 := by simpa using e0_1
  obtain ⟨a0_2, e0_2, _, w0_2⟩ := DataW.trod_int Try.underlying3 t0_2
  obtain rfl : c0_2 = .int .i64 a0_2 := by simpa using e0_2
  obtain ⟨a0_3, e0_3, _, w0_3⟩ := DataW.trod_int Try.underlying3 t0_3
  obtain rfl : c0_3 = .int .i64 a0_3 := by simpa using e0_3
  obtain ⟨a0_4, e0_4, _, w0_4⟩ := DataW.trod_int Try.underlying21 t0_4
  obtain rfl : c0_4 = .int .i32 a0_4 := by simpa using e0_4
  obtain ⟨a0_5, e0_5, _, w0_5⟩ := DataW.trod_int Try.underlying21 t0_5
  obtain rfl : c0_5 = .int .i32 a0_5 := by simpa using e0_5
  obtain ⟨a0_6, e0_6, _, w0_6⟩ := DataW.trod_int Try.underlying21 t0_6
  obtain rfl : c0_6 = .int .i32 a0_6 := by simpa using e0_6
  obtain ⟨a1, len1, cap1, rfl⟩ := okWide_slice Try.underlying24 (hval 1 24 v1 rfl rfl)
  have k1 := h1
  have lt1 : ∀ x ∈ p1, x.block < W.heap.size := by obtain ⟨m, hm⟩ := k1; exact DataW.trod_lt m _ _ _ hm
  obtain ⟨g1, w1, m1, t1⟩ : ∃ g, Go.X.Told W a1 len1 cap1 g ∧ len1 ≤ maxLen ∧ ∀ k, k < len1 → (∃ v, g k 0 = .int .u64 v ∧ (Lit.int .u64 v).wf = true) ∧ (∃ b, g k 1 = .bool b) ∧ ∃ p n c, g k 2 = .slice p n c := by
    obtain ⟨fuel, hf⟩ := h1
    obtain ⟨p, l, c, g, hcs, h1, h2, h3⟩ := Go.X.open_told Try.underlying24 Try.underlying41 (by kernel_rfl) (by kernel_rfl) Try.underlying29 Try.underlying4 Try.underlying30 hf
    simp [Value.cells] at hcs
    obtain ⟨rfl, rfl, rfl⟩ := hcs
    exact ⟨g, h1, h2, h3⟩
  clear hA0 hval0
  refine (walk a0_0 a0_1 a0_2 a0_3 a0_4 a0_5 a0_6 a1 len1 cap1 g1 W w0_0 w0_1 w0_2 w0_3 w0_4 w0_5 w0_6 w1 m1 t1).mono fun e W' ⟨he, bel⟩ => ?_
  subst he
  exact ⟨_, rfl, _, _, _, [], _, [], hW', trodAll_mk1 (shut_bool Try.underlying4 _), (trodAll_cons_mk (Below.trod laidOut (by kernel_rfl) (of_decide_eq_true (by kernel_rfl)) k0 bel lt0) (trodAll_cons_mk (Below.trod laidOut (by kernel_rfl) (of_decide_eq_true (by kernel_rfl)) k1 bel lt1) trodAll_mk0)), rfl, bel.frame _, fun h => by cases h⟩

theorem overAll : Rows.metaInitRow.holds Try.pinned (OpenSpec.ofChange Rows.metaInitSpec) :=
  OpenClaim.holds_of_wide 3 Try.f3 rfl rfl rfl rfl rfl rfl rfl ⟨rfl, rfl, rfl, rfl, rfl⟩ rfl rfl rfl rfl rfl (by as_aux_lemma => kernel_rfl) Try.func3 (by as_aux_lemma => kernel_rfl)
    (of_decide_eq_true (by as_aux_lemma => kernel_rfl)) (by unfold Func.isWrapper; first | (rw [if_pos (by decide +kernel)]; kernel_rfl) | (rw [if_neg (by decide +kernel)]; exact ⟨rfl, rfl⟩))
    (fun os started H enc _ => lifted os started H enc)

theorem proved : Rows.MetaInitSaid := overAll
#print axioms proved
end Go.Proofs.Ytlgpfopipkiabaa.metaInit
