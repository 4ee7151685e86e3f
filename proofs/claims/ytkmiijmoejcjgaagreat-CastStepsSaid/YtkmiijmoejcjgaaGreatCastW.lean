/- A send: the statement's loop, whatever was told; a machine that is ready turn by turn. -/
import Derived.Test.YtkmiijmoejcjgaaGreatCastP
namespace Go.Proofs.YtkmiijmoejcjgaaGreat.castSteps
open Go.X Go.Proofs.YtkmiijmoejcjgaaGreat.rk
set_option linter.unusedSimpArgs false
set_option linter.unusedVariables false

theorem slots69 : Tryz.f3.ntmps = 69 := by kernel_rfl
theorem has_body : Tryz.f3.body.isSome = true := by kernel_rfl
theorem has_loop : hasLoop body = true := by kernel_rfl
theorem has_rest : hasLoop rest = true := by kernel_rfl
theorem loop_id : loopId body = 0 := by kernel_rfl
theorem rest_id : loopId rest = 2 := by kernel_rfl

/-! Leaves: all but 19 and 990 to 992 stay what they are. -/

def fixedLeaf (j : Nat) : Bool := Nat.blt j 19 || (Nat.ble 20 j && Nat.blt j 990) || Nat.ble 4096 j
def okI : IE → Bool
  | .lit _ => true
  | .leaf j => fixedLeaf j
  | .len j => fixedLeaf j
  | .bin _ _ a b => okI a && okI b
  | .conv _ a => okI a
  | .shl _ a _ => okI a
  | .shr a _ => okI a
def Agree (L L0 : Nat → Value) : Prop := ∀ j, fixedLeaf j = true → L j = L0 j
theorem Agree.refl (L : Nat → Value) : Agree L L := fun _ _ => rfl
theorem eval_ok {L L0 : Nat → Value} (h : Agree L L0) : ∀ {x : IE}, okI x = true → x.eval L = x.eval L0 := by
  intro x
  induction x with
  | lit => intro _; rfl
  | leaf j => intro hx; show valInt (L j) = valInt (L0 j); rw [h j hx]
  | len j => intro hx; show valLen (L j) = valLen (L0 j); rw [h j hx]
  | bin o k a b iha ihb => intro hx; simp only [okI, Bool.and_eq_true] at hx; simp only [IE.eval, iha hx.1, ihb hx.2]
  | conv k a iha => intro hx; simp only [IE.eval, iha hx]
  | shl k a m iha => intro hx; simp only [IE.eval, iha hx]
  | shr a m iha => intro hx; simp only [IE.eval, iha hx]
def FOk (fs : List Fact) : Prop := ∀ f ∈ fs, okI f.a = true ∧ okI f.b = true
theorem facts_ok {L L0 : Nat → Value} (h : Agree L L0) {fs : List Fact} (hb : FOk fs) (hF : FactsOk L0 fs) : FactsOk L fs := fun f hf => by
  obtain ⟨g, hg, hr⟩ := hF f hf
  exact ⟨g, hg, by rw [eval_ok h (hb f hf).1, eval_ok h (hb f hf).2]; exact hr⟩
theorem fok_of {fs : List Fact} (h : fs.all (fun f => okI f.a && okI f.b) = true) : FOk fs := fun f hf => by
  have := List.all_eq_true.1 h f hf
  simpa using this
theorem FOk.append {a b : List Fact} (h1 : FOk a) (h2 : FOk b) : FOk (a ++ b) := fun f hf => (List.mem_append.1 hf).elim (h1 f) (h2 f)
theorem Agree.symm {L L0 : Nat → Value} (h : Agree L L0) : Agree L0 L := fun j hj => (h j hj).symm

theorem off_th {th : List (Nat × V)} {X L L0 : Nat → Value} (h : th.all (fun q => Nat.beq q.1 19 || (Nat.ble 990 q.1 && Nat.blt q.1 993)) = true) (ha : Agree L L0) {L2 : Nat → Value} (h2 : ∀ j, j < 1000 ∨ 4096 ≤ j → L2 j = Lth th X L j) : Agree L2 L0 := fun j hj => by
  have hj' : (j < 1000 ∨ 4096 ≤ j) ∧ j ≠ 19 ∧ ¬ (990 ≤ j ∧ j < 993) := by
    unfold fixedLeaf at hj
    simp at hj
    omega
  rw [h2 j hj'.1, ← ha j hj]
  unfold Lth
  cases hq : thGet th j with
  | none => rfl
  | some u =>
    have := List.all_eq_true.1 h _ (thGet_mem hq)
    simp at this
    omega

/-- A machine that is ready at turn i: what each further turn does is reckoned. -/
inductive Ready (z : Bool) (L0 : Nat → Value) : Nat → List CO → Prop
  | step {i : Nat} {m m' : List CO} {fs fs' : List Fact} (h1 : FOk fs) (h2 : FactsOk L0 fs) (hex : i ≤ 60 → ex z i m fs = true) (h3 : FOk fs') (h4 : i ≤ 59 → FactsOk L0 fs') (hit : i ≤ 59 → it z i m m' fs' = true) (next : i ≤ 59 → Ready z L0 (i + 1) m') : Ready z L0 i m
  | stop {i : Nat} {m m' : List CO} {fs fs' : List Fact} (h1 : FOk fs) (h2 : FactsOk L0 fs) (hex : i ≤ 60 → ex z i m fs = true) (h3 : FOk fs') (h4 : i ≤ 59 → FactsOk L0 fs') (hit : i ≤ 59 → itE z i m m' fs' = true)
      (hA : i ≤ 58 → idleA true z (i + 1) m' fs' (.run 0 (state9 z [] [] m') [(19, next9)]) = true) (hB : i ≤ 59 → idleB true z (i + 1) m' fs' (.fin 1) = true) : Ready z L0 i m

/-- Whatever holds of r holds of G. -/
def Leads (L0 : Nat → Value) (G r : SG) : Prop := ∀ (X L1 : Nat → Value) (F : Nat → Prop) (w0 : World) (low : Nat) (P : Program) (fn : Func) (N : Nat) (Q : Exit → Act → World → Prop) (fs : List Fact),
  Agree L1 L0 → (∀ fs, r.Holds X L1 F w0 low P fn N Q fs) → G.Holds X L1 F w0 low P fn N Q fs
theorem Leads.refl (L0 : Nat → Value) (r : SG) : Leads L0 r r := fun _ _ _ _ _ _ _ _ _ fs _ h => h fs

/-- A machine that does nothing any more, from turn n on. -/
def Idle (q z : Bool) (L0 : Nat → Value) (n : Nat) (m : List CO) : Prop := ∃ (fs : List Fact) (G H : SG), FOk fs ∧ FactsOk L0 fs ∧ (n ≤ 59 → idleA q z n m fs G = true) ∧ idleB q z n m fs H = true ∧ Leads L0 G (.run 0 (state9 z [] [] m) [(19, next9)]) ∧ Leads L0 H (.fin 1)

/-- What is known of the beginning. -/
structure Begun (q z : Bool) (w : World) (L0 : Nat → Value) (p : Option Addr) (len cap : Nat) (g : Nat → Nat → Value) : Prop where
  told : Go.X.Told w p len cap g
  e7 : L0 7 = .slice p len cap
  cell : ∀ k j, k < len → k ≤ 60 → j < 3 → L0 (20 + 3 * k + j) = g k j
  kind : ∀ k, k < len → (∃ v, g k 0 = .int .u64 v ∧ (Lit.int .u64 v).wf = true) ∧ (∃ b, g k 1 = .bool b) ∧ ∃ p n c, g k 2 = .slice p n c
  known : ∀ L, Agree L L0 → HookOk L (cfgR q z)
  len60 : len ≤ 60

/-- The loop's head. -/
def Head (q z : Bool) (w : World) (L0 : Nat → Value) (len : Nat) (m : Nat) (a : Act) (w' : World) : Prop :=
  ∃ (L : Nat → Value) (e : Env) (C : Canon), Leafy L ∧ Agree L L0 ∧ e.low = w.heap.size ∧ ARel L e C.tm 69 a ∧ Rel L (fun b => b < w.heap.size) w e C.st w' ∧
    ((∃ (i : Nat) (mm : List CO), q = true ∧ i ≤ len ∧ Ready z L0 i mm ∧ C = state z i 0 mm ∧ m = len - i) ∨
     (∃ (i n : Nat) (mm : List CO), n ≤ i ∧ i ≤ len ∧ Idle q z L0 n mm ∧ L 19 = .int .i64 (i : Int) ∧ C = state9 z [] [] mm ∧ m = len - i))

theorem upTo_mem : ∀ {n k : Nat}, k ∈ upTo n → k < n
  | 0, _, h => by cases h
  | n + 1, k, h => by
    rcases List.mem_append.1 (show k ∈ upTo n ++ [n] from h) with h | h
    · have := upTo_mem h; omega
    · have := List.mem_singleton.1 h; omega

section
variable {q z : Bool} {w : World} {L0 : Nat → Value} {p : Option Addr} {len cap : Nat} {g : Nat → Nat → Value}
theorem Begun.one (B : Begun q z w L0 p len cap g) {k j : Nat} (hk : k < len) (hj : j < 3) : (g k j).oneCell' = true := by
  obtain ⟨⟨v, h0, _⟩, ⟨b, h1⟩, q, n, c, h2⟩ := B.kind k hk
  have : j = 0 ∨ j = 1 ∨ j = 2 := by omega
  rcases this with rfl | rfl | rfl
  · rw [h0]; rfl
  · rw [h1]; rfl
  · rw [h2]; rfl

theorem Begun.lenE (B : Begun q z w L0 p len cap g) {L : Nat → Value} (hag : Agree L L0) : IE.eval L (.len 7) = len := by
  show valLen (L 7) = _
  rw [hag 7 rfl, B.e7]; rfl

/-- Places that were told already. -/
theorem Begun.give (B : Begun q z w L0 p len cap g) {L : Nat → Value} (hag : Agree L L0) {n : Nat} (hn : n ≤ len) : ∀ gv ∈ givs n, GivOk L (fun b => b < w.heap.size) w w.heap.size gv := by
  intro gv hgv
  obtain ⟨k, hk, rfl⟩ := List.mem_map.1 hgv
  have hk := upTo_mem hk
  have h60 := B.len60
  have := given_told (cells := fun _ => [vx 7 (.leaf (20 + 3 * k)), vo (21 + 3 * k), vo (22 + 3 * k)]) (q := (k, .lit (.ofNat k))) B.told (L1 := L) (j := 7) (by rw [hag 7 rfl, B.e7]) (i := k) (by omega) (fun L' _ => rfl) (by show 3 ≤ 3; omega) fun t v hv L' e' hag' => by
    have fx : ∀ t, t < 3 → L' (20 + 3 * k + t) = g k t := fun t ht => by
      rw [hag' _ (.inl (by omega)), hag _ (by unfold fixedLeaf; simp; omega), B.cell _ _ (by omega) (by omega) ht]
    have ht3 : t < 3 := (List.getElem?_eq_some_iff.1 hv).1
    have : t = 0 ∨ t = 1 ∨ t = 2 := by omega
    rcases this with rfl | rfl | rfl
    · cases hv
      rw [iv3 rfl]
      obtain ⟨⟨x, hx, _⟩, _⟩ := B.kind k (by omega)
      show some (Value.int .u64 (valInt (L' (20 + 3 * k)))) = _
      rw [show L' (20 + 3 * k) = g k 0 from fx 0 (by omega), hx]
      rfl
    · cases hv
      rw [iv17 rfl]
      show some (L' (21 + 3 * k)) = _
      rw [show 21 + 3 * k = 20 + 3 * k + 1 by omega, fx 1 (by omega)]
    · cases hv
      rw [iv17 rfl]
      show some (L' (22 + 3 * k)) = _
      rw [show 22 + 3 * k = 20 + 3 * k + 2 by omega, fx 2 (by omega)]
  unfold GivOk at this ⊢
  exact this

/-- The place that is number 19. -/
def hereV (g : Nat → Nat → Value) (i j : Nat) : Value := if 990 ≤ j ∧ j < 993 then g i (j - 990) else .bool true
theorem Begun.hereLeafy (B : Begun q z w L0 p len cap g) {i : Nat} (hi : i < len) : Leafy (hereV g i) := fun j => by
  unfold hereV
  split
  · rename_i h; exact B.one hi (by omega)
  · rfl
theorem Begun.here (B : Begun q z w L0 p len cap g) {L : Nat → Value} (hag : Agree L L0) {i : Nat} (hi : i < len) (h19 : L 19 = .int .i64 (i : Int)) : GivOk (Lth thH (hereV g i) L) (fun b => b < w.heap.size) w w.heap.size toldH := by
  obtain ⟨⟨x, hx, _⟩, ⟨b, hb⟩, p', n', c', hs⟩ := B.kind i hi
  have hL2 : ∀ L' : Nat → Value, (∀ j, j < 1000 ∨ 4096 ≤ j → L' j = Lth thH (hereV g i) L j) → L' 990 = g i 0 ∧ L' 991 = g i 1 ∧ L' 992 = g i 2 ∧ L' 19 = L 19 := fun L' hag' =>
    ⟨(hag' 990 (.inl (by omega))).trans rfl, (hag' 991 (.inl (by omega))).trans rfl, (hag' 992 (.inl (by omega))).trans rfl, (hag' 19 (.inl (by omega))).trans rfl⟩
  have := given_told (cells := fun _ => [vx 7 (.leaf 990), vo 991, vo 992]) (q := (0, .leaf 19)) B.told (L1 := Lth thH (hereV g i) L) (j := 7) (by show L 7 = _; rw [hag 7 rfl, B.e7]) (i := i) hi (fun L' hag' => by
      show valInt (L' 19) = _
      rw [(hL2 L' hag').2.2.2, h19]; rfl) (by show 3 ≤ 3; omega) fun t v hv L' e' hag' => by
    obtain ⟨k0, k1, k2, _⟩ := hL2 L' hag'
    have ht3 : t < 3 := (List.getElem?_eq_some_iff.1 hv).1
    have : t = 0 ∨ t = 1 ∨ t = 2 := by omega
    rcases this with rfl | rfl | rfl
    · cases hv; rw [iv3 rfl]; show some (Value.int .u64 (valInt (L' 990))) = _; rw [k0, hx]; rfl
    · cases hv; rw [iv17 rfl]; show some (L' 991) = _; rw [k1]
    · cases hv; rw [iv17 rfl]; show some (L' 992) = _; rw [k2]
  unfold GivOk at this ⊢
  exact this
end

theorem one1 : Leafy (fun _ => Value.bool true) := fun _ => rfl
theorem ext1 (q z : Bool) : ExtOk (cfgR q z) := extOk_of exts rfl exts_ok
theorem fol (q z : Bool) : (cfgR q z).P.follows .mixedOrders = true := follows

theorem past_ok {L : Nat → Value} {i n : Nat} (h : L 19 = .int .i64 (i : Int)) (hn : n ≤ i) (hi : i ≤ 60) : FactsOk L (pastL n) := by
  refine factsOk_of rfl ⟨?_, ?_, trivial⟩
  · show (Int.ofNat n : Int) ≤ valInt (L 19)
    rw [h]; show (n : Int) ≤ (i : Int); omega
  · show valInt (L 19) ≤ (60 : Int)
    rw [h]; show (i : Int) ≤ 60; omega


set_option maxRecDepth 100000 in
theorem loop {q z : Bool} {w : World} {L0 : Nat → Value} {p : Option Addr} {len cap : Nat} {g : Nat → Nat → Value} (B : Begun q z w L0 p len cap g) {m : Nat} {a' : Act} {w' : World} (hI : Head q z w L0 len m a' w') :
    wps Tryz.prog (lawPost Tryz.prog Tryz.f3 w .normal) (lawPost Tryz.prog Tryz.f3 w) (.block (loopId rest) (.loop (loopBody rest)) :: loopRest rest) a' w' := by
  let Q : Exit → Act → World → Prop := lawPost Tryz.prog Tryz.f3 w
  have h60 := B.len60
  have finOk : ∀ (X L1 : Nat → Value) (K : Act → World → Prop) (fs : List Fact), (SG.fin 1).Holds X L1 (fun b => b < w.heap.size) w w.heap.size Tryz.prog Tryz.f3 69 (Exit.then K Q) fs :=
    fun X L1 K fs _ a2 w2 e2 s2 hd hrun hr2 => post_fin hd hrun hr2
  refine wps_loop (Head q z w L0 len) hI fun m a' w' ⟨L, e, C, hLf, hag, hlow, har, hrr, hk⟩ => ?_
  let K := fun (a' : Act) (w' : World) => ∃ m', m' < m ∧ Head q z w L0 len m' a' w'
  let Qx := atExit (loopId rest) (wps Tryz.prog (Q .normal) Q (loopRest rest)) Q
  show wps Tryz.prog K Qx turn a' w'
  rcases hk with ⟨i, mm, hq, hi, hready, hC, hm⟩ | ⟨i, n, mm, hn, hi, hidle, h19, hC, hm⟩
  · subst hq hC
    -- the last turn
    have last : ∀ {fs : List Fact}, FOk fs → FactsOk L0 fs → i = len → ex z i mm fs = true → wps Tryz.prog K Qx turn a' w' := by
      intro fs hfo hF hil hex
      obtain ⟨h1, h23⟩ := band_true.1 hex
      obtain ⟨h2, h3⟩ := band_true.1 h23
      obtain ⟨L1, e1', k1, k2, k3, k4, k5⟩ := fits_sound one1 hLf h1 har hrr (by rw [hlow]; exact B.give (off_th (th := []) (X := fun _ => .bool true) rfl hag fun _ _ => rfl) hi)
      have hag1 : Agree L1 L0 := off_th rfl hag k1
      have hlow1 : e1'.low = w.heap.size := k3.trans hlow
      have lastOk : ∀ L1, Agree L1 L0 → FactsOk L1 (lastF i) := fun L1 hag1 => factsOk_of rfl ⟨by show IE.eval L1 (.len 7) = (Int.ofNat i : Int); rw [B.lenE hag1, hil]; rfl, trivial⟩
      refine SG.sound (fn := Tryz.f3) (n := 60) one1 k2 (fol _ _) (ext1 true z) (B.known L1 hag1) k4 k5 _ _ h2 (factsOk_append.2 ⟨lastOk L1 hag1, facts_ok hag1 hfo hF⟩) ?_
      rw [hlow1]
      refine fun _ => ⟨B.give (off_th (th := []) (X := fun _ => .bool true) rfl hag1 fun _ _ => rfl) hi, fun L2 e2 a2 w2 h2' hl2 hlow2 har2 hrr2 => ?_⟩
      have hag2 : Agree L2 L0 := off_th (th := []) rfl hag1 h2'
      show (if 2 = loopId rest then wps Tryz.prog (Q .normal) Q (loopRest rest) a2 w2 else Q (.exit 2) a2 w2)
      rw [if_pos rest_id.symm]
      refine SG.sound (fn := Tryz.f3) (n := 60) one1 hl2 (fol _ _) (ext1 true z) (B.known L2 hag2) har2 hrr2 _ _ h3 (factsOk_append.2 ⟨lastOk L2 hag2, facts_ok hag2 hfo hF⟩) ?_
      rw [hlow2]
      exact finOk _ _ _ _
    have moreOk : ∀ L1, Agree L1 L0 → i < len → FactsOk L1 (moreF i) := fun L1 hag1 hi => factsOk_of rfl ⟨by show (Int.ofNat i : Int) < IE.eval L1 (.len 7); rw [B.lenE hag1]; show (i : Int) < len; omega, trivial⟩
    cases hready with
    | step h1 h2 hex h3 h4 hit next =>
      rcases Nat.lt_or_ge i len with hlt | hge
      · obtain ⟨g1, g2⟩ := band_true.1 (hit (by omega))
        obtain ⟨L1, e1', k1, k2, k3, k4, k5⟩ := fits_sound one1 hLf g1 har hrr (by rw [hlow]; exact B.give (off_th (th := []) (X := fun _ => .bool true) rfl hag fun _ _ => rfl) hlt)
        have hag1 : Agree L1 L0 := off_th rfl hag k1
        refine SG.sound (fn := Tryz.f3) (n := 60) one1 k2 (fol _ _) (ext1 true z) (B.known L1 hag1) k4 k5 _ _ g2 (factsOk_append.2 ⟨moreOk L1 hag1 hlt, facts_ok hag1 h3 (h4 (by omega))⟩) ?_
        rw [show e1'.low = w.heap.size from k3.trans hlow]
        exact fun _ => ⟨fun _ h => by (cases h), fun L2 e2 a2 w2 h2' hl2 hlow2 har2 hrr2 => ⟨len - (i + 1), by omega, L2, e2, _, hl2, off_th (th := []) rfl hag1 h2', hlow2, har2, hrr2, .inl ⟨i + 1, _, rfl, hlt, next (by omega), rfl, rfl⟩⟩⟩
      · exact last h1 h2 (by omega) (hex (by omega))
    | stop h1 h2 hex h3 h4 hit hA hB =>
      rcases Nat.lt_or_ge i len with hlt | hge
      · obtain ⟨g1, g2⟩ := band_true.1 (hit (by omega))
        obtain ⟨L1, e1', k1, k2, k3, k4, k5⟩ := fits_sound one1 hLf g1 har hrr (by rw [hlow]; exact B.give (off_th (th := []) (X := fun _ => .bool true) rfl hag fun _ _ => rfl) hlt)
        have hag1 : Agree L1 L0 := off_th rfl hag k1
        refine SG.sound (fn := Tryz.f3) (n := 60) one1 k2 (fol _ _) (ext1 true z) (B.known L1 hag1) k4 k5 _ _ g2 (factsOk_append.2 ⟨moreOk L1 hag1 hlt, facts_ok hag1 h3 (h4 (by omega))⟩) ?_
        rw [show e1'.low = w.heap.size from k3.trans hlow]
        exact fun _ => ⟨fun _ h => by (cases h), fun L2 e2 a2 w2 h2' hl2 hlow2 har2 hrr2 => ⟨len - (i + 1), by omega, L2, e2, _, hl2, off_th rfl hag1 h2', hlow2, har2, hrr2,
          .inr ⟨i + 1, i + 1, _, Nat.le_refl _, hlt, ⟨_, _, _, h3, h4 (by omega), fun h => hA (by omega), hB (by omega), Leads.refl _ _, Leads.refl _ _⟩, (h2' 19 (.inl (by omega))).trans rfl, rfl, rfl⟩⟩⟩
      · exact last h1 h2 (by omega) (hex (by omega))
  · subst hC
    obtain ⟨fs, G, H, hfo, hF, hA, hB, hG, hH⟩ := hidle
    rcases Nat.lt_or_ge i len with hlt | hge
    · obtain ⟨h1, h2⟩ := band_true.1 (hA (by omega))
      obtain ⟨L1, e1', k1, k2, k3, k4, k5⟩ := fits_sound (B.hereLeafy hlt) hLf h1 har hrr (by
        rw [hlow]
        intro gv hgv
        rcases List.mem_cons.1 hgv with rfl | hgv
        · exact B.here hag hlt h19
        · exact B.give (off_th (th := thH) (L := L) rfl hag fun _ _ => rfl) (by omega) gv hgv)
      have hag1 : Agree L1 L0 := off_th rfl hag k1
      have g19 : L1 19 = .int .i64 (i : Int) := by rw [k1 19 (.inl (by omega))]; exact h19
      refine SG.sound (fn := Tryz.f3) (n := 60) one1 k2 (fol _ _) (ext1 q z) (B.known L1 hag1) k4 k5 _ _ h2 (factsOk_append.2 ⟨?_, factsOk_append.2 ⟨past_ok g19 hn (by omega), facts_ok hag1 hfo hF⟩⟩) ?_
      · refine factsOk_of rfl ⟨?_, ?_, trivial⟩
        · show valInt (L1 19) < IE.eval L1 (.len 7)
          rw [B.lenE hag1, g19]; show (i : Int) < len; omega
        · show valInt (L1 19) ≤ IE.eval L1 (.len 7)
          rw [B.lenE hag1, g19]; show (i : Int) ≤ len; omega
      rw [show e1'.low = w.heap.size from k3.trans hlow]
      refine hG _ _ _ _ _ _ _ _ _ _ hag1 fun fs _ => ⟨fun _ h => by (cases h), fun L2 e2 a2 w2 h2' hl2 hlow2 har2 hrr2 => ⟨len - (i + 1), by omega, L2, e2, _, hl2, off_th rfl hag1 h2', hlow2, har2, hrr2, .inr ⟨i + 1, n, _, by omega, hlt, ⟨_, _, _, hfo, hF, hA, hB, hG, hH⟩, ?_, rfl, rfl⟩⟩⟩
      rw [h2' 19 (.inl (by omega))]
      show (Value.int .i64 (IE.eval L1 (.bin .add .i64 (.leaf 19) (.lit 1)))) = _
      rw [eval_add, eval_lit]
      show Value.int .i64 (IntKind.wrap .i64 (valInt (L1 19) + 1)) = _
      rw [g19]
      show Value.int .i64 (IntKind.wrap .i64 ((i : Int) + 1)) = _
      have h5 : IntKind.wrap .i64 ((i : Int) + 1) = ((i + 1 : Nat) : Int) := by rw [Go.X.wrap_i64]; omega
      rw [h5]
    · have hil : i = len := by omega
      obtain ⟨h1, h23⟩ := band_true.1 hB
      obtain ⟨h2, h3⟩ := band_true.1 h23
      obtain ⟨L1, e1', k1, k2, k3, k4, k5⟩ := fits_sound one1 hLf h1 har hrr (by rw [hlow]; exact B.give (off_th (th := []) (X := fun _ => .bool true) rfl hag fun _ _ => rfl) (by omega))
      have hag1 : Agree L1 L0 := off_th rfl hag k1
      have g19 : L1 19 = .int .i64 (i : Int) := by rw [k1 19 (.inl (by omega))]; exact h19
      have lastOk : ∀ L1 : Nat → Value, Agree L1 L0 → L1 19 = .int .i64 (i : Int) → FactsOk L1 (lastL n) := fun L1 hag1 g19 => by
        refine factsOk_of rfl ⟨?_, ?_, trivial⟩
        · show IE.eval L1 (.len 7) ≤ valInt (L1 19)
          rw [B.lenE hag1, g19]; show (len : Int) ≤ i; omega
        · show (Int.ofNat n : Int) ≤ IE.eval L1 (.len 7)
          rw [B.lenE hag1]; show (n : Int) ≤ len; omega
      refine SG.sound (fn := Tryz.f3) (n := 60) one1 k2 (fol _ _) (ext1 q z) (B.known L1 hag1) k4 k5 _ _ h2 (factsOk_append.2 ⟨lastOk L1 hag1 g19, factsOk_append.2 ⟨past_ok g19 hn (by omega), facts_ok hag1 hfo hF⟩⟩) ?_
      rw [show e1'.low = w.heap.size from k3.trans hlow]
      refine fun _ => ⟨B.give (off_th (th := []) (X := fun _ => .bool true) rfl hag1 fun _ _ => rfl) (by omega), fun L2 e2 a2 w2 h2' hl2 hlow2 har2 hrr2 => ?_⟩
      have hag2 : Agree L2 L0 := off_th (th := []) rfl hag1 h2'
      have g192 : L2 19 = .int .i64 (i : Int) := by rw [h2' 19 (.inl (by omega))]; exact g19
      show (if 2 = loopId rest then wps Tryz.prog (Q .normal) Q (loopRest rest) a2 w2 else Q (.exit 2) a2 w2)
      rw [if_pos rest_id.symm]
      refine SG.sound (fn := Tryz.f3) (n := 60) one1 hl2 (fol _ _) (ext1 q z) (B.known L2 hag2) har2 hrr2 _ _ h3 (factsOk_append.2 ⟨lastOk L2 hag2 g192, factsOk_append.2 ⟨past_ok g192 hn (by omega), facts_ok hag2 hfo hF⟩⟩) ?_
      rw [hlow2]
      exact hH _ _ _ _ _ _ _ _ _ _ hag2 fun fs => finOk _ _ _ _

end Go.Proofs.YtkmiijmoejcjgaaGreat.castSteps
