/- A send: whatever is handed in. -/
import Derived.Test.YtkmiijmoejcjgaaGreatCastS
namespace Go.Proofs.YtkmiijmoejcjgaaGreat.castSteps
open Go.X Go.Proofs.YtkmiijmoejcjgaaGreat.rk
open Go.RowKit (Below)
set_option linter.unusedSimpArgs false
set_option linter.unusedVariables false

/-- All leaves, from the beginning. -/
def lsOf (z : Bool) (A S Ty : Int) (n : Nat) (T : Int) (told bv : Value) : List Value :=
  [.int .i64 A, .int .i64 S, .int .i32 Ty, .int .i64 (numI z n : Nat), .int .i64 ((ch (numI z n)).length : Nat), .int .i64 (szI (numI z n : Nat) 8 8), .int .i64 (T % S), told, bv, .int .u64 (recI (if z then 8 else IntKind.i32.wrap (IntKind.i64.wrap (8 + n))) Ty), .int .u64 (recI (IntKind.i32.wrap (S - T % S)) (-1)),
    .int .u64 (if S - T % S < needI z n then (T + (S - T % S) + needI z n) % 18446744073709551616 else (T + needI z n) % 18446744073709551616), .int .i64 (S - T % S), .bool true, .int .i64 (IntKind.i64.wrap (IntKind.i64.wrap T + (S - T % S))), .int .i64 (IntKind.i64.wrap T), .int .u64 ((T + (S - T % S)) % 18446744073709551616)]
def lv (ls : List Value) (g : Nat → Nat → Value) (len : Nat) (bs : Nat → Value) (c : List Int) (j : Nat) : Value :=
  if j < 20 then (ls[j]?).getD (.bool true) else if j < 4096 then (if (j - 20) / 3 < len then g ((j - 20) / 3) ((j - 20) % 3) else .bool true) else if j < 8192 then bs (j - 4096) else .int .i64 (c.getD (j - 8192) 0)
/-- The tail that was told first. -/
def tol (g : Nat → Nat → Value) (len : Nat) : Int := valInt (if 0 < len then g 0 0 else .bool true)

theorem lv_leafy {ls : List Value} {g : Nat → Nat → Value} {len : Nat} {bs : Nat → Value} {c : List Int} (hls : ls.all (fun v => v.oneCell') = true) (hg : ∀ k j, k < len → j < 3 → (g k j).oneCell' = true) (hb : ∀ i, (bs i).oneCell' = true) : Leafy (lv ls g len bs c) := fun j => by
  unfold lv
  split
  · cases hq : ls[j]? with
    | none => rfl
    | some v => exact List.all_eq_true.1 hls v (List.mem_of_getElem? hq)
  · split
    · split
      · rename_i h; exact hg _ _ h (Nat.mod_lt _ (by decide))
      · rfl
    · split
      · exact hb _
      · rfl

theorem lv_ok {z : Bool} {A S Ty : Int} {n : Nat} {told bv : Value} {g : Nat → Nat → Value} {len : Nat} {bs : Nat → Value} :
    Leaves z (lv (lsOf z A S Ty n (tol g len) told bv) g len bs (ch (numI z n))) A S Ty n (tol g len) :=
  ⟨rfl, rfl, rfl, rfl, rfl, rfl, rfl, rfl, rfl, rfl, rfl, rfl, rfl, fun k hk => by
    show valInt (lv _ _ _ _ _ (4096 * 2 + k)) = _
    unfold lv
    rw [if_neg (by omega), if_neg (by omega), if_neg (by omega), show 4096 * 2 + k - 8192 = k by omega]
    rfl⟩

theorem lt_no {L : Nat → Value} {fs : List Fact} {a b : IE} (hF : FactsOk L fs) (hm : (⟨.lss, a, b, false⟩ : Fact) ∈ fs) : b.eval L ≤ a.eval L := by
  obtain ⟨g, hg, hr⟩ := hF _ hm
  have hg : some ltF = some g := hg
  cases hg
  have hr : ltF (a.eval L) (b.eval L) = false := hr
  rw [ltF_eq] at hr
  have := of_decide_eq_false hr
  omega

/-- The ring may be so: it is ready. -/
theorem ready_all (R : Runs) {z : Bool} {L : Nat → Value} {A S Ty T : Int} {n len : Nat} (H : Leaves z L A S Ty n T) (hp : isP S = true) (hn : n ≤ 1100) (hz : z = true → n = 0) (hz' : z = false → 0 < n) (hT : 0 ≤ T ∧ T < 18446744073709551616)
    (h7 : IE.eval L (.len 7) = (len : Int)) (h60 : len ≤ 60) (hm : FactsOk L (mayF true)) (hl : FactsOk L [⟨.lss, longE, nE z, false⟩]) : Ready z L 0 (mTail z) := by
  have e0 : IE.eval L (l 0) = A := H.h0
  have e1 : IE.eval L (l 1) = S := H.h1
  have s1 : IE.eval L (.lit 64) ≤ IE.eval L (l 1) := lt_no hm (by simp [mayT])
  have s2 : IE.eval L (l 1) ≤ IE.eval L (.lit 8192) := lt_no hm (by simp [mayT])
  have a1 : IE.eval L (.lit 0) ≤ IE.eval L (l 0) := lt_no hm (by simp [mayT])
  have a2 : IE.eval L (l 0) ≤ IE.eval L limE := lt_no hm (by simp [mayT])
  have n1 : IE.eval L (nE z) ≤ IE.eval L longE := lt_no hl (by simp)
  rw [e1, eval_lit] at s1 s2
  rw [e0, eval_lit] at a1
  have elim : IE.eval L limE = 131072 - S - 32 := by
    show IE.eval L (.bin .sub .i64 (.bin .sub .i64 (.lit 131072) (l 1)) (.lit 32)) = _
    rw [eval_sub, eval_sub, eval_lit, eval_lit, e1]
    simp only [Go.X.wrap_i64]
    omega
  have elong : IE.eval L longE = S / 8 := by
    show IE.eval L (.bin .quo .i64 (l 1) (.lit 8)) = _
    rw [eval_quo _ _ (by rw [eval_lit]; decide), e1, eval_lit, Int.tdiv_eq_ediv_of_nonneg (by omega), Go.X.wrap_i64]
    omega
  rw [e0, elim] at a2
  rw [elong] at n1
  have Z : Sizes A S Ty n := ⟨s1, s2, a1, by omega, by
    cases z with
    | true => rw [hz rfl]; show (0 : Int) ≤ S / 8; omega
    | false => rw [← show IE.eval L (nE false) = (n : Int) from H.h3]; exact n1⟩
  have hgood : FactsOk L (goodF z) := by
    intro f hf
    have hf : f ∈ (_ : List Fact) := hf
    simp only [goodF, List.mem_cons, List.not_mem_nil, or_false] at hf
    rcases hf with rfl | rfl | rfl | rfl | rfl | rfl | rfl | rfl
    · exact hm _ (by simp [mayT])
    · exact hm _ (by simp [mayT])
    · exact hm _ (by simp [mayT])
    · exact hm ⟨.lss, limE, l 0, false⟩ (by simp [mayT])
    · exact hm _ (by simp [mayT])
    · exact hm _ (by simp [mayT])
    · exact hl ⟨.lss, longE, nE z, false⟩ (by simp)
    · refine ⟨eqF, rfl, ?_⟩
      show eqF (IE.eval L (.conv .u64 (l 1))) 0 = false
      rw [eqF_eq, eval_conv, e1, Go.X.wrap_u64]
      exact beq_false_of_ne (by omega)
  have hnf : FactsOk L (nF z) := by
    have h60' : FactsOk L [⟨.lss, .lit 60, .len 7, false⟩] := factsOk_of rfl ⟨by show IE.eval L (.len 7) ≤ 60; omega, trivial⟩
    cases z with
    | true => exact h60'
    | false =>
      have e3 : IE.eval L (l 3) = (n : Int) := H.h3
      have := hz' rfl
      exact factsOk_of rfl ⟨by show IE.eval L (.len 7) ≤ 60; omega, by show IE.eval L (l 3) ≤ 1100; omega, by show (0 : Int) < IE.eval L (l 3); omega, trivial⟩
  have hb : ∀ g, g = decide (S - T % S < needI z n) → FactsOk L (baseF z g) := fun g hg => base_ok H hp Z hn hz hz' hT hg hgood hnf
  cases z with
  | true => exact ready_none _ (hb _ rfl)
  | false =>
    have hcl := ch_len n
    have := hz' rfl
    exact ready_parts R _ (cnt := (ch n).length) (hb _ rfl) (by omega) (fun k hk => pay_ok H hn hk) (fun k hk => done_ok H hn hk)

theorem ahead_all : ∀ q z, segP q z = true
  | true, true => ahead_tt
  | true, false => ahead_tf
  | false, true => ahead_ft
  | false, false => ahead_ff

set_option maxRecDepth 100000 in
/-- From the beginning. -/
theorem core (R : Runs) {z : Bool} {w : World} {L0 : Nat → Value} {A S Ty T : Int} {n : Nat} {p : Option Addr} {len cap : Nat} {g : Nat → Nat → Value} {e : Env} {s : St} {xs : List Value} (hL : Leafy L0) (H : Leaves z L0 A S Ty n T) (hn : n ≤ 1100) (hz : z = true → n = 0) (hz' : z = false → 0 < n) (hT : 0 ≤ T ∧ T < 18446744073709551616)
    (htold : Go.X.Told w p len cap g) (e7 : L0 7 = .slice p len cap) (hcell : ∀ k j, k < len → k ≤ 60 → j < 3 → L0 (20 + 3 * k + j) = g k j) (hkind : ∀ k, k < len → (∃ v, g k 0 = .int .u64 v ∧ (Lit.int .u64 v).wf = true) ∧ (∃ b, g k 1 = .bool b) ∧ ∃ p n c, g k 2 = .slice p n c)
    (hkn : ∀ L, Agree L L0 → HookOk L (cfgR (isP S) z)) (hrel : Rel L0 (fun b => b < w.heap.size) w e s w) (hs : s = start z) (hlow : e.low = w.heap.size) (hil : il L0 e (args z) = some xs) :
    Calls Tryz.prog 3 xs.toArray w fun en w' => en = .returned (.bool true) ∧ Below w.heap.size w w' := by
  subst hs
  have h7 : IE.eval L0 (.len 7) = (len : Int) := by show valLen (L0 7) = _; rw [e7]; rfl
  let Q : Exit → Act → World → Prop := lawPost Tryz.prog Tryz.f3 w
  refine law_from (N := 69) Tryz.func3 has_body hil slots69 (by show 4 ≤ 69; omega) (by show 4 ≤ 512; omega) fun a ha => ?_
  show wps Tryz.prog (Q .normal) Q body a w
  have B : len ≤ 60 → Begun (isP S) z w L0 p len cap g := fun h60 => ⟨htold, e7, hcell, hkind, hkn, h60⟩
  have loopT : ∀ (L2 : Nat → Value) (e2 : Env) (a2 : Act) (w2 : World), len ≤ 60 → isP S = true → Ready z L0 0 (mTail z) → Leafy L2 → Agree L2 L0 → e2.low = w.heap.size → ARel L2 e2 (state z 0 0 (mTail z)).tm 69 a2 → Rel L2 (fun b => b < w.heap.size) w e2 (state z 0 0 (mTail z)).st w2 → wps Tryz.prog (Q .normal) Q tail2 a2 w2 :=
    fun L2 e2 a2 w2 h60 hp hr k1 k2 k3 k4 k5 => loop (B h60) (m := len - 0) ⟨L2, e2, _, k1, k2, k3, k4, k5, .inl ⟨0, _, hp, Nat.zero_le _, hr, rfl, rfl⟩⟩
  have loopI : ∀ (m : List CO) (L2 : Nat → Value) (e2 : Env) (a2 : Act) (w2 : World), len ≤ 60 → Idle (isP S) z L0 0 m → L2 19 = .int .i64 0 → Leafy L2 → Agree L2 L0 → e2.low = w.heap.size → ARel L2 e2 (state9 z [] [] m).tm 69 a2 → Rel L2 (fun b => b < w.heap.size) w e2 (state9 z [] [] m).st w2 → wps Tryz.prog (Q .normal) Q tail2 a2 w2 :=
    fun m L2 e2 a2 w2 h60 hr h19 k1 k2 k3 k4 k5 => loop (B h60) (m := len - 0) ⟨L2, e2, _, k1, k2, k3, k4, k5, .inr ⟨0, 0, _, Nat.le_refl _, Nat.zero_le _, hr, h19, rfl, rfl⟩⟩
  have le60 : ∀ fs, (⟨.lss, .lit 60, .len 7, false⟩ : Fact) ∈ fs → FactsOk L0 fs → len ≤ 60 := fun fs hm hF => by
    have := lt_no hF hm
    rw [h7, eval_lit] at this
    omega
  have longOk : FactsOk L0 (mayF true) → FactsOk L0 [⟨.lss, longE, nE z, true⟩] → Idle true z L0 0 (mBad 4) := fun hm hl => by
    refine idle_long (factsOk_append.2 ⟨hl, factsOk_append.2 ⟨hm, ?_⟩⟩)
    cases z with
    | true => exact fun f hf => by cases hf
    | false =>
      have e3 : IE.eval L0 (l 3) = (n : Int) := H.h3
      have := hz' rfl
      exact factsOk_of rfl ⟨by show IE.eval L0 (l 3) ≤ 1100; omega, by show (0 : Int) < IE.eval L0 (l 3); omega, trivial⟩
  have readyOk : isP S = true → len ≤ 60 → FactsOk L0 (mayF true) → FactsOk L0 [⟨.lss, longE, nE z, false⟩] → Ready z L0 0 (mTail z) := fun hp h60 hm hl => ready_all R H hp hn hz hz' hT h7 h60 hm hl
  cases z with
  | true =>
    have hb : body = codeP true ++ tail2 := by
      show body = (preL body ++ (own :: preL rest)) ++ tail2
      rw [List.append_assoc, List.cons_append, ← show rest = preL rest ++ tail2 from takeDrop has_rest]
      exact takeDrop has_loop
    rw [hb, wps_append]
    refine SG.sound (fn := Tryz.f3) (n := 60) one1 hL (fol _ _) (ext1 (isP S) true) (hkn L0 (Agree.refl _)) ha hrel (treeP (isP S) true) _ (ahead_all _ true) (fun _ h => by cases h) ?_
    rw [hlow]
    refine ⟨fun _ a2 w2 e2 s2 hd hrun hr2 => post_fin hd hrun hr2, ?_⟩
    have bad : ∀ (en : Int) (fs' : List Fact), (FactsOk L0 fs' → len ≤ 60 ∧ Idle (isP S) true L0 0 (mBad en)) → (toBad true en).Holds (fun _ => .bool true) L0 (fun b => b < w.heap.size) w w.heap.size Tryz.prog Tryz.f3 69 (Exit.then (wps Tryz.prog (Q .normal) Q tail2) Q) fs' := fun en fs' h hF =>
      ⟨fun _ h => (by cases h), fun L2 e2 a2 w2 h2 hl2 hlow2 har2 hrr2 => loopI _ L2 e2 a2 w2 (h hF).1 (h hF).2 (by rw [h2 19 (.inl (by omega))]; rfl) hl2 (off_th (th := [(19, vi 3 (.ofNat 0))]) rfl (Agree.refl _) h2) hlow2 har2 hrr2⟩
    refine treeQ_holds (fun fs' h => bad 1 fs' fun hF => ⟨le60 _ (by simp) (h hF).1, idle_bad (h hF).2⟩) (fun hp fs' h => bad 4 fs' fun hF => ⟨le60 _ (by simp) (h hF).1, by rw [hp]; exact longOk (h hF).2.1 (h hF).2.2⟩) fun hp fs' h hF => ?_
    have h60 := le60 _ (by simp) (h hF).1
    exact ⟨fun _ h => (by cases h), fun L2 e2 a2 w2 h2 hl2 hlow2 har2 hrr2 => loopT L2 e2 a2 w2 h60 hp (readyOk hp h60 (h hF).2.1 (h hF).2.2) hl2 (off_th (th := []) rfl (Agree.refl _) h2) hlow2 har2 hrr2⟩
  | false =>
    have e3 : IE.eval L0 (l 3) = (n : Int) := H.h3
    have hn0 := hz' rfl
    rw [takeDrop has_loop, wps_append]
    refine SG.sound (fn := Tryz.f3) (n := 60) one1 hL (fol _ _) (ext1 (isP S) false) (hkn L0 (Agree.refl _)) ha hrel (treeP (isP S) false) _ (ahead_all _ false)
      (factsOk_of rfl ⟨by show (0 : Int) < IE.eval L0 (l 3); omega, by show IE.eval L0 (l 3) ≤ 1099511627776; omega, trivial⟩) ?_
    rw [hlow]
    refine ⟨fun _ a2 w2 e2 s2 hd hrun hr2 => post_fin hd hrun hr2, fun _ a2 w2 e2 s2 hd hrun hr2 => post_fin hd hrun hr2, ?_⟩
    have bad : ∀ (en : Int) (fs' : List Fact), Ends (isP S) (mBad en) (toIdle false 0 (mBad en)) → (FactsOk L0 fs' → len ≤ 60 ∧ Idle (isP S) false L0 0 (mBad en)) → (toBad false en).Holds (fun _ => .bool true) L0 (fun b => b < w.heap.size) w w.heap.size Tryz.prog Tryz.f3 69 (Exit.then (wps Tryz.prog (Q .normal) Q (own :: rest)) Q) fs' := fun en fs' hE h hF =>
      ⟨fun _ h => (by cases h), fun L2 e2 a2 w2 h2 hl2 hlow2 har2 hrr2 => behind hE hl2 (off_th (th := []) rfl (Agree.refl _) h2) hkn H.h3 hn hlow2 har2 hrr2 fun L1 hag1 _ =>
        ⟨fun _ h => (by cases h), fun L3 e3 a3 w3 h3 hl3 hlow3 har3 hrr3 => loopI _ L3 e3 a3 w3 (h hF).1 (h hF).2 (by rw [h3 19 (.inl (by omega))]; rfl) hl3 (off_th (th := [(19, vi 3 (.ofNat 0))]) rfl hag1 h3) hlow3 har3 hrr3⟩⟩
    refine treeQ_holds (fun fs' h => bad 1 fs' (ends_bad _) fun hF => ⟨le60 _ (by simp) (h hF).1, idle_bad (h hF).2⟩) (fun hp fs' h => bad 4 fs' (by rw [hp]; exact ends_long) fun hF => ⟨le60 _ (by simp) (h hF).1, by rw [hp]; exact longOk (h hF).2.1 (h hF).2.2⟩) fun hp fs' h hF => ?_
    have h60 := le60 _ (by simp) (h hF).1
    refine ⟨fun _ h => (by cases h), fun L2 e2 a2 w2 h2 hl2 hlow2 har2 hrr2 => behind (G := .run 0 (state false 0 0 (mTail false)) []) (by rw [hp]; exact ends_tail) hl2 (off_th (th := []) rfl (Agree.refl _) h2) hkn H.h3 hn hlow2 har2 hrr2 fun L1 hag1 _ =>
      ⟨fun _ h => (by cases h), fun L3 e3 a3 w3 h3 hl3 hlow3 har3 hrr3 => loopT L3 e3 a3 w3 h60 hp (readyOk hp h60 (h hF).2.1 (h hF).2.2) hl3 (off_th (th := []) rfl hag1 h3) hlow3 har3 hrr3⟩⟩

/-- Too many bytes: nothing is asked. -/
noncomputable def cfgN : Cfg := { P := Tryz.prog, ext := extOf exts, hook := knowsR 4 [] [], facts := [] }
noncomputable def argsN : List V := [vagg ringV, vx 2 (l 2), vun 8 1 (.len 8) [], vun 7 3 (.len 7) []]
theorem big : (SG.fin 1).good cfgN res 60 69 (preL body) (frame argsN 0 noSlots) St.zero [⟨.lss, .lit 1100, .len 8, true⟩] = true := by kernel_rfl
set_option maxRecDepth 100000 in
theorem tooBig {w : World} {L0 : Nat → Value} {n : Nat} {xs : List Value} (hL : Leafy L0) (h8 : valLen (L0 8) = (n : Int)) (hn : 1100 < n) (hil : il L0 (env0 w) argsN = some xs) :
    Calls Tryz.prog 3 xs.toArray w fun en w' => en = .returned (.bool true) ∧ Below w.heap.size w w' := by
  let Q : Exit → Act → World → Prop := lawPost Tryz.prog Tryz.f3 w
  refine law_from (N := 69) Tryz.func3 has_body hil slots69 (by show 4 ≤ 69; omega) (by show 4 ≤ 512; omega) fun a ha => ?_
  show wps Tryz.prog (Q .normal) Q body a w
  rw [takeDrop has_loop, wps_append]
  refine SG.sound (fn := Tryz.f3) (n := 60) (c := cfgN) one1 hL follows (extOk_of exts rfl exts_ok) (hookOk_R (c := cfgN) (la := []) (lr := []) rfl (by kernel_rfl) fixed11_true (fun k hk => by cases hk) (fun k hk => by cases hk)) ha (Rel.start0 L0 w) (.fin 1) _ big
    (factsOk_of rfl ⟨by show (1100 : Int) < valLen (L0 8); omega, trivial⟩) ?_
  exact fun _ a2 w2 e2 s2 hd hrun hr2 => post_fin hd hrun hr2

end Go.Proofs.YtkmiijmoejcjgaaGreat.castSteps
