/- A send: from the beginning to the statement's loop; the bytes that were handed in are changed on the way. -/
import Derived.Test.YtkmiijmoejcjgaaGreatCastH
namespace Go.Proofs.YtkmiijmoejcjgaaGreat.castSteps
open Go.X Go.Proofs.YtkmiijmoejcjgaaGreat.rk
open Go.RowKit (Below)
set_option linter.unusedSimpArgs false
set_option linter.unusedVariables false

noncomputable def objOk (m : List CO) : Bool := match hGet (pn 13) (canonO m).st.heap with
  | some o => band (bnot o.ro) (band (Nat.beq o.gs 1) (band (Nat.beq o.gk 4) (band (Nat.beq o.go 0) (IE.beq o.gn (l 3)))))
  | none => false
noncomputable def killed (m : List CO) : St := { (canonO m).st with heap := hPut (pn 13) none (canonO m).st.heap }
noncomputable def notFree (t : Nat) : Bool := band (bnot (Nat.beq t 11)) (sel (Nat.blt t 32) true (Nat.blt 41 t))
noncomputable def kept (t : Nat) : Bool := sel (Nat.beq (tmGet (path t) (canonA []).tm).tag 21) true (band (V.sames [tmGet (path t) (canonA []).tm] [tmGet (path t) (canonO []).tm]) (notFree t))
theorem kept_all : those kept 0 512 = true := by kernel_rfl
theorem slot9 : tmGet (path 9) (canonO []).tm = vss (pn 13) 0 (l 3) 4 0 := by kernel_rfl
theorem slot31 : tmGet (path 31) (canonO []).tm = vx 3 (l 3) := by kernel_rfl
theorem slot32 : tmGet (path 32) (canonO []).tm = vi 3 0 := by kernel_rfl

theorem those_in {f : Nat → Bool} {k : Nat} : ∀ {n : Nat}, those f k n = true → ∀ {i : Nat}, i < n → f (k + i) = true
  | 0, _, i, hi => absurd hi (by omega)
  | n + 1, h, i, hi => by
    obtain ⟨h1, h2⟩ := band_true.1 (show band (those f k n) (f (k + n)) = true from h)
    rcases Nat.lt_or_ge i n with hlt | hge
    · exact those_in h1 hlt
    · obtain rfl : i = n := by omega
      exact h2

/-- Behind the change of the bytes: the second loop is begun. -/
structure Ends (q : Bool) (m : List CO) (G : SG) : Prop where
  obj : objOk m = true
  fit : fitsC (canonA m) [] 69 (canonA []).tm (killed m) = true
  seg : seg q false G (preL rest) (canonA m) [] = true
theorem ends_tail : Ends true (mTail false) (.run 0 (state false 0 0 (mTail false)) []) := ⟨by kernel_rfl, by kernel_rfl, behind_tail⟩
theorem ends_bad : ∀ q, Ends q (mBad 1) (toIdle false 0 (mBad 1))
  | true => ⟨by kernel_rfl, by kernel_rfl, behind_bad⟩
  | false => ⟨by kernel_rfl, by kernel_rfl, behind_bad'⟩
theorem ends_long : Ends true (mBad 4) (toIdle false 0 (mBad 4)) := ⟨by kernel_rfl, by kernel_rfl, behind_long⟩

theorem not_free {t : Nat} (h : notFree t = true) : ¬ Free t := by
  unfold notFree at h
  obtain ⟨h1, h2⟩ := band_true.1 h
  unfold Free
  have h1 : t ≠ 11 := fun h => by subst h; cases h1
  rw [sel_eq] at h2
  split at h2
  · rename_i h3
    have := blt_true.1 h3; omega
  · have := blt_true.1 h2; omega

/-- The code behind the statement's first loop. -/
noncomputable def tail2 : List Code := .block (loopId rest) (.loop (loopBody rest)) :: loopRest rest

set_option maxRecDepth 100000 in
theorem behind {q : Bool} {m : List CO} {G : SG} (E : Ends q m G) {w : World} {L0 L2 : Nat → Value} {e2 : Env} {a2 : Act} {w2 : World} {n : Nat} (hL : Leafy L2) (hag : Agree L2 L0) (hkn : ∀ L, Agree L L0 → HookOk L (cfgR q false)) (h3 : valInt (L0 3) = n) (hn : n ≤ 1100)
    (hlow : e2.low = w.heap.size) (har : ARel L2 e2 (canonO m).tm 69 a2) (hrr : Rel L2 (fun b => b < w.heap.size) w e2 (canonO m).st w2) {P0 : Act → World → Prop} {Q : Exit → Act → World → Prop}
    (hH : ∀ L1, Agree L1 L0 → G.Holds (fun _ => .bool true) L1 (fun b => b < w.heap.size) w w.heap.size Tryz.prog Tryz.f3 69 (Exit.then (wps Tryz.prog P0 Q tail2) Q) []) :
    wps Tryz.prog P0 Q (own :: rest) a2 w2 := by
  have hobj := E.obj
  unfold objOk at hobj
  split at hobj
  rotate_left
  · cases hobj
  rename_i o ho
  obtain ⟨o1, hobj⟩ := band_true.1 hobj
  obtain ⟨o2, hobj⟩ := band_true.1 hobj
  obtain ⟨o3, hobj⟩ := band_true.1 hobj
  obtain ⟨o4, o5⟩ := band_true.1 hobj
  have o1 : o.ro = false := by cases h : o.ro with
    | false => rfl
    | true => rw [h] at o1; cases o1
  have o2 := beq_true.1 o2
  have o3 := beq_true.1 o3
  have o4 := beq_true.1 o4
  have o5 := IE.beq_eq o5
  obtain ⟨b, base, cs, t, fr, hb, hw, ⟨hF, _⟩, hfr, ⟨_, hrow⟩, _⟩ := hrr.objs _ _ ho
  have hF := hF o1
  have hn3 : IE.eval L2 (l 3) = (n : Int) := by show valInt (L2 3) = _; rw [hag 3 rfl, h3]
  obtain ⟨_, _, hrow⟩ := hrow (by rw [o2]; decide)
  rw [o5, o2, o3, o4, hn3] at hrow
  have s9 := (har.tmps 9 (by omega))
  rw [show tmGet (path 9) (canonO m).tm = vss (pn 13) 0 (l 3) 4 0 from slot9] at s9
  obtain ⟨qb, cp, hq, hc, _, _, hx⟩ := iv25_some (v := vss (pn 13) 0 (l 3) 4 0) rfl (s9.resolve_left (by decide))
  have hq : e2.blk (pn 13) = some qb := hq
  rw [hb] at hq
  cases hq
  have s31 := har.tmps 31 (by omega)
  rw [show tmGet (path 31) (canonO m).tm = vx 3 (l 3) from slot31] at s31
  have s31 := s31.resolve_left (by decide)
  rw [iv3 rfl] at s31
  have s32 := har.tmps 32 (by omega)
  rw [show tmGet (path 32) (canonO m).tm = vi 3 0 from slot32] at s32
  have s32 := s32.resolve_left (by decide)
  rw [iv2 rfl] at s32
  have h9 : at' a2 9 = .slice (some ⟨b, base, none⟩) n cp := by
    show a2.tmps.getD 9 Go.undef = _
    rw [hx]
    show Value.slice (some ⟨b, base + 0, none⟩) (IE.eval L2 (l 3)).toNat (cp - 0) = _
    rw [hn3]
    rfl
  have h31 : at' a2 31 = .int .i64 (n : Int) := by
    have : some (Value.int .i64 (IE.eval L2 (l 3))) = some (a2.tmps.getD 31 Go.undef) := s31
    rw [hn3] at this
    exact (Option.some.inj this).symm
  have h32 : at' a2 32 = .int .i64 0 := (Option.some.inj s32).symm
  rw [show rest = preL rest ++ tail2 from takeDrop has_rest]
  have hby0 : Bytes b base n w2 w2 := ⟨rfl, rfl, rfl, rfl, fun _ _ => rfl, cs, t, fr, hw, hfr o1, fun j hj => ⟨_, hrow j (by omega)⟩⟩
  refine own_loop (w0 := w2) h9 h31 h32 har.size har.calm hn hby0 fun a3 w3 hs hby => ?_
  rw [wps_append]
  have hr3 : Rel L2 (fun b => b < w.heap.size) w e2 (killed m) w3 := by
    refine (hrr.kill (pn 13)).touch b hby.os hby.tape hby.output hby.size hby.other hF fun id o' q' ho' hq' => ?_
    have ho' : hGet id (hPut (pn 13) none (canonO m).st.heap) = some o' := ho'
    rw [hGet_put] at ho'
    split at ho'
    · cases ho'
    rename_i hne
    exact fun hbb => hrr.inj (pn 13) id o o' (b, base) q' ho ho' (fun h => hne h.symm) o1 hb hq' hbb.symm
  have ha3 : ARel L2 e2 (canonA []).tm 69 a3 := by
    refine ⟨hs.size, hs.calm, fun t ht => ?_⟩
    have hk := those_in kept_all ht
    rw [Nat.zero_add] at hk
    unfold kept at hk
    rw [sel_eq] at hk
    split at hk
    · rename_i h21
      exact .inl (beq_true.1 h21)
    · obtain ⟨k1, k2⟩ := band_true.1 hk
      have k1 := V.sames_eq _ _ k1
      have k1 : tmGet (path t) (canonA []).tm = tmGet (path t) (canonO []).tm := (List.cons.inj k1).1
      have := har.tmps t ht
      rw [show tmGet (path t) (canonO m).tm = tmGet (path t) (canonA []).tm from k1.symm] at this
      rw [show a3.tmps.getD t Go.undef = a2.tmps.getD t Go.undef from hs.keep t (not_free k2)]
      exact this
  obtain ⟨L1, e1, k1, k2, k3, k4, k5⟩ := fits_sound one1 hL E.fit ha3 hr3 (fun g hg => by cases hg)
  have hag1 : Agree L1 L0 := off_th (th := []) rfl hag k1
  refine SG.sound (fn := Tryz.f3) (n := 60) one1 k2 (fol _ _) (ext1 q false) (hkn L1 hag1) k4 k5 _ _ E.seg (fun _ h => by cases h) ?_
  rw [show e1.low = w.heap.size from k3.trans hlow]
  exact hH L1 hag1

/-! The tree of what a ring may be. -/
section
variable {q z : Bool} {X L : Nat → Value} {F : Nat → Prop} {w0 : World} {low : Nat} {P : Program} {fn : Func} {N : Nat} {Q : Exit → Act → World → Prop}
theorem clash {f : Fact} {fs : List Fact} (h1 : f ∈ mayF true) (h2 : (⟨f.op, f.a, f.b, !f.r⟩ : Fact) ∈ fs) (hF : FactsOk L fs) : ¬ FactsOk L (mayF true) := fun hM => by
  obtain ⟨g1, hg1, hr1⟩ := hM f h1
  obtain ⟨g2, hg2, hr2⟩ := hF _ h2
  have hg2 : cmpB f.op = some g2 := hg2
  have hr2 : g2 (f.a.eval L) (f.b.eval L) = !f.r := hr2
  rw [hg1] at hg2
  cases hg2
  rw [hr1] at hr2
  cases hfr : f.r <;> rw [hfr] at hr2 <;> cases hr2
theorem mayT : mayF true = [⟨.lss, l 1, .lit 64, false⟩, ⟨.lss, .lit 8192, l 1, false⟩, ⟨.lss, l 0, .lit 0, false⟩, ⟨.eql, .bin .rem .i64 (l 0) (.lit 8), .lit 0, true⟩, ⟨.lss, limE, l 0, false⟩, ⟨.lss, l 2, .lit 1, false⟩] := rfl
theorem treeQ_holds {fs : List Fact} (hbad : ∀ fs', (FactsOk L fs' → FactsOk L fs ∧ (q = true → ¬ FactsOk L (mayF true))) → (toBad z 1).Holds X L F w0 low P fn N Q fs')
    (hlong : q = true → ∀ fs', (FactsOk L fs' → FactsOk L fs ∧ FactsOk L (mayF true) ∧ FactsOk L [⟨.lss, longE, nE z, true⟩]) → (toBad z 4).Holds X L F w0 low P fn N Q fs')
    (htail : q = true → ∀ fs', (FactsOk L fs' → FactsOk L fs ∧ FactsOk L (mayF true) ∧ FactsOk L [⟨.lss, longE, nE z, false⟩]) → (toTail z).Holds X L F w0 low P fn N Q fs') : (treeQ q z).Holds X L F w0 low P fn N Q fs := by
  cases q with
  | false => exact hbad fs fun h => ⟨h, fun h => by cases h⟩
  | true =>
    have sub : ∀ {gs fs' : List Fact}, (∀ f ∈ gs, f ∈ fs') → FactsOk L fs' → FactsOk L gs := fun h hF f hf => hF f (h f hf)
    refine ⟨hbad _ fun h => ⟨sub (fun f hf => by simp [hf]) h, fun _ => clash (f := ⟨.lss, l 1, .lit 64, false⟩) (by simp [mayT]) (by simp) h⟩,
      hbad _ fun h => ⟨sub (fun f hf => by simp [hf]) h, fun _ => clash (f := ⟨.lss, .lit 8192, l 1, false⟩) (by simp [mayT]) (by simp) h⟩,
      hbad _ fun h => ⟨sub (fun f hf => by simp [hf]) h, fun _ => clash (f := ⟨.lss, l 0, .lit 0, false⟩) (by simp [mayT]) (by simp) h⟩,
      hbad _ fun h => ⟨sub (fun f hf => by simp [hf]) h, fun _ => clash (f := ⟨.lss, limE, l 0, false⟩) (by simp [mayT]) (by simp) h⟩,
      ⟨hbad _ fun h => ⟨sub (fun f hf => by simp [hf]) h, fun _ => clash (f := ⟨.lss, l 2, .lit 1, false⟩) (by simp [mayT]) (by simp) h⟩,
        hlong rfl _ fun h => ⟨sub (fun f hf => by simp [hf]) h, sub (fun f hf => ?_) h, sub (fun f hf => ?_) h⟩,
        htail rfl _ fun h => ⟨sub (fun f hf => by simp [hf]) h, sub (fun f hf => ?_) h, sub (fun f hf => ?_) h⟩⟩,
      hbad _ fun h => ⟨sub (fun f hf => by simp [hf]) h, fun _ => clash (f := ⟨.eql, .bin .rem .i64 (l 0) (.lit 8), .lit 0, true⟩) (by simp [mayT]) (by simp) h⟩⟩
    · rw [mayT] at hf
      simp only [List.mem_cons, List.not_mem_nil, or_false] at hf
      rcases hf with rfl | rfl | rfl | rfl | rfl | rfl <;> simp
    · simp only [List.mem_cons, List.not_mem_nil, or_false] at hf
      subst hf
      simp
    · rw [mayT] at hf
      simp only [List.mem_cons, List.not_mem_nil, or_false] at hf
      rcases hf with rfl | rfl | rfl | rfl | rfl | rfl <;> simp
    · simp only [List.mem_cons, List.not_mem_nil, or_false] at hf
      subst hf
      simp
end

end Go.Proofs.YtkmiijmoejcjgaaGreat.castSteps
