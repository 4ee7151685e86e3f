/- A send: what calls are known to answer. -/
import Derived.Test.YtkmiijmoejcjgaaGreatCastF
import Derived.Test.YtkmiijmoejcjgaaGreatRefPow
import Derived.Test.YtkmiijmoejcjgaaGreatRefSizes
import Derived.Test.YtkmiijmoejcjgaaGreatRefRecord
namespace Go.Proofs.YtkmiijmoejcjgaaGreat.castSteps
open Go.X Go.Proofs.YtkmiijmoejcjgaaGreat.rk
open Go.RowKit (Below)
set_option linter.unusedSimpArgs false
set_option linter.unusedVariables false

theorem Leaves.agree {z : Bool} {L L0 : Nat → Value} {A S Ty T : Int} {n : Nat} (H : Leaves z L0 A S Ty n T) (h : Agree L L0) : Leaves z L A S Ty n T :=
  ⟨by rw [h 0 rfl]; exact H.h0, by rw [h 1 rfl]; exact H.h1, by rw [h 2 rfl]; exact H.h2, by rw [h 3 rfl]; exact H.h3, by rw [h 4 rfl]; exact H.h4, by rw [h 5 rfl]; exact H.h5, by rw [h 6 rfl]; exact H.h6,
    by rw [h 11 rfl]; exact H.h11, by rw [h 12 rfl]; exact H.h12, by rw [h 14 rfl]; exact H.h14, by rw [h 15 rfl]; exact H.h15, by rw [h 16 rfl]; exact H.h16, by rw [h 20 rfl]; exact H.h20,
    fun k hk => by rw [h (gl 2 k) (ok_ch k)]; exact H.hch k hk⟩

theorem rowIs {w : World} {base : Nat} {s : Value} {l : List Int} (h : ownsInts w base s l) (hl : l ≠ []) :
    ∃ g cap cs t fr, s = .slice (some ⟨g, 0, none⟩) l.length cap ∧ l.length ≤ cap ∧ base ≤ g ∧ w.heap[g]? = some (.cells cs t fr) ∧ (fr.1 = fr.2 ∨ cs.size ≤ fr.1) ∧ ∀ i, i < l.length → cs[i]? = some (.int .i64 (l.getD i 0)) := by
  rcases h.2 with ⟨hv, hn⟩ | ⟨g, cap, cur, hv, hb, hg, hnc, hcm, hcs, htk⟩
  · exact absurd (List.eq_nil_of_length_eq_zero hn) hl
  · refine ⟨g, cap, cur, _, _, hv, hnc, hb, hg, .inl rfl, fun i hi => ?_⟩
    have h1 : (cur.toList.take (l.length * 1))[i]? = (l.map (Value.int .i64))[i]? := by rw [htk]
    rw [List.getElem?_take, if_pos (by omega), Array.getElem?_toList] at h1
    rw [h1]
    simp [List.getD_eq_getElem?_getD, hi]

set_option maxRecDepth 100000 in
theorem known {z : Bool} {L0 : Nat → Value} {A S Ty T : Int} {n : Nat} (H0 : Leaves z L0 A S Ty n T) (h9 : valInt (L0 9) = recI (if z then 8 else IntKind.i32.wrap (IntKind.i64.wrap (8 + n))) Ty) (h10 : valInt (L0 10) = recI (IntKind.i32.wrap (S - T % S)) (-1))
    (hS : -9223372036854775808 ≤ S ∧ S ≤ 9223372036854775807) (hTy : -2147483648 ≤ Ty ∧ Ty ≤ 2147483647) (hn : n ≤ 1100) (hz' : z = false → 0 < n) : ∀ L, Agree L L0 → HookOk L (cfgR (isP S) z) := by
  intro L hag
  have H := H0.agree hag
  have h9 := (congrArg valInt (hag 9 rfl)).trans h9
  have h10 := (congrArg valInt (hag 10 rfl)).trans h10
  have hN : 1 ≤ numI z n ∧ numI z n ≤ 1100 := by
    cases z with
    | true => exact ⟨Nat.le_refl 1, by show 1 ≤ 1100; omega⟩
    | false => exact ⟨hz' rfl, hn⟩
  have hch : ch (numI z n) ≠ [] := by
    intro h
    have := ch_len (numI z n)
    rw [h] at this
    simp at this
    omega
  have e1 : IE.eval L (l 1) = S := H.h1
  have e3 : IE.eval L (l 3) = (numI z n : Nat) := H.h3
  have rows : ∀ f, enterTest Tryz.prog f = true → (∀ w, Calls Tryz.prog f #[.int .i64 (numI z n : Nat)] w fun e w' => ∃ s, e = .returned s ∧ ownsInts w' w.heap.size s (ch (numI z n)) ∧ Below w.heap.size w w') → KnownR.Ok L Tryz.prog ⟨f, l 3, l 4, [], 2⟩ := by
    intro f hf hcall
    refine ⟨hf, (ch (numI z n)).length, H.h4, ?_, fun i v hv => by simp at hv, fun w => ?_⟩
    · have := ch_len (numI z n); omega
    · show Calls Tryz.prog f #[.int .i64 (IE.eval L (l 3))] w _
      rw [e3]
      refine (hcall w).mono ?_
      rintro en w' ⟨s, rfl, ho, hb⟩
      obtain ⟨g, cap, cs, t, fr, rfl, h1, h2, h3, h4, h5⟩ := rowIs ho hch
      exact ⟨g, cap, cs, t, fr, rfl, h1, h2, h3, h4, fun i hi => by rw [h5 i hi]; exact congrArg (fun q => some (Value.int .i64 q)) (H.hch i hi).symm, hb⟩
  have nums : ∀ f (args : List V) (r : V) (xs : List Value) (x : Value), enterTest Tryz.prog f = true → (∀ e, il L e args = some xs) → (∀ e, iv L e r = some x) → (∀ w, Calls Tryz.prog f xs.toArray w fun e w' => e = .returned x ∧ Below w.heap.size w w') → KnownA.Ok L Tryz.prog ⟨f, args, r⟩ :=
    fun f args r xs x h1 h2 h3 h4 => ⟨h1, xs, x, h2, h3, h4⟩
  have i1 : ∀ e, il L e [vx 3 (l 1)] = some [.int .i64 S] := fun e => il_cons.2 ⟨_, _, iv3 rfl, il_nil, by show [_] = [Value.int .i64 (IE.eval L (l 1))]; rw [e1]⟩
  have i3 : ∀ e, il L e [vx 3 (l 3)] = some [.int .i64 (numI z n : Nat)] := fun e => il_cons.2 ⟨_, _, iv3 rfl, il_nil, by show [_] = [Value.int .i64 (IE.eval L (l 3))]; rw [e3]⟩
  have hsz : szE (numI z n : Nat) = 0 := by
    unfold szE szB
    rw [if_pos (decide_eq_true ⟨by omega, by omega⟩)]
  have r5 : ∀ e, iv L e (vtup [vx 3 (l 5), vi 3 0]) = some (.tuple #[.int .i64 (szI (numI z n : Nat) 8 8), .int .i64 (szE (numI z n : Nat))]) := fun e => by
    have := iv_vtup (L := L) (e := e) (l := [vx 3 (l 5), vi 3 0]) (il_cons.2 ⟨_, _, iv3 rfl, il_cons.2 ⟨_, _, iv2 rfl, il_nil, rfl⟩, rfl⟩)
    rw [this]
    show some (Value.tuple #[Value.int .i64 (valInt (L 5)), Value.int .i64 0]) = _
    rw [H.h5, hsz]
  have iR : ∀ e, il L e [lenV z, vx 2 (l 2)] = some [.int .i32 (if z then 8 else IntKind.i32.wrap (IntKind.i64.wrap (8 + n))), .int .i32 Ty] := fun e => by
    have e2 : IE.eval L (l 2) = Ty := H.h2
    have hy : iv L e (vx 2 (l 2)) = some (.int .i32 Ty) := by rw [iv3 rfl, show (vx 2 (l 2)).x = l 2 from rfl, e2]; rfl
    cases z with
    | true => exact il_cons.2 ⟨_, _, iv2 rfl, il_cons.2 ⟨_, _, hy, il_nil, rfl⟩, rfl⟩
    | false =>
      have e3 : IE.eval L (.leaf 3) = (n : Int) := H.h3
      refine il_cons.2 ⟨_, _, iv3 rfl, il_cons.2 ⟨_, _, hy, il_nil, rfl⟩, ?_⟩
      show _ = [Value.int .i32 (IE.eval L (.conv .i32 (.bin .add .i64 (.lit 8) (.leaf 3)))), _]
      rw [eval_conv, eval_add, eval_lit, e3]
      rfl
  have r9 : ∀ e, iv L e (vx 7 (l 9)) = some (.int .u64 (recI (if z then 8 else IntKind.i32.wrap (IntKind.i64.wrap (8 + n))) Ty)) := fun e => by rw [← h9]; exact iv3 rfl
  have iP : ∀ e, il L e [vx 2 (.conv .i32 (l 12)), vi 2 (-1)] = some [.int .i32 (IntKind.i32.wrap (S - T % S)), .int .i32 (-1)] := fun e => by
    have e12 : IE.eval L (l 12) = S - T % S := H.h12
    refine il_cons.2 ⟨_, _, iv3 rfl, il_cons.2 ⟨_, _, iv2 rfl, il_nil, rfl⟩, ?_⟩
    show _ = [Value.int .i32 (IE.eval L (.conv .i32 (l 12))), _]
    rw [eval_conv, e12]
    rfl
  have r10 : ∀ e, iv L e (vx 7 (l 10)) = some (.int .u64 (recI (IntKind.i32.wrap (S - T % S)) (-1))) := fun e => by rw [← h10]; exact iv3 rfl
  have w1 : ∀ x, -2147483648 ≤ IntKind.i32.wrap x ∧ IntKind.i32.wrap x ≤ 2147483647 := fun x => by rw [Go.X.wrap_i32]; omega
  have w8 : -2147483648 ≤ (if z then 8 else IntKind.i32.wrap (IntKind.i64.wrap (8 + n)) : Int) ∧ (if z then 8 else IntKind.i32.wrap (IntKind.i64.wrap (8 + n)) : Int) ≤ 2147483647 := by
    cases z with
    | true => exact ⟨by show (-2147483648 : Int) ≤ 8; omega, by show (8 : Int) ≤ 2147483647; omega⟩
    | false => exact w1 _
  have bel : ∀ {e : Ending} {x : Value} {w w' : World}, (e = .returned x ∧ w = w') → e = .returned x ∧ Below w.heap.size w w' := fun h => ⟨h.1, h.2 ▸ Below.refl _ _⟩
  refine hookOk_R (c := cfgR (isP S) z) rfl (by kernel_rfl) fixed11_true (fun k hk => ?_) (fun k hk => ?_)
  · simp only [la, List.mem_cons, List.not_mem_nil, or_false] at hk
    rcases hk with rfl | rfl | rfl | rfl | rfl | rfl | rfl | rfl
    · exact nums _ _ _ _ _ (by kernel_rfl) i1 (fun e => iv_vb _) fun w => (risPower_any S w hS.1 hS.2).mono fun _ _ h => bel h
    · exact nums _ _ _ _ _ (by kernel_rfl) i1 (fun e => iv_vb _) fun w => (isPower_any S w hS.1 hS.2).mono fun _ _ h => bel h
    · exact nums _ _ _ _ _ (by kernel_rfl) i3 r5 fun w => (recordSize_any (numI z n : Nat) w).mono fun _ _ h => bel h
    · exact nums _ _ _ _ _ (by kernel_rfl) i3 r5 fun w => (rrecordSize_any _ w).mono fun _ _ h => bel h
    · exact nums _ _ _ _ _ (by kernel_rfl) iR r9 fun w => (record_any (if z then 8 else IntKind.i32.wrap (IntKind.i64.wrap (8 + n))) Ty w).mono fun _ _ h => bel h
    · exact nums _ _ _ _ _ (by kernel_rfl) iR r9 fun w => rrecord_any (if z then 8 else IntKind.i32.wrap (IntKind.i64.wrap (8 + n))) Ty w w8.1 w8.2 hTy.1 hTy.2
    · exact nums _ _ _ _ _ (by kernel_rfl) iP r10 fun w => (record_any (IntKind.i32.wrap (S - T % S)) (-1) w).mono fun _ _ h => bel h
    · exact nums _ _ _ _ _ (by kernel_rfl) iP r10 fun w => rrecord_any (IntKind.i32.wrap (S - T % S)) (-1) w (w1 _).1 (w1 _).2 (by decide) (by decide)
  · simp only [lr, List.mem_cons, List.not_mem_nil, or_false] at hk
    rcases hk with rfl | rfl
    · exact rows _ (by kernel_rfl) fun w => chunks_in (numI z n) hN.1 (by omega) w
    · exact rows _ (by kernel_rfl) fun w => rchunks_in (numI z n) hN.1 (by omega) w

end Go.Proofs.YtkmiijmoejcjgaaGreat.castSteps
