/- A send: turn by turn it is ready for what follows, if what is known of the beginning is so. -/
import Derived.Test.YtkmiijmoejcjgaaGreatCastW
import Derived.Test.YtkmiijmoejcjgaaGreatCastA
namespace Go.Proofs.YtkmiijmoejcjgaaGreat.castSteps
open Go.X Go.Proofs.YtkmiijmoejcjgaaGreat.rk
set_option linter.unusedSimpArgs false
set_option linter.unusedVariables false

/-- All that was reckoned of the parts. -/
structure Runs : Prop where
  more : ∀ g k, at0 g + 1 + k ≤ 59 → segMore g k = true
  stop : ∀ g k, at0 g + 1 + k ≤ 60 → segStop g k = true
  last : ∀ g k, at0 g + 1 + k ≤ 59 → segLast g k = true
  ta : ∀ g k, at0 g + 2 + k ≤ 60 → segTa g k = true
  tb : ∀ g k, at0 g + 2 + k ≤ 59 → segTb g k = true
  tc : ∀ g k, at0 g + 3 + k ≤ 60 → segTc g k = true
  td : ∀ g k, at0 g + 3 + k ≤ 59 → segTd g k = true
  ia : ∀ g k, at0 g + 4 + k ≤ 59 → segIa g k = true
  ib : ∀ g k, at0 g + 4 + k ≤ 60 → segIb g k = true

theorem ok_ch (k : Nat) : okI (chE k) = true := by
  show fixedLeaf (gl 2 k) = true
  unfold fixedLeaf gl
  simp
  omega
theorem ok_rem (k : Nat) : okI (remE k) = true := by unfold remE; cases Nat.beq k 0 <;> rfl
theorem fok_pay (k : Nat) : FOk (payF k) := FOk.append (fun f hf => by
  simp only [List.mem_cons, List.not_mem_nil, or_false] at hf
  rcases hf with rfl | rfl | rfl | rfl | rfl | rfl
  · exact ⟨rfl, rfl⟩
  · exact ⟨rfl, rfl⟩
  · exact ⟨rfl, rfl⟩
  · exact ⟨ok_ch k, rfl⟩
  · exact ⟨rfl, ok_ch k⟩
  · exact ⟨ok_rem k, ok_ch k⟩) fun f hf => by
  obtain ⟨j, _, rfl⟩ := List.mem_map.1 hf
  exact ⟨ok_ch j, rfl⟩
theorem fok_done (k : Nat) : FOk (doneF k) := FOk.append (fun f hf => by
  simp only [List.mem_cons, List.not_mem_nil, or_false] at hf
  rcases hf with rfl | rfl | rfl
  · exact ⟨rfl, rfl⟩
  · exact ⟨rfl, rfl⟩
  · exact ⟨ok_ch k, ok_rem k⟩) (fok_pay k)
theorem fok_base : ∀ z g, FOk (baseF z g)
  | false, false => fok_of (by kernel_rfl)
  | false, true => fok_of (by kernel_rfl)
  | true, false => fok_of (by kernel_rfl)
  | true, true => fok_of (by kernel_rfl)
theorem fok_first : ∀ z, FOk (rewF z ++ (goodF z ++ nF z))
  | false => fok_of (by kernel_rfl)
  | true => fok_of (by kernel_rfl)
theorem first_all : ∀ z, segFirst z = true
  | false => first_f
  | true => first_t
theorem head_all : ∀ z g, segHead z g = true
  | false, false => head_ff
  | false, true => head_ft
  | true, false => head_tf
  | true, true => head_tt
theorem record_all : ∀ g, segRecord g = true
  | false => record_f
  | true => record_t
theorem none_all : ∀ g, segNone g = true
  | false => none_f
  | true => none_t

theorem ready_head {L0 : Nat → Value} (z g : Bool) (hb : FactsOk L0 (baseF z g)) (h : Ready z L0 (at0 g) (mRecord z g)) : Ready z L0 0 (mTail z) := by
  obtain ⟨h1, h2⟩ := band_true.1 (head_all z g)
  obtain ⟨h2, h3⟩ := band_true.1 h2
  have hf : FactsOk L0 (rewF z ++ (goodF z ++ nF z)) := (factsOk_append.1 hb).2
  refine .step (fok_first z) hf (fun _ => first_all z) (fok_base z g) (fun _ => hb) (fun _ => h1) fun _ => ?_
  cases g with
  | false => exact .step (fok_base z false) hb (fun _ => h2) (fok_base z false) (fun _ => hb) (fun _ => h3) fun _ => h
  | true =>
    obtain ⟨h3, h4⟩ := band_true.1 h3
    obtain ⟨h4, h5⟩ := band_true.1 h4
    exact .step (fok_base z true) hb (fun _ => h2) (fok_base z true) (fun _ => hb) (fun _ => h3) fun _ => .step (fok_base z true) hb (fun _ => h4) (fok_base z true) (fun _ => hb) (fun _ => h5) fun _ => h

/-- Nothing is written. -/
theorem ready_none {L0 : Nat → Value} (g : Bool) (hb : FactsOk L0 (baseF true g)) : Ready true L0 0 (mTail true) := by
  refine ready_head true g hb ?_
  obtain ⟨h1, h2⟩ := band_true.1 (none_all g)
  obtain ⟨h1a, h1b⟩ := band_true.1 h1
  obtain ⟨h2, h3⟩ := band_true.1 h2
  obtain ⟨h2a, h2b⟩ := band_true.1 h2
  obtain ⟨p1, p2⟩ := band_true.1 h2a
  obtain ⟨q1, q2⟩ := band_true.1 h2b
  obtain ⟨r1, r2⟩ := band_true.1 h3
  have fk := fok_base true g
  exact .step fk hb (fun _ => h1a) fk (fun _ => hb) (fun _ => h1b) fun _ => .step fk hb (fun _ => p1) fk (fun _ => hb) (fun _ => p2) fun _ => .stop fk hb (fun _ => q1) fk (fun _ => hb) (fun _ => q2) (fun _ => r1) fun _ => r2

/-- Parts are written. -/
theorem ready_parts (R : Runs) {L0 : Nat → Value} (g : Bool) {cnt : Nat} (hb : FactsOk L0 (baseF false g)) (hcnt : 1 ≤ cnt) (hpay : ∀ k, k < cnt → FactsOk L0 (payF k)) (hdone : ∀ k, k + 1 = cnt → FactsOk L0 (doneF k)) : Ready false L0 0 (mTail false) := by
  refine ready_head false g hb ?_
  have fb := fok_base false g
  have moved : ∀ k, k + 1 = cnt → Ready false L0 (at0 g + 3 + k) (mMoved false g) := fun k hk => by
    have fd := (fok_done k).append fb
    have hd : FactsOk L0 (doneF k ++ baseF false g) := factsOk_append.2 ⟨hdone k hk, hb⟩
    have e : at0 g + 4 + k = at0 g + 3 + k + 1 := by omega
    refine .stop fd hd (fun h => R.tc g k h) fd (fun _ => hd) (fun h => R.td g k h) (fun h => ?_) fun h => ?_
    · have := R.ia g k (by omega)
      unfold segIa at this
      rw [e] at this
      exact this
    · have := R.ib g k (by omega)
      unfold segIb at this
      rw [e] at this
      exact this
  have latest : ∀ k, k + 1 = cnt → Ready false L0 (at0 g + 2 + k) (mLatest false g) := fun k hk => by
    have fd := (fok_done k).append fb
    have hd : FactsOk L0 (doneF k ++ baseF false g) := factsOk_append.2 ⟨hdone k hk, hb⟩
    refine .step fd hd (fun h => R.ta g k h) fd (fun _ => hd) (fun h => R.tb g k h) fun h => ?_
    have := moved k hk
    rw [show at0 g + 3 + k = at0 g + 2 + k + 1 by omega] at this
    exact this
  have pay : ∀ j k, k + 1 + j = cnt → Ready false L0 (at0 g + 1 + k) (mPay g k) := by
    intro j
    induction j with
    | zero =>
      intro k hk
      have fd := (fok_done k).append fb
      have hd : FactsOk L0 (doneF k ++ baseF false g) := factsOk_append.2 ⟨hdone k hk, hb⟩
      refine .step ((fok_pay k).append fb) (factsOk_append.2 ⟨hpay k (by omega), hb⟩) (fun h => R.stop g k h) fd (fun _ => hd) (fun h => R.last g k h) fun h => ?_
      have := latest k hk
      rw [show at0 g + 2 + k = at0 g + 1 + k + 1 by omega] at this
      exact this
    | succ j ih =>
      intro k hk
      refine .step ((fok_pay k).append fb) (factsOk_append.2 ⟨hpay k (by omega), hb⟩) (fun h => R.stop g k h) ((fok_pay (k + 1)).append fb) (fun _ => factsOk_append.2 ⟨hpay (k + 1) (by omega), hb⟩) (fun h => R.more g k h) fun h => ih (k + 1) (by omega)
  obtain ⟨h1, h2⟩ := band_true.1 (record_all g)
  exact .step fb hb (fun _ => h1) ((fok_pay 0).append fb) (fun _ => factsOk_append.2 ⟨hpay 0 (by omega), hb⟩) (fun _ => h2) fun _ => pay (cnt - 1) 0 (by omega)

/-! A send that may not be. -/
theorem fok_may : ∀ q, FOk (mayF q)
  | false => fok_of (by kernel_rfl)
  | true => fok_of (by kernel_rfl)
theorem fok_long : ∀ z, FOk (longF z)
  | false => fok_of (by kernel_rfl)
  | true => fok_of (by kernel_rfl)
theorem bad_all : ∀ q z, segBad q z = true
  | false, false => bad_ff
  | false, true => bad_ft
  | true, false => bad_tf
  | true, true => bad_tt
theorem long_all : ∀ z, segLong z = true
  | false => long_f
  | true => long_t

theorem leads_tree {L0 : Nat → Value} (q : Bool) (r : SG) (h : q = true → ¬ FactsOk L0 (mayF true)) : Leads L0 (badTree q r) r := by
  intro X L1 F w0 low P fn N Q fs hag hr
  cases q with
  | false =>
    have all : ∀ (l : List Fact) (fs : List Fact), (mayTree r r l).Holds X L1 F w0 low P fn N Q fs := by
      intro l
      induction l with
      | nil => intro fs; exact hr fs
      | cons f l ih =>
        intro fs
        show (sel f.r (mayTree r r l) r).Holds X L1 F w0 low P fn N Q _ ∧ (sel f.r r (mayTree r r l)).Holds X L1 F w0 low P fn N Q _
        cases hfr : f.r with
        | true => exact ⟨ih _, hr _⟩
        | false => exact ⟨hr _, ih _⟩
    exact all _ fs
  | true =>
    have all : ∀ (l : List Fact) (fs : List Fact), (FactsOk L1 fs → ¬ FactsOk L1 l) → (mayTree r .dead l).Holds X L1 F w0 low P fn N Q fs := by
      intro l
      induction l with
      | nil => intro fs h hF; exact h hF fun _ h => by cases h
      | cons f l ih =>
        intro fs h
        have hnext : ∀ b, b = f.r → (mayTree r .dead l).Holds X L1 F w0 low P fn N Q (⟨f.op, f.a, f.b, b⟩ :: fs) := fun b hb => ih _ fun hF hl => h (fun q hq => hF q (List.mem_cons_of_mem _ hq)) (factsOk_cons (by have := hF _ List.mem_cons_self; rw [hb] at this; exact this) hl)
        show (sel f.r (mayTree r .dead l) r).Holds X L1 F w0 low P fn N Q _ ∧ (sel f.r r (mayTree r .dead l)).Holds X L1 F w0 low P fn N Q _
        cases hfr : f.r with
        | true => exact ⟨hnext true hfr.symm, hr _⟩
        | false => exact ⟨hr _, hnext false hfr.symm⟩
    exact all _ fs fun _ hm => h rfl (facts_ok hag.symm (fok_may true) hm)

theorem idle_bad {q z : Bool} {L0 : Nat → Value} (h : q = true → ¬ FactsOk L0 (mayF true)) : Idle q z L0 0 (mBad 1) := by
  obtain ⟨h1, h2⟩ := band_true.1 (bad_all q z)
  exact ⟨[], _, _, fun f hf => (by cases hf), fun f hf => (by cases hf), fun _ => h1, h2, leads_tree q _ h, leads_tree q _ h⟩
theorem idle_long {z : Bool} {L0 : Nat → Value} (h : FactsOk L0 (longF z)) : Idle true z L0 0 (mBad 4) := by
  obtain ⟨h1, h2⟩ := band_true.1 (long_all z)
  exact ⟨_, _, _, fok_long z, h, fun _ => h1, h2, Leads.refl _ _, Leads.refl _ _⟩

end Go.Proofs.YtkmiijmoejcjgaaGreat.castSteps
