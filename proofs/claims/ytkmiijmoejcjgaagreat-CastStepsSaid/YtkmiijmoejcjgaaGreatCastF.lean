/- A send: what is known of the beginning is so. -/
import Derived.Test.YtkmiijmoejcjgaaGreatCastPl
import Derived.Test.YtkmiijmoejcjgaaGreatChunks
import Derived.Test.YtkmiijmoejcjgaaGreatHead
import Derived.Test.YtkmiijmoejcjgaaGreatIsPower
namespace Go.Proofs.YtkmiijmoejcjgaaGreat.castSteps
open Go.X Go.Proofs.YtkmiijmoejcjgaaGreat.rk
set_option linter.unusedSimpArgs false
set_option linter.unusedVariables false

variable {L : Nat → Value}
theorem eval_and (a b : IE) : IE.eval L (.bin .and .i64 a b) = Go.bits .and .i64 (a.eval L) (b.eval L) := by
  show ((some (bitF (codeOf .i64) Nat.land (andG (kindOf (codeOf .i64))) (a.eval L) (b.eval L))).getD 0 : Int) = _
  rw [Option.getD_some, and_eq]
  rfl
theorem eval_rem (k : IntKind) (a b : IE) (h : b.eval L ≠ 0) : IE.eval L (.bin .rem k a b) = (a.eval L).tmod (b.eval L) := by
  show ((chk (bnot (eqF (b.eval L) 0)) (some (remF (a.eval L) (b.eval L)))).getD 0 : Int) = _
  rw [eqF_eq, show ((b.eval L) == 0) = false from beq_false_of_ne h]
  show ((some (remF (a.eval L) (b.eval L))).getD 0 : Int) = _
  rw [Option.getD_some, remF_eq]
theorem eval_quo (a b : IE) (h : b.eval L ≠ 0) : IE.eval L (.bin .quo .i64 a b) = IntKind.i64.wrap ((a.eval L).tdiv (b.eval L)) := by
  show ((chk (bnot (eqF (b.eval L) 0)) (some (quoF (codeOf .i64) (a.eval L) (b.eval L)))).getD 0 : Int) = _
  rw [eqF_eq, show ((b.eval L) == 0) = false from beq_false_of_ne h]
  show ((some (quoF (codeOf .i64) (a.eval L) (b.eval L))).getD 0 : Int) = _
  rw [Option.getD_some, quoF_eq]
  rfl

/-- How long a record is. -/
def needI (z : Bool) (n : Nat) : Int := if z then 8 else szI n 8 8
def numI (z : Bool) (n : Nat) : Nat := if z then 1 else n

/-- What the leaves are. -/
structure Leaves (z : Bool) (L : Nat → Value) (A S Ty : Int) (n : Nat) (T : Int) : Prop where
  h0 : valInt (L 0) = A
  h1 : valInt (L 1) = S
  h2 : valInt (L 2) = Ty
  h3 : valInt (L 3) = (numI z n : Nat)
  h4 : valInt (L 4) = ((ch (numI z n)).length : Nat)
  h5 : valInt (L 5) = szI (numI z n : Nat) 8 8
  h6 : valInt (L 6) = T % S
  h11 : valInt (L 11) = if S - T % S < needI z n then (T + (S - T % S) + needI z n) % 18446744073709551616 else (T + needI z n) % 18446744073709551616
  h12 : valInt (L 12) = S - T % S
  h14 : valInt (L 14) = IntKind.i64.wrap (IntKind.i64.wrap T + (S - T % S))
  h15 : valInt (L 15) = IntKind.i64.wrap T
  h16 : valInt (L 16) = (T + (S - T % S)) % 18446744073709551616
  h20 : valInt (L 20) = T
  hch : ∀ k, k < (ch (numI z n)).length → valInt (L (gl 2 k)) = (ch (numI z n)).getD k 0

theorem power {S : Int} (hp : isP S = true) (h1 : 64 ≤ S) (h2 : S ≤ 8192) : (∀ x : Int, Go.bits .and .i64 x (S - 1) = x % S) ∧ ∃ c : Int, (18446744073709551616 : Int) = S * c := by
  obtain ⟨k, hk, rfl⟩ := (isP_iff S (by omega)).1 hp
  refine ⟨fun x => and_mask x k hk, 2 ^ (64 - k), ?_⟩
  rw [← Int.pow_add, show k + (64 - k) = 64 by omega]
  rfl
theorem mod_wrap {S c : Int} (hc : (18446744073709551616 : Int) = S * c) (x : Int) : (IntKind.i64.wrap x) % S = x % S := by
  rw [Go.X.wrap_i64]
  obtain ⟨q, hq⟩ : ∃ q, (x + 9223372036854775808) % 18446744073709551616 - 9223372036854775808 = x - 18446744073709551616 * q := ⟨(x + 9223372036854775808) / 18446744073709551616, by omega⟩
  rw [hq, hc, Int.mul_assoc, Int.sub_mul_emod_self_left]

theorem ch_len (m : Nat) : (ch m).length = (m + 7) / 8 := by
  unfold ch
  split <;> simp <;> omega
theorem ch_at {m k : Nat} (h : k < (ch m).length) : (ch m).getD k 0 = if 8 * k + 8 ≤ m then 8 else ((m - 8 * k : Nat) : Int) := by
  rw [ch_len] at h
  unfold ch
  rw [List.getD_eq_getElem?_getD]
  rcases Nat.lt_or_ge k (m / 8) with hlt | hge
  · rw [List.getElem?_append_left (by simpa using hlt), List.getElem?_replicate, if_pos hlt, if_pos (by omega)]
    rfl
  · rw [List.getElem?_append_right (by simpa using hge), if_neg (by omega), if_neg (by omega), List.length_replicate, show k - m / 8 = 0 by omega]
    show ((m % 8 : Nat) : Int) = _
    congr 1
    omega

section
variable {z g : Bool} {A S Ty T : Int} {n : Nat}
theorem need_eq (hn : n ≤ 1100) (hz : z = true → n = 0) (hz' : z = false → 0 < n) : needI z n = if z then 8 else ((n : Int) + 15) / 8 * 8 := by
  cases z with
  | true => rfl
  | false =>
    show szI n 8 8 = ((n : Int) + 15) / 8 * 8
    have h1 : szB (n : Int) = true := by unfold szB; simp; omega
    have h2 : alB ((n : Int) + 8) 8 = true := by
      unfold alB
      rw [show isP 8 = true from (isP_iff 8 (by decide)).2 ⟨3, by decide, rfl⟩]
      simp
      omega
    unfold szI alI
    rw [h1, h2]
    show ((n : Int) + 8 + 8 - 1) / 8 * 8 = _
    rw [show (n : Int) + 8 + 8 - 1 = n + 15 by omega]

/-- What the ring must be, in numbers. -/
structure Sizes (A S Ty : Int) (n : Nat) : Prop where
  s1 : 64 ≤ S
  s2 : S ≤ 8192
  a1 : 0 ≤ A
  a2 : A ≤ 131072
  n1 : (n : Int) ≤ S / 8

theorem base_ok (H : Leaves z L A S Ty n T) (hp : isP S = true) (Z : Sizes A S Ty n) (hn : n ≤ 1100) (hz : z = true → n = 0) (hz' : z = false → 0 < n) (hT : 0 ≤ T ∧ T < 18446744073709551616) (hg : g = decide (S - T % S < needI z n))
    (hgood : FactsOk L (goodF z)) (hnf : FactsOk L (nF z)) : FactsOk L (baseF z g) := by
  obtain ⟨hand, c, hc⟩ := power hp Z.s1 Z.s2
  have hneed := need_eq hn hz hz'
  have hs1 := Z.s1
  have hs2 := Z.s2
  have ha1 := Z.a1
  have ha2 := Z.a2
  have hn1 := Z.n1
  have hpl0 : 0 ≤ T % S := Int.emod_nonneg _ (by omega)
  have hpl1 : T % S < S := Int.emod_lt_of_pos _ (by omega)
  have hNle : 8 ≤ needI z n ∧ needI z n ≤ S := by
    rw [hneed]
    cases z with
    | true => exact ⟨by show (8 : Int) ≤ 8; omega, by show (8 : Int) ≤ S; omega⟩
    | false => have := hz' rfl; exact ⟨by show (8 : Int) ≤ (n + 15) / 8 * 8; omega, by show ((n : Int) + 15) / 8 * 8 ≤ S; omega⟩
  have eN : IE.eval L (needE z) = needI z n := by
    cases z with
    | true => rfl
    | false => exact H.h5
  have eU : IE.eval L (needU z) = needI z n := by
    cases z with
    | true => rfl
    | false =>
      show IE.eval L (.conv .u64 (.leaf 5)) = _
      rw [eval_conv, eval_leaf, H.h5, Go.X.wrap_u64]
      show szI n 8 8 % 18446744073709551616 = szI n 8 8
      have : needI false n = szI n 8 8 := rfl
      omega
  have e0 : IE.eval L (l 0) = A := H.h0
  have e1 : IE.eval L (l 1) = S := H.h1
  have e6 : IE.eval L (l 6) = T % S := H.h6
  have e11 : IE.eval L (l 11) = _ := H.h11
  have e12 : IE.eval L (l 12) = S - T % S := H.h12
  have e14 : IE.eval L (l 14) = _ := H.h14
  have e15 : IE.eval L (l 15) = _ := H.h15
  have e16 : IE.eval L (l 16) = _ := H.h16
  have e20 : IE.eval L (l 20) = T := H.h20
  have hts : (IntKind.i64.wrap T) % S = T % S := mod_wrap hc T
  have h14 : (IntKind.i64.wrap (IntKind.i64.wrap T + (S - T % S))) % S = 0 := by
    rw [mod_wrap hc, Int.add_emod, hts, ← Int.add_emod]
    have h1 := Int.emod_add_mul_ediv T S
    have h2 : T + (S - T % S) = S * (T / S + 1) := by
      rw [Int.mul_add, Int.mul_one]
      generalize S * (T / S) = u at *
      generalize T % S = v at *
      omega
    rw [h2, Int.mul_emod_right]
  have eu : IE.eval L (.conv .u64 (l 1)) = S := by rw [eval_conv, e1, Go.X.wrap_u64]; omega
  refine factsOk_append.2 ⟨?_, factsOk_append.2 ⟨?_, factsOk_append.2 ⟨hgood, hnf⟩⟩⟩
  · generalize T % S = pl at *
    generalize needI z n = nd at *
    cases g with
    | true =>
      have hlt : S - pl < nd := of_decide_eq_true hg.symm
      rw [if_pos hlt] at e11
      refine factsOk_of rfl ⟨?_, ?_, ?_, ?_, ?_, ?_, ?_, ?_, ?_, trivial⟩
      · show IE.eval L (l 12) < IE.eval L (needE z); omega
      · show IE.eval L (.bin .add .i64 (l 15) (l 12)) = IE.eval L (l 14)
        rw [eval_add, e15, e12, e14]
      · show IE.eval L (.conv .u64 (.bin .add .i64 (l 14) (needE z))) = IE.eval L (l 11)
        rw [eval_conv, eval_add, e14, eN, e11]
        simp only [Go.X.wrap_i64, Go.X.wrap_u64]
        omega
      · show IE.eval L (.bin .add .u64 (l 20) (.conv .u64 (.bin .add .i64 (l 12) (needE z)))) = IE.eval L (l 11)
        rw [eval_add, eval_conv, eval_add, e20, e12, eN, e11]
        simp only [Go.X.wrap_i64, Go.X.wrap_u64]
        omega
      · show IE.eval L (.bin .and .i64 (l 14) (.bin .sub .i64 (l 1) (.lit 1))) = 0
        rw [eval_and, eval_sub, e14, e1, eval_lit, show IntKind.i64.wrap (S - 1) = S - 1 by rw [Go.X.wrap_i64]; omega, hand, h14]
      · show IE.eval L (.bin .add .u64 (l 20) (.conv .u64 (l 12))) = IE.eval L (l 16)
        rw [eval_add, eval_conv, e20, e12, e16]
        simp only [Go.X.wrap_u64]
        omega
      · show IE.eval L (.conv .u64 (l 14)) = IE.eval L (l 16)
        rw [eval_conv, e14, e16]
        simp only [Go.X.wrap_i64, Go.X.wrap_u64]
        omega
      · show IE.eval L (.bin .add .u64 (l 16) (needU z)) = IE.eval L (l 11)
        rw [eval_add, e16, eU, e11]
        simp only [Go.X.wrap_u64]
        omega
      · show IE.eval L (.conv .i64 (l 16)) = IE.eval L (l 14)
        rw [eval_conv, e16, e14]
        simp only [Go.X.wrap_i64]
        omega
    | false =>
      have hlt : ¬ S - pl < nd := of_decide_eq_false hg.symm
      rw [if_neg hlt] at e11
      refine factsOk_of rfl ⟨?_, ?_, ?_, ?_, trivial⟩
      · show IE.eval L (needE z) ≤ IE.eval L (l 12); omega
      · show IE.eval L (.conv .u64 (.bin .add .i64 (l 15) (needE z))) = IE.eval L (l 11)
        rw [eval_conv, eval_add, e15, eN, e11]
        simp only [Go.X.wrap_i64, Go.X.wrap_u64]
        omega
      · show IE.eval L (.bin .add .u64 (l 20) (needU z)) = IE.eval L (l 11)
        rw [eval_add, e20, eU, e11]
        simp only [Go.X.wrap_u64]
      · show IE.eval L (.conv .u64 (l 15)) = IE.eval L (l 20)
        rw [eval_conv, e15, e20]
        simp only [Go.X.wrap_i64, Go.X.wrap_u64]
        omega
  · refine factsOk_of rfl ⟨?_, ?_, ?_, ?_, ?_, ?_, ?_, ?_, trivial⟩
    · show IE.eval L (.conv .i64 (l 20)) = IE.eval L (l 15)
      rw [eval_conv, e20, e15]
    · show IE.eval L (.bin .and .i64 (l 15) (.bin .sub .i64 (l 1) (.lit 1))) = IE.eval L (l 6)
      rw [eval_and, eval_sub, e15, e1, eval_lit, show IntKind.i64.wrap (S - 1) = S - 1 by rw [Go.X.wrap_i64]; omega, hand, hts, e6]
    · show IE.eval L (.conv .i64 (.bin .rem .u64 (l 20) (.conv .u64 (l 1)))) = IE.eval L (l 6)
      rw [eval_conv, eval_rem _ _ _ (by rw [eu]; omega), eu, e20, e6, Int.tmod_eq_emod_of_nonneg hT.1, Go.X.wrap_i64]
      omega
    · show IE.eval L (.conv .i64 (.bin .rem .u64 (.lit 0) (.conv .u64 (l 1)))) = 0
      rw [eval_conv, eval_rem _ _ _ (by rw [eu]; omega), eu, eval_lit, Int.zero_tmod, Go.X.wrap_i64]
      omega
    · show IE.eval L (.bin .sub .i64 endE (.bin .add .i64 (l 0) (l 6))) = IE.eval L (l 12)
      show IE.eval L (.bin .sub .i64 (.bin .add .i64 (l 0) (l 1)) (.bin .add .i64 (l 0) (l 6))) = IE.eval L (l 12)
      rw [eval_sub, eval_add, eval_add, e0, e1, e6, e12]
      simp only [Go.X.wrap_i64]
      omega
    · show IE.eval L (.bin .sub .i64 (l 1) (l 6)) = IE.eval L (l 12)
      rw [eval_sub, e1, e6, e12]
      simp only [Go.X.wrap_i64]
      omega
    · show IE.eval L (.bin .add .i64 (l 0) (.lit 0)) = IE.eval L (l 0)
      rw [eval_add, e0, eval_lit]
      simp only [Go.X.wrap_i64]
      omega
    · show IE.eval L (needE z) ≤ IE.eval L (.bin .sub .i64 (.bin .add .i64 (l 0) (l 1)) (l 0))
      rw [eval_sub, eval_add, e0, e1, eN]
      simp only [Go.X.wrap_i64]
      omega

theorem eval_remE (H : Leaves false L A S Ty n T) (hn : n ≤ 1100) {k : Nat} (hk : 8 * k < n) : IE.eval L (remE k) = ((n - 8 * k : Nat) : Int) := by
  have e3 : IE.eval L (l 3) = (n : Int) := H.h3
  unfold remE
  cases hk0 : Nat.beq k 0 with
  | true =>
    have : k = 0 := Nat.eq_of_beq_eq_true hk0
    subst this
    exact e3
  | false =>
    show IE.eval L (.bin .sub .i64 (l 3) (.lit (.ofNat (8 * k)))) = _
    rw [eval_sub, e3, eval_lit, Go.X.wrap_i64]
    show ((n : Int) - ((8 * k : Nat) : Int) + 9223372036854775808) % 18446744073709551616 - 9223372036854775808 = _
    omega

theorem pay_ok (H : Leaves false L A S Ty n T) (hn : n ≤ 1100) {k : Nat} (hk : k < (ch n).length) : FactsOk L (payF k) := by
  have hk2 := hk
  rw [ch_len] at hk2
  have hc : ∀ j, j < (ch n).length → IE.eval L (chE j) = if 8 * j + 8 ≤ n then 8 else ((n - 8 * j : Nat) : Int) := fun j hj => (H.hch j hj).trans (ch_at hj)
  have e3 : IE.eval L (l 3) = (n : Int) := H.h3
  have e4 : IE.eval L (l 4) = (((n + 7) / 8 : Nat) : Int) := by rw [← ch_len]; exact H.h4
  have er := eval_remE H hn (k := k) (by omega)
  have hck := hc k hk
  refine factsOk_append.2 ⟨factsOk_of rfl ⟨?_, ?_, ?_, ?_, ?_, ?_, trivial⟩, ?_⟩
  · show ((8 * k : Nat) : Int) < IE.eval L (l 3); omega
  · show ((k : Nat) : Int) < IE.eval L (l 4); omega
  · show IE.eval L (l 4) ≤ 140; omega
  · show (1 : Int) ≤ IE.eval L (chE k); rw [hck]; split <;> omega
  · show IE.eval L (chE k) ≤ 8; rw [hck]; split <;> omega
  · show IE.eval L (chE k) ≤ IE.eval L (remE k); rw [hck, er]; split <;> omega
  · intro f hf
    obtain ⟨j, hj, rfl⟩ := List.mem_map.1 hf
    have hj := upTo_mem hj
    refine ⟨eqF, rfl, ?_⟩
    show eqF (IE.eval L (chE j)) 8 = true
    rw [eqF_eq, hc j (by omega), if_pos (by omega)]
    rfl

theorem done_ok (H : Leaves false L A S Ty n T) (hn : n ≤ 1100) {k : Nat} (hk : k + 1 = (ch n).length) : FactsOk L (doneF k) := by
  have hk2 := hk
  rw [ch_len] at hk2
  have e3 : IE.eval L (l 3) = (n : Int) := H.h3
  have e4 : IE.eval L (l 4) = (((n + 7) / 8 : Nat) : Int) := by rw [← ch_len]; exact H.h4
  have er := eval_remE H hn (k := k) (by omega)
  have hck : IE.eval L (chE k) = if 8 * k + 8 ≤ n then 8 else ((n - 8 * k : Nat) : Int) := (H.hch k (show k < (ch n).length by omega)).trans (ch_at (m := n) (show k < (ch n).length by omega))
  refine factsOk_append.2 ⟨factsOk_of rfl ⟨?_, ?_, ?_, trivial⟩, pay_ok H hn (by omega)⟩
  · show IE.eval L (l 3) ≤ ((8 * k + 8 : Nat) : Int); omega
  · show IE.eval L (l 4) = ((k + 1 : Nat) : Int); omega
  · show IE.eval L (chE k) = IE.eval L (remE k)
    rw [hck, er]
    split <;> omega
end

end Go.Proofs.YtkmiijmoejcjgaaGreat.castSteps
