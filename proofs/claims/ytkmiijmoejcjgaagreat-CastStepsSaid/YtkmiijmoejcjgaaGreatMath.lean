/- Plain arithmetic for layer 1: powers of two and what the operator 'and' tells of them. -/
import Derived.WalkKit
namespace Go.Proofs.YtkmiijmoejcjgaaGreat
open Go.RowKit

theorem bit_top (x k : Nat) (h1 : 2 ^ k ≤ x) (h2 : x < 2 ^ (k + 1)) : x.testBit k = true := by
  rw [Nat.testBit_eq_decide_div_mod_eq]
  have h3 : x / 2 ^ k = 1 := by
    apply Nat.div_eq_of_lt_le <;> simp <;> first | omega | (rw [Nat.pow_succ] at h2; omega)
  rw [h3]; rfl
theorem and_pred (n : Nat) (hn : 0 < n) : (n &&& (n - 1) = 0) ↔ ∃ k, n = 2 ^ k := by
  constructor
  · intro h
    refine ⟨n.log2, ?_⟩
    have h1 : 2 ^ n.log2 ≤ n := Nat.log2_self_le (by omega)
    have h2 : n < 2 ^ (n.log2 + 1) := Nat.lt_log2_self
    by_cases e : n = 2 ^ n.log2
    · exact e
    · exfalso
      have b1 := bit_top n n.log2 h1 h2
      have b2 := bit_top (n - 1) n.log2 (by omega) (by omega)
      have : (n &&& (n - 1)).testBit n.log2 = true := by rw [Nat.testBit_and, b1, b2]; rfl
      rw [h] at this; simp at this
  · rintro ⟨k, rfl⟩
    rw [Nat.and_two_pow_sub_one_eq_mod]; simp

/-- n is a power of 2 (of a number of eight bytes with its sign: up to 2^62). -/
def isP (n : Int) : Bool := decide (0 < n) && (bits .and .i64 n (n - 1) == 0)

theorem wraps_i64 (n : Int) (h₀ : 0 ≤ n) (h₁ : n < 2 ^ 63) : IntKind.i64.wrap n = n := by rw [IntKind.wrap_i64]; omega

theorem isP_iff (n : Int) (h : n ≤ 9223372036854775807) : isP n = true ↔ ∃ k : Nat, k ≤ 62 ∧ n = 2 ^ k := by
  unfold isP
  by_cases hn : 0 < n
  · obtain ⟨a, rfl⟩ := Int.eq_ofNat_of_zero_le (Int.le_of_lt hn)
    have ha : a < 2 ^ 63 := by omega
    have e1 : ((a : Int) - 1) = ((a - 1 : Nat) : Int) := by omega
    have e2 := (bits_nat .i64 63 (by decide) wraps_i64 a (a - 1) ha (by omega)).1
    rw [e1, e2]
    simp only [hn, decide_true, Bool.true_and, beq_iff_eq]
    have e3 : (((a &&& (a - 1) : Nat) : Int) = 0) ↔ (a &&& (a - 1)) = 0 := by omega
    rw [e3, and_pred a (by omega)]
    constructor
    · rintro ⟨k, hk⟩
      refine ⟨k, ?_, by rw [hk]; simp⟩
      by_cases h62 : k ≤ 62
      · exact h62
      · have : 2 ^ 63 ≤ 2 ^ k := Nat.pow_le_pow_right (by decide) (by omega)
        omega
    · rintro ⟨k, _, hk⟩
      refine ⟨k, ?_⟩
      have : ((2 : Int) ^ k) = ((2 ^ k : Nat) : Int) := by simp
      omega
  · simp only [hn, decide_false, Bool.false_and, Bool.false_eq_true, false_iff]
    rintro ⟨k, _, hk⟩
    have : (0 : Int) < 2 ^ k := Int.pow_pos (by decide)
    omega

theorem isP_pos {n : Int} (h : isP n = true) : 0 < n := by
  unfold isP at h; simp at h; exact h.1
theorem isP_pow (k : Nat) (h : k ≤ 62) : isP (2 ^ k) = true := by
  have h2 : (2 : Int) ^ k ≤ 2 ^ 62 := by
    have : (2 : Nat) ^ k ≤ 2 ^ 62 := Nat.pow_le_pow_right (by decide) h
    exact_mod_cast this
  exact (isP_iff _ (by omega)).2 ⟨k, h, rfl⟩
theorem pow_succ_i (k : Nat) : (2 : Int) ^ (k + 1) = 2 * 2 ^ k := by rw [Int.pow_succ]; omega
theorem pow_pos_i (k : Nat) : (0 : Int) < 2 ^ k := Int.pow_pos (by decide)
theorem pow_le_i (j k : Nat) (h : j ≤ k) : (2 : Int) ^ j ≤ 2 ^ k := by
  have : (2 : Nat) ^ j ≤ 2 ^ k := Nat.pow_le_pow_right (by decide) h
  exact_mod_cast this
theorem pow_lt_i (j k : Nat) (h : j < k) : (2 : Int) ^ j < 2 ^ k := by
  have := pow_le_i (j + 1) k h
  have := pow_succ_i j
  have := pow_pos_i j
  omega
theorem pow_inj_i (j k : Nat) (h : (2 : Int) ^ j = 2 ^ k) : j = k := by
  by_cases h1 : j < k
  · have := pow_lt_i j k h1; omega
  · by_cases h2 : k < j
    · have := pow_lt_i k j h2; omega
    · omega

/-- Of a number below 2^63: what is left of it by a power, as 'and' tells. -/
theorem and_mask_nat (a k : Nat) (ha : a < 2 ^ 63) (hk : k ≤ 62) : bits .and .i64 (a : Int) (2 ^ k - 1) = (a : Int) % 2 ^ k :=
  bits_mask .i64 63 (by decide) wraps_i64 k (by omega) a (by omega) (by exact_mod_cast ha)

/-- What is left of n divided by 2^k, of a number with its sign. -/
theorem and_mask (n : Int) (k : Nat) (hk : k ≤ 62) : bits .and .i64 n (2 ^ k - 1) = n % 2 ^ k := by
  have hc : ((2 : Int) ^ k - 1) = ((2 ^ k - 1 : Nat) : Int) := by
    rw [Int.natCast_sub (Nat.two_pow_pos k)]; simp
  have hle : 2 ^ k ≤ 2 ^ 62 := Nat.pow_le_pow_right (by decide) hk
  have hpos := Nat.two_pow_pos k
  have hm : (2 ^ k - 1) % 2 ^ 64 = 2 ^ k - 1 := Nat.mod_eq_of_lt (by omega)
  rw [hc]
  show IntKind.i64.wrap ((BitVec.ofInt 64 n &&& BitVec.ofInt 64 ((2 ^ k - 1 : Nat) : Int)).toNat : Int) = _
  rw [BitVec.toNat_and, BitVec.toNat_ofInt, BitVec.ofInt_natCast, BitVec.toNat_ofNat, hm, Nat.and_two_pow_sub_one_eq_mod]
  have hlt := Nat.mod_lt (n % ((2 ^ 64 : Nat) : Int)).toNat hpos
  rw [wraps_i64 _ (by omega) (by omega)]
  have h0 : 0 ≤ n % ((2 ^ 64 : Nat) : Int) := Int.emod_nonneg _ (by decide)
  rw [Int.natCast_emod, Int.toNat_of_nonneg h0]
  have hd : ((2 ^ k : Nat) : Int) ∣ ((2 ^ 64 : Nat) : Int) := Int.natCast_dvd_natCast.2 (Nat.pow_dvd_pow 2 (by omega))
  rw [Int.emod_emod_of_dvd _ hd]
  simp

theorem and_high (a k : Nat) (ha : a < 2 ^ 64) (hk : k ≤ 62) : a &&& (2 ^ 64 - 1 - (2 ^ k - 1)) = 2 ^ k * (a / 2 ^ k) := by
  apply Nat.eq_of_testBit_eq
  intro i
  have hpos := Nat.two_pow_pos k
  have hle : 2 ^ k ≤ 2 ^ 62 := Nat.pow_le_pow_right (by decide) hk
  have e : 2 ^ 64 - 1 - (2 ^ k - 1) = 2 ^ 64 - ((2 ^ k - 1) + 1) := by omega
  rw [Nat.testBit_and, e, Nat.testBit_two_pow_sub_succ (by omega), Nat.testBit_two_pow_mul, Nat.testBit_div_two_pow, Nat.testBit_two_pow_sub_one]
  by_cases hi : k ≤ i
  · have e2 : i - k + k = i := by omega
    have e3 : ¬ i < k := by omega
    simp only [e2, hi, e3, decide_true, decide_false, Bool.not_false, Bool.and_true, Bool.true_and]
    by_cases h64 : i < 64
    · simp [h64]
    · have : a.testBit i = false := Nat.testBit_lt_two_pow (Nat.lt_of_lt_of_le ha (Nat.pow_le_pow_right (by decide) (by omega)))
      simp [this]
  · simp [hi]; intro _ _; omega

/-- The greatest multiple of 2^k that isn't more than n. -/
theorem andNot_mask (n : Int) (k : Nat) (h0 : 0 ≤ n) (hn : n ≤ 9223372036854775807) (hk : k ≤ 62) : bits .andNot .i64 n (2 ^ k - 1) = 2 ^ k * (n / 2 ^ k) := by
  obtain ⟨a, rfl⟩ := Int.eq_ofNat_of_zero_le h0
  have hc : ((2 : Int) ^ k - 1) = ((2 ^ k - 1 : Nat) : Int) := by
    rw [Int.natCast_sub (Nat.two_pow_pos k)]; simp
  have hle : 2 ^ k ≤ 2 ^ 62 := Nat.pow_le_pow_right (by decide) hk
  have hpos := Nat.two_pow_pos k
  have hm : (2 ^ k - 1) % 2 ^ 64 = 2 ^ k - 1 := Nat.mod_eq_of_lt (by omega)
  have ha : a % 2 ^ 64 = a := Nat.mod_eq_of_lt (by omega)
  rw [hc]
  show IntKind.i64.wrap ((BitVec.ofInt 64 (a : Int) &&& ~~~BitVec.ofInt 64 ((2 ^ k - 1 : Nat) : Int)).toNat : Int) = _
  rw [BitVec.toNat_and, BitVec.toNat_not, BitVec.ofInt_natCast, BitVec.ofInt_natCast, BitVec.toNat_ofNat, BitVec.toNat_ofNat, hm, ha, and_high a k (by omega) hk]
  have hb : 2 ^ k * (a / 2 ^ k) ≤ a := Nat.mul_div_le a (2 ^ k)
  rw [wraps_i64 _ (by omega) (by omega)]
  simp

/-- Which power a number is. -/
def lgI (n : Int) : Int := if isP n then (n.toNat.log2 : Int) else 0
theorem lgI_pow (k : Nat) (hk : k ≤ 62) : lgI (2 ^ k) = k := by
  unfold lgI
  rw [if_pos (isP_pow k hk)]
  have : ((2 : Int) ^ k).toNat = 2 ^ k := toNat_two_pow k
  rw [this, Nat.log2_two_pow]
theorem lgI_no (n : Int) (h : isP n = false) : lgI n = 0 := by unfold lgI; rw [if_neg (by simp [h])]

/-- What is left of n divided by a power; 0, if it is none. -/
def mkI (n to : Int) : Int := if isP to then n % to else 0
/-- May n be aligned to a power? -/
def alB (n to : Int) : Bool := isP to && decide (0 ≤ n) && decide (n ≤ 4611686018427387904)
/-- The least multiple of a power that isn't less than n. -/
def alI (n to : Int) : Int := if alB n to then (n + to - 1) / to * to else 0
def alE (n to : Int) : Int := if alB n to then 0 else 1

theorem alB_parts {n to : Int} (h : alB n to = true) : isP to = true ∧ 0 ≤ n ∧ n ≤ 4611686018427387904 := by
  unfold alB at h; simp at h; exact ⟨h.1.1, h.1.2, h.2⟩

/-- A number that isn't more than a multiple of another one is at most that many times it. -/
theorem al_facts (n to : Int) (hto : to ≤ 9223372036854775807) (h : alB n to = true) :
    (n % to = 0 → alI n to = n) ∧ (n % to ≠ 0 → n / to + 1 ≤ 4611686018427387904 / to ∧ alI n to = (n / to + 1) * to) ∧ 0 ≤ alI n to ∧ alI n to ≤ 4611686018427387904 ∧ to ≤ 4611686018427387904 := by
  obtain ⟨hp, h0, h1⟩ := alB_parts h
  have hpos := isP_pos hp
  obtain ⟨k, hk, hk2⟩ := (isP_iff to hto).1 hp
  have hM : ∃ M : Int, 4611686018427387904 = M * to := ⟨2 ^ (62 - k), by rw [hk2, ← Int.pow_add, show 62 - k + k = 62 by omega]; rfl⟩
  obtain ⟨M, hM⟩ := hM
  have hMd : 4611686018427387904 / to = M := by rw [hM]; exact Int.mul_ediv_cancel _ (by omega)
  have hdm := Int.mul_ediv_add_emod n to
  have hr0 := Int.emod_nonneg n (show to ≠ 0 by omega)
  have hr1 := Int.emod_lt_of_pos n hpos
  generalize hq : n / to = q at *
  generalize hr : n % to = r at *
  have hsum : (n + to - 1) / to = q + (r + to - 1) / to := by
    rw [← hdm, show to * q + r + to - 1 = (r + to - 1) + to * q by omega, Int.add_mul_ediv_left _ _ (show to ≠ 0 by omega)]; omega
  have hal : alI n to = (q + (r + to - 1) / to) * to := by rw [alI, if_pos h, hsum]
  have hto62 : to ≤ 4611686018427387904 := by
    have := pow_le_i k 62 hk; omega
  have hqM : q * to ≤ M * to := by rw [Int.mul_comm q to]; omega
  have hqM' : q ≤ M := Int.le_of_mul_le_mul_right hqM hpos
  have hq0 : 0 ≤ q := by rw [← hq]; exact Int.ediv_nonneg h0 (by omega)
  by_cases hz : r = 0
  · have e : (r + to - 1) / to = 0 := Int.ediv_eq_zero_of_lt (by omega) (by omega)
    have e2 : alI n to = n := by rw [hal, e, Int.add_zero, Int.mul_comm]; omega
    exact ⟨fun _ => e2, fun hh => absurd hz hh, by omega, by omega, hto62⟩
  · have e : (r + to - 1) / to = 1 := by
      rw [show r + to - 1 = (r - 1) + to * 1 by omega, Int.add_mul_ediv_left _ _ (show to ≠ 0 by omega), Int.ediv_eq_zero_of_lt (by omega) (by omega)]; rfl
    have hlt : q * to < M * to := by rw [Int.mul_comm q to]; omega
    have hlt' : q < M := Int.lt_of_mul_lt_mul_right hlt (by omega)
    have e2 : alI n to = (q + 1) * to := by rw [hal, e]
    have e3 : (q + 1) * to ≤ M * to := Int.mul_le_mul_of_nonneg_right (by omega) (by omega)
    have e4 : 0 ≤ (q + 1) * to := Int.mul_nonneg (by omega) (by omega)
    exact ⟨fun hh => absurd hh hz, fun _ => ⟨by omega, e2⟩, by omega, by omega, hto62⟩

theorem al_bits (n to : Int) (hto : to ≤ 9223372036854775807) (h : alB n to = true) : bits .andNot .i64 (n + to - 1) (to - 1) = alI n to := by
  obtain ⟨hp, h0, h1⟩ := alB_parts h
  have hpos := isP_pos hp
  have h62 := (al_facts n to hto h).2.2.2.2
  obtain ⟨k, hk, hk2⟩ := (isP_iff to hto).1 hp
  rw [hk2, andNot_mask _ k (by omega) (by omega) hk, ← hk2, alI, if_pos h, Int.mul_comm]

theorem alI_no {n to : Int} (h : alB n to = false) : alI n to = 0 ∧ alE n to = 1 := by
  unfold alI alE; simp [h]
theorem alE_yes {n to : Int} (h : alB n to = true) : alE n to = 0 := by
  unfold alE; simp [h]

/-- Byte i of a number. -/
def byteI (v : Int) (i : Nat) : Int := v / 2 ^ (8 * i) % 256
/-- The first k bytes of a number, and behind them 0, n in all. -/
def byteRow (v : Int) (k n : Nat) : List Int := (List.range n).map fun i => if i < k then byteI v i else 0
/-- The lowest n bytes of a number: none, if n isn't 0 to 8. -/
def byteL (v n : Int) : List Int := if 0 ≤ n ∧ n ≤ 8 then (List.range n.toNat).map (byteI v) else []

theorem byteRow_length (v : Int) (k n : Nat) : (byteRow v k n).length = n := by simp [byteRow]
theorem byteRow_zero (v : Int) (n : Nat) : byteRow v 0 n = List.replicate n 0 := by
  apply List.ext_getElem <;> simp [byteRow]
theorem byteRow_full (v : Int) (n : Nat) : byteRow v n n = (List.range n).map (byteI v) := by
  apply List.ext_getElem
  · simp [byteRow]
  · intro i h1 h2
    simp [byteRow] at h1 ⊢
    intro h3; omega
theorem byteRow_set (v : Int) (k n : Nat) : (byteRow v k n).set k (byteI v k) = byteRow v (k + 1) n := by
  apply List.ext_getElem
  · simp [byteRow]
  · intro i h1 h2
    simp only [List.getElem_set, byteRow, List.getElem_map, List.getElem_range]
    by_cases e : k = i
    · subst e; simp
    · by_cases h : i < k
      · simp [e, h, show i < k + 1 by omega]
      · simp [e, h, show ¬ i < k + 1 by omega]
theorem byteRow_get (v : Int) (k n : Nat) (h : k < n) : (byteRow v k n)[k]? = some 0 := by
  simp [byteRow, h]
theorem byteI_range (v : Int) (i : Nat) : 0 ≤ byteI v i ∧ byteI v i < 256 := by unfold byteI; omega

end Go.Proofs.YtkmiijmoejcjgaaGreat
