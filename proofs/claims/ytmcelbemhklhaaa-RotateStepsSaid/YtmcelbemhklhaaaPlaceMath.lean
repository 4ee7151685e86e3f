/- Plain arithmetic for layer 4: terms, counts and positions. -/
import Derived.Test.YtmcelbemhklhaaaMath
namespace Go.Proofs.Ytmcelbemhklhaaa
open Go.RowKit
set_option linter.unusedVariables false

/-- A term's size. -/
def isT (s : Int) : Bool := decide (s = 256 ∨ s = 512 ∨ s = 1024 ∨ s = 2048 ∨ s = 4096 ∨ s = 8192)
theorem isT_cases {s : Int} (h : isT s = true) : s = 256 ∨ s = 512 ∨ s = 1024 ∨ s = 2048 ∨ s = 4096 ∨ s = 8192 := by
  unfold isT at h; simpa using h
theorem isT_range {s : Int} (h : isT s = true) : 256 ≤ s ∧ s ≤ 8192 := by
  have := isT_cases h; omega
theorem isT_isP {s : Int} (h : isT s = true) : isP s = true := by
  rcases isT_cases h with rfl | rfl | rfl | rfl | rfl | rfl <;> decide +kernel
theorem isT_of {s : Int} (h : isP s = true) (h1 : 256 ≤ s) (h2 : s ≤ 8192) : isT s = true := by
  obtain ⟨k, hk, rfl⟩ := (isP_iff s (by omega)).1 h
  have g1 : 8 ≤ k := by
    by_cases e : 8 ≤ k
    · exact e
    · have := pow_le_i k 7 (by omega); omega
  have g2 : k ≤ 13 := by
    by_cases e : k ≤ 13
    · exact e
    · have := pow_le_i 14 k (by omega); omega
  have : k = 8 ∨ k = 9 ∨ k = 10 ∨ k = 11 ∨ k = 12 ∨ k = 13 := by omega
  rcases this with rfl | rfl | rfl | rfl | rfl | rfl <;> decide
theorem isT_no {s : Int} (h : isT s = false) : isP s = false ∨ (isP s = true ∧ s < 256) ∨ (isP s = true ∧ 256 ≤ s ∧ 8192 < s) := by
  cases hp : isP s with
  | false => exact .inl rfl
  | true =>
    by_cases h1 : 256 ≤ s
    · by_cases h2 : s ≤ 8192
      · rw [isT_of hp h1 h2] at h; simp at h
      · exact .inr (.inr ⟨rfl, h1, by omega⟩)
    · exact .inr (.inl ⟨rfl, by omega⟩)

/-- How many terms came ahead of one. -/
def cntI (t i : Int) : Int := (t - i) % 4294967296
theorem cntI_range (t i : Int) : 0 ≤ cntI t i ∧ cntI t i < 4294967296 := by unfold cntI; omega
/-- Behind the greatest position. -/
def mxI (s : Int) : Int := if isT s then 2147483648 * s else 0
def psB (t i o s : Int) : Bool := isT s && decide (0 ≤ o ∧ o ≤ s ∧ cntI t i < 2147483648)
def psI (t i o s : Int) : Int := if psB t i o s then cntI t i * s + o else 0
def psE (t i o s : Int) : Int := if psB t i o s then 0 else 1
/-- Does a position stand in a log of such terms? -/
def inB (p s : Int) : Bool := isT s && decide (0 ≤ p ∧ p < mxI s)
def tmI (p i s : Int) : Int := if inB p s then wrap32 (i + p / s) else 0
def ofI (p s : Int) : Int := if inB p s then p % s else 0
def inE (p s : Int) : Int := if inB p s then 0 else 1

theorem psB_yes {t i o s : Int} (h : psB t i o s = true) : isT s = true ∧ 0 ≤ o ∧ o ≤ s ∧ cntI t i < 2147483648 := by
  unfold psB at h; simp at h; exact ⟨h.1, h.2.1, h.2.2.1, h.2.2.2⟩
theorem psB_no {t i o s : Int} (h : psB t i o s = false) : isT s = false ∨ (isT s = true ∧ o < 0) ∨ (isT s = true ∧ 0 ≤ o ∧ s < o) ∨ (isT s = true ∧ 0 ≤ o ∧ o ≤ s ∧ 2147483648 ≤ cntI t i) := by
  unfold psB at h
  cases hp : isT s with
  | false => exact .inl rfl
  | true =>
    rw [hp] at h; simp at h
    by_cases h1 : 0 ≤ o
    · by_cases h2 : o ≤ s
      · exact .inr (.inr (.inr ⟨rfl, h1, h2, h h1 h2⟩))
      · exact .inr (.inr (.inl ⟨rfl, h1, by omega⟩))
    · exact .inr (.inl ⟨rfl, by omega⟩)
theorem psI_yes {t i o s : Int} (h : psB t i o s = true) : psI t i o s = cntI t i * s + o ∧ psE t i o s = 0 := by unfold psI psE; simp [h]
theorem psI_no {t i o s : Int} (h : psB t i o s = false) : psI t i o s = 0 ∧ psE t i o s = 1 := by unfold psI psE; simp [h]
theorem inB_yes {p s : Int} (h : inB p s = true) : isT s = true ∧ 0 ≤ p ∧ p < mxI s ∧ p < 2147483648 * s := by
  unfold inB at h; simp at h
  have e : mxI s = 2147483648 * s := by unfold mxI; rw [if_pos h.1]
  exact ⟨h.1, h.2.1, h.2.2, by omega⟩
theorem inB_no {p s : Int} (h : inB p s = false) : isT s = false ∨ (isT s = true ∧ p < 0) ∨ (isT s = true ∧ 0 ≤ p ∧ mxI s ≤ p) := by
  unfold inB at h
  cases hp : isT s with
  | false => exact .inl rfl
  | true =>
    rw [hp] at h; simp at h
    by_cases h1 : 0 ≤ p
    · exact .inr (.inr ⟨rfl, h1, h h1⟩)
    · exact .inr (.inl ⟨rfl, by omega⟩)
theorem in_yes {p s i : Int} (h : inB p s = true) : tmI p i s = wrap32 (i + p / s) ∧ ofI p s = p % s ∧ inE p s = 0 := by unfold tmI ofI inE; simp [h]
theorem in_no {p s i : Int} (h : inB p s = false) : tmI p i s = 0 ∧ ofI p s = 0 ∧ inE p s = 1 := by unfold tmI ofI inE; simp [h]
theorem mx_yes {s : Int} (h : isT s = true) : mxI s = 2147483648 * s := by unfold mxI; rw [if_pos h]
theorem mx_no {s : Int} (h : isT s = false) : mxI s = 0 := by unfold mxI; rw [if_neg (by simp [h])]
theorem mx_range (s : Int) : 0 ≤ mxI s ∧ mxI s ≤ 17592186044416 := by
  cases h : isT s with
  | false => rw [mx_no h]; omega
  | true => rw [mx_yes h]; have := isT_range h; omega
/-- A position's term comes less than 2^31 behind the first one. -/
theorem div_lt {p s : Int} (h : inB p s = true) : 0 ≤ p / s ∧ p / s < 2147483648 := by
  obtain ⟨ht, h0, _, h1⟩ := inB_yes h
  have := isT_range ht
  exact ⟨Int.ediv_nonneg h0 (by omega), Int.ediv_lt_of_lt_mul (by omega) h1⟩
theorem mul_range {c s : Int} (h : isT s = true) (h0 : 0 ≤ c) (h1 : c < 2147483648) : 0 ≤ c * s ∧ c * s ≤ 17592186044416 := by
  have := isT_range h
  have g1 : 0 ≤ c * s := Int.mul_nonneg h0 (by omega)
  have g2 : c * s ≤ 2147483648 * s := Int.mul_le_mul_of_nonneg_right (by omega) (by omega)
  omega
/-- A raw tail. -/
def pkI (t o : Int) : Int := t % 4294967296 * 4294967296 + o

end Go.Proofs.Ytmcelbemhklhaaa
