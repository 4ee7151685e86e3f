/- Contracts of package head's functions on records, sizes and flags. -/
import Derived.Test.YtkmiijmoejcjgaaGreatAlign
namespace Go.Proofs.YtkmiijmoejcjgaaGreat
open Go.RowKit
set_option linter.unusedVariables false

/-- How many bytes n take behind a header of h, up to a multiple of a. -/
def szB (n : Int) : Bool := decide (0 ≤ n ∧ n ≤ 131072)
def szI (n h a : Int) : Int := if szB n then alI (n + h) a else 0
def szE (n : Int) : Int := if szB n then 0 else 1
set_option maxRecDepth 100000 in
theorem szB_yes {n : Int} (h : szB n = true) : 0 ≤ n ∧ n ≤ 131072 := by unfold szB at h; simpa using h
set_option maxRecDepth 100000 in
theorem szB_no {n : Int} (h : szB n = false) : n < 0 ∨ (0 ≤ n ∧ 131072 < n) := by unfold szB at h; simp at h; omega
set_option maxRecDepth 100000 in
theorem sz_yes {n h a : Int} (hb : szB n = true) : szI n h a = alI (n + h) a ∧ szE n = 0 := by unfold szI szE; simp [hb]
set_option maxRecDepth 100000 in
theorem sz_no {n h a : Int} (hb : szB n = false) : szI n h a = 0 ∧ szE n = 1 := by unfold szI szE; simp [hb]
set_option maxRecDepth 100000 in
theorem sz_al {n h a : Int} (hb : szB n = true) (h0 : 0 ≤ h) (h1 : h ≤ 32) (ha : isP a = true) : alE (n + h) a = 0 := by
  have := szB_yes hb
  refine alE_yes ?_
  unfold alB; rw [ha]; simp; omega

set_option maxRecDepth 100000 in
theorem size_any (n h a : Int) (w : World) (h0 : 0 ≤ h) (h1 : h ≤ 32) (ha : isP a = true) (ha1 : a ≤ 9223372036854775807) :
    Calls Tryz.prog 33 #[.int .i64 n, .int .i64 h, .int .i64 a] w fun e w' => e = .returned (.tuple #[.int .i64 (szI n h a), .int .i64 (szE n)]) ∧ w = w' := by
  have hapos := isP_pos ha
  cases hb : szB n with
  | true =>
    obtain ⟨g0, g1⟩ := szB_yes hb
    obtain ⟨e1, e2⟩ := sz_yes (h := h) (a := a) hb
    have e3 := sz_al hb h0 h1 ha
    have halb : alB (n + h) a = true := by unfold alB; rw [ha]; simp; omega
    obtain ⟨_, _, f1, f2, _⟩ := al_facts (n + h) a ha1 halb
    have H1 := Lib.hid e1
    have H2 := Lib.hid (e2.trans e3.symm)
    clear hb e1 e2 e3 ha halb
    go_enter Tryz.func33, Tryz.ntmps33
    go_wp2_with (go_at_call 58; refine (align_any _ _ _ (by omega) (by omega) (by omega) (by omega)).mono ?_; rintro e w' ⟨rfl, rfl⟩)
    go_ret2
    exact ⟨by rw [H1.out, H2.out]; rfl, rfl⟩
  | false =>
    have hn := szB_no hb
    obtain ⟨e1, e2⟩ := sz_no (h := h) (a := a) hb
    have H1 := Lib.hid e1
    have H2 := Lib.hid e2
    clear hb e1 e2 ha
    rcases hn with hn | ⟨hn, hn2⟩
    all_goals
      go_enter Tryz.func33, Tryz.ntmps33
      go_wp2
      go_ret2
      exact ⟨by rw [H1.out, H2.out]; rfl, rfl⟩

set_option maxRecDepth 100000 in
theorem recordSize_any (n : Int) (w : World) :
    Calls Tryz.prog 15 #[.int .i64 n] w fun e w' => e = .returned (.tuple #[.int .i64 (szI n 8 8), .int .i64 (szE n)]) ∧ w = w' := by
  go_enter Tryz.func15, Tryz.ntmps15
  go_wp2_with (go_at_call 33; refine (size_any _ _ _ _ (by decide) (by decide) (by decide +kernel) (by decide)).mono ?_; rintro e w' ⟨rfl, rfl⟩)
  go_ret2
  exact ⟨rfl, rfl⟩

def flI (b e : Bool) : Int := (if b then 128 else 0) + (if e then 64 else 0)
/-- A record's header, and what it tells. -/
def recI (l t : Int) : Int := l % 4294967296 + t % 4294967296 * 4294967296
def spL (v : Int) : Int := wrap32 v
def spT (v : Int) : Int := wrap32 (v / 4294967296)
set_option maxRecDepth 100000 in
theorem rec_range (l t : Int) : 0 ≤ recI l t ∧ recI l t ≤ 18446744073709551615 := by unfold recI; omega
set_option maxRecDepth 100000 in
theorem rec_sp (l t : Int) (h1 : -2147483648 ≤ l) (h2 : l ≤ 2147483647) (h3 : -2147483648 ≤ t) (h4 : t ≤ 2147483647) : spL (recI l t) = l ∧ spT (recI l t) = t := by
  unfold spL spT recI wrap32; omega
set_option maxRecDepth 100000 in
theorem sp_rec (v : Int) (h1 : 0 ≤ v) (h2 : v ≤ 18446744073709551615) : recI (spL v) (spT v) = v := by unfold recI spL spT wrap32; omega
set_option maxRecDepth 100000 in
theorem or_low (x y : Int) (hx0 : 0 ≤ x) (hx : x < 4294967296) (hy0 : 0 ≤ y) (hy : y < 4294967296) : bits .or .u64 x (y * 4294967296) = x + y * 4294967296 := by
  obtain ⟨a, rfl⟩ := Int.eq_ofNat_of_zero_le hx0
  obtain ⟨b, rfl⟩ := Int.eq_ofNat_of_zero_le hy0
  have ha : a < 2 ^ 32 := by omega
  have hm : b * 2 ^ 32 < 18446744073709551616 := by omega
  have e : ((b : Int) * 4294967296) = ((b * 2 ^ 32 : Nat) : Int) := by simp
  rw [e, u64_or_nat a (b * 2 ^ 32) (by omega) hm, Nat.or_comm, Nat.mul_comm, ← Nat.two_pow_add_eq_or_of_lt ha b]
  simp; omega

set_option maxRecDepth 100000 in
theorem record_any (l t : Int) (w : World) :
    Calls Tryz.prog 40 #[.int .i32 l, .int .i32 t] w fun e w' => e = .returned (.int .u64 (recI l t)) ∧ w = w' := by
  have e1 : IntKind.u32.wrap l = l % 4294967296 := IntKind.wrap_u32 l
  have e2 : IntKind.u32.wrap t = t % 4294967296 := IntKind.wrap_u32 t
  have hx : 0 ≤ l % 4294967296 ∧ l % 4294967296 < 4294967296 := by omega
  have hy : 0 ≤ t % 4294967296 ∧ t % 4294967296 < 4294967296 := by omega
  have e3 := or_low (l % 4294967296) (t % 4294967296) hx.1 hx.2 hy.1 hy.2
  obtain ⟨hx0, hx1⟩ := hx
  obtain ⟨hy0, hy1⟩ := hy
  unfold recI
  generalize l % 4294967296 = x at *
  generalize t % 4294967296 = y at *
  have H3 := Lib.hid e3
  clear e3
  go_enter Tryz.func40, Tryz.ntmps40
  go_wp2
  go_ret
  exact ⟨by rw [← H3.out]; rfl, rfl⟩

end Go.Proofs.YtkmiijmoejcjgaaGreat
