/- How a message is cut: what is known of a message that is cut k times. -/
import Derived.Test.YtginhhjnbimmeaaKit
import Derived.Test.YtginhhjnbimmeaaRk14
import Derived.Test.YtginhhjnbimmeaaTerm
namespace Go.Proofs.Ytginhhjnbimmeaa.cuts
open Go.X Go.RowKit Go.Proofs.Ytginhhjnbimmeaa.rk
set_option linter.unusedVariables false

/-- What is left of a message after so many cuts. -/
def NN : Nat → IE
  | 0 => .leaf 7
  | j + 1 => .bin .sub .i64 (NN j) (.leaf 2)
/-- A frame's bytes with its header; as the program fills them up; as they are filled up. -/
def yy (x : IE) : IE := .bin .add .i64 x (.lit 32)
def vv (x : IE) : IE := .bin .andNot .i64 (.bin .sub .i64 (.bin .add .i64 (yy x) (.lit 32)) (.lit 1)) (.lit 31)
def ww (x : IE) : Bool → IE
  | true => yy x
  | false => .bin .mul .i64 (.bin .add .i64 (.bin .quo .i64 (yy x) (.lit 32)) (.lit 1)) (.lit 32)
/-- What whole cuts need; their sum. -/
def CC : Nat → IE
  | 0 => .lit 0
  | j + 1 => .bin .add .i64 (CC j) (yy (.leaf 2))
def DD : Nat → IE
  | 0 => .lit 0
  | j + 1 => .bin .add .i64 (DD j) (.leaf 2)

/-- A log that may be, a message that isn't too long. -/
def goodF : List Fact :=
  [⟨.lss, .leaf 3, .lit 1, false⟩, ⟨.lss, .lit 8, .leaf 3, false⟩, ⟨.lss, .leaf 2, .lit 32, false⟩, ⟨.lss, .bin .quo .i64 (.leaf 1) (.lit 8), .leaf 2, false⟩, ⟨.eql, .bin .rem .i64 (.leaf 2) (.lit 32), .lit 0, true⟩,
    ⟨.lss, .leaf 0, .lit 0, false⟩, ⟨.lss, .bin .sub .i64 (.bin .sub .i64 (.lit 131072) (.bin .mul .i64 (.lit 3) (.leaf 1))) (.lit 128), .leaf 0, false⟩, ⟨.eql, .bin .rem .i64 (.leaf 0) (.lit 8), .lit 0, true⟩,
    ⟨.lss, .leaf 7, .lit 0, false⟩, ⟨.lss, .bin .quo .i64 (.leaf 1) (.lit 8), .leaf 7, false⟩]
def sizeF (x : IE) (b : Bool) : List Fact :=
  [⟨.lss, x, .lit 0, false⟩, ⟨.lss, .lit 131072, x, false⟩, ⟨.lss, yy x, .lit 0, false⟩, ⟨.lss, .lit 4611686018427387904, yy x, false⟩, ⟨.eql, vv x, ww x b, true⟩, ⟨.eql, .bin .rem .i64 (yy x) (.lit 32), .lit 0, b⟩,
    ⟨.lss, .lit 4611686018427387904, ww x b, false⟩, ⟨.lss, .lit 144115188075855872, .bin .add .i64 (.bin .quo .i64 (yy x) (.lit 32)) (.lit 1), false⟩]
def loopF (k : Nat) : List Fact := ⟨.lss, .leaf 2, NN k, false⟩ :: (List.range k).map fun j => ⟨.lss, .leaf 2, NN j, true⟩
def sumF (k : Nat) (b : Bool) : List Fact :=
  [⟨.eql, .bin .add .i64 (DD k) (NN k), .leaf 7, true⟩, ⟨.eql, .bin .rem .i64 (.bin .add .i64 (CC k) (ww (NN k) b)) (.lit 32), .lit 0, true⟩,
    ⟨.lss, .bin .add .i64 (.bin .quo .i64 (.leaf 1) (.lit 4)) (.lit 32), .bin .add .i64 (CC k) (ww (NN k) b), false⟩]
def facts (k : Nat) (b : Bool) : List Fact := goodF ++ (loopF k ++ (sizeF (.leaf 2) true ++ (sizeF (NN k) b ++ sumF k b)))

variable {L : Nat → Value}

/-- An expression is this number, far from the ends of its kind. -/
structure Ep (L : Nat → Value) (x : IE) (m : Nat) : Prop where
  eq : x.eval L = (m : Int)
  lt : m < 4611686018427387904

theorem Ep.lit (m : Nat) (h : m < 4611686018427387904) : Ep L (.lit (m : Int)) m := ⟨rfl, h⟩
theorem Ep.add {a b : IE} {m n : Nat} (ha : Ep L a m) (hb : Ep L b n) (h : m + n < 4611686018427387904) : Ep L (.bin .add .i64 a b) (m + n) := by
  refine ⟨?_, h⟩
  rw [eval_add, ha.eq, hb.eq, wrap_i64]
  omega
theorem Ep.sub {a b : IE} {m n : Nat} (ha : Ep L a m) (hb : Ep L b n) (h : n ≤ m) : Ep L (.bin .sub .i64 a b) (m - n) := by
  have h1 := ha.lt
  refine ⟨?_, by omega⟩
  rw [eval_sub, ha.eq, hb.eq, wrap_i64]
  omega
theorem Ep.mul32 {a : IE} {m : Nat} (ha : Ep L a m) (h : m * 32 < 4611686018427387904) : Ep L (.bin .mul .i64 a (.lit 32)) (m * 32) := by
  refine ⟨?_, h⟩
  rw [eval_mul, ha.eq, eval_lit, wrap_i64]
  omega
theorem Ep.quo {a : IE} {m : Nat} (ha : Ep L a m) (c : Nat) (hc : 0 < c) : Ep L (.bin .quo .i64 a (.lit (c : Int))) (m / c) := by
  have hlt : m / c < 4611686018427387904 := Nat.lt_of_le_of_lt (Nat.div_le_self _ _) ha.lt
  refine ⟨?_, hlt⟩
  show ((chk (bnot (eqF (c : Int) 0)) (some (quoF 3 (a.eval L) (c : Int)))).getD 0 : Int) = _
  have h : bnot (eqF (c : Int) 0) = true := by rw [bnot_true, eqF_eq, beq_eq_false_iff_ne]; omega
  rw [h, ha.eq]
  show wrapN 3 (m / c) = _
  have h2 : Nat.blt (m / c) (lim 3) = true := by
    rw [blt_true]
    exact Nat.lt_trans hlt (by decide)
  unfold wrapN
  rw [h2]
  rfl
theorem Ep.rem {a : IE} {m : Nat} (ha : Ep L a m) (c : Nat) (hc : 0 < c) : Ep L (.bin .rem .i64 a (.lit (c : Int))) (m % c) := by
  refine ⟨?_, Nat.lt_of_le_of_lt (Nat.mod_le _ _) ha.lt⟩
  show ((chk (bnot (eqF (c : Int) 0)) (some (remF (a.eval L) (c : Int)))).getD 0 : Int) = _
  have h : bnot (eqF (c : Int) 0) = true := by rw [bnot_true, eqF_eq, beq_eq_false_iff_ne]; omega
  rw [h, ha.eq]
  rfl
theorem Ep.andNot31 {a : IE} {m : Nat} (ha : Ep L a m) : Ep L (.bin .andNot .i64 a (.lit 31)) (m - m % 32) := by
  have hlt := ha.lt
  refine ⟨?_, by omega⟩
  show ((some (bitF 3 (fun m n => Nat.sub m (Nat.land m n)) (andNotG (kindOf 3)) (a.eval L) ((31 : Nat) : Int))).getD 0 : Int) = _
  rw [ha.eq, Option.getD_some]
  show sel (band (Nat.blt m (lim 3)) (Nat.blt 31 (lim 3))) (Int.ofNat (m - (m &&& 31))) (andNotG (kindOf 3) (.ofNat m) (.ofNat 31)) = _
  have h1 : Nat.blt m (lim 3) = true := by rw [blt_true]; exact Nat.lt_trans hlt (by decide)
  have h2 : m &&& 31 = m % 32 := Nat.and_two_pow_sub_one_eq_mod m 5
  rw [h1, h2]
  rfl

def Holds (L : Nat → Value) (f : Fact) : Prop := ∃ g, cmpB f.op = some g ∧ g (f.a.eval L) (f.b.eval L) = f.r
theorem lss_t {a b : IE} {m n : Nat} (ha : Ep L a m) (hb : Ep L b n) (h : m < n) : Holds L ⟨.lss, a, b, true⟩ := ⟨ltF, rfl, by rw [ltF_eq, ha.eq, hb.eq]; simp; omega⟩
theorem lss_f {a b : IE} {m n : Nat} (ha : Ep L a m) (hb : Ep L b n) (h : n ≤ m) : Holds L ⟨.lss, a, b, false⟩ := ⟨ltF, rfl, by rw [ltF_eq, ha.eq, hb.eq]; simp; omega⟩
theorem eql_t {a b : IE} {m n : Nat} (ha : Ep L a m) (hb : Ep L b n) (h : m = n) : Holds L ⟨.eql, a, b, true⟩ := ⟨eqF, rfl, by rw [eqF_eq, ha.eq, hb.eq]; simp; omega⟩
theorem eql_f {a b : IE} {m n : Nat} (ha : Ep L a m) (hb : Ep L b n) (h : m ≠ n) : Holds L ⟨.eql, a, b, false⟩ := ⟨eqF, rfl, by rw [eqF_eq, ha.eq, hb.eq]; simp; omega⟩

/-- A log that may be, and a message: as numbers. -/
structure Given (L : Nat → Value) (B T M S n : Nat) : Prop where
  e0 : Ep L (.leaf 0) B
  e1 : Ep L (.leaf 1) T
  e2 : Ep L (.leaf 2) M
  e3 : Ep L (.leaf 3) S
  e7 : Ep L (.leaf 7) n
  t : T = 256 ∨ T = 512 ∨ T = 1024 ∨ T = 2048 ∨ T = 4096 ∨ T = 8192
  m1 : 32 ≤ M
  m2 : M ≤ T / 8
  m3 : M % 32 = 0
  s1 : 1 ≤ S
  s2 : S ≤ 8
  b1 : B + 3 * T + 128 ≤ 131072
  b2 : B % 8 = 0
  n1 : n ≤ T / 8

theorem Given.good {B T M S n : Nat} (g : Given L B T M S n) : ∀ f ∈ goodF, Holds L f := by
  obtain ⟨e0, e1, e2, e3, e7, t, m1, m2, m3, s1, s2, b1, b2, n1⟩ := g
  have l0 : Ep L (.lit 0) 0 := Ep.lit 0 (by decide)
  have q8 := e1.quo 8 (by decide)
  have h3 : Ep L (.bin .mul .i64 (.lit 3) (.leaf 1)) (3 * T) := ⟨by rw [eval_mul, e1.eq, eval_lit, wrap_i64]; omega, by omega⟩
  have hl : Ep L (.bin .sub .i64 (.bin .sub .i64 (.lit 131072) (.bin .mul .i64 (.lit 3) (.leaf 1))) (.lit 128)) (131072 - 3 * T - 128) := ((Ep.lit 131072 (by decide)).sub h3 (by omega)).sub (Ep.lit 128 (by decide)) (by omega)
  intro f hf
  simp only [goodF, List.mem_cons, List.not_mem_nil, or_false] at hf
  rcases hf with rfl | rfl | rfl | rfl | rfl | rfl | rfl | rfl | rfl | rfl
  · exact lss_f e3 (Ep.lit 1 (by decide)) s1
  · exact lss_f (Ep.lit 8 (by decide)) e3 s2
  · exact lss_f e2 (Ep.lit 32 (by decide)) m1
  · exact lss_f q8 e2 m2
  · exact eql_t (e2.rem 32 (by decide)) l0 m3
  · exact lss_f e0 l0 (Nat.zero_le _)
  · exact lss_f hl e0 (by omega)
  · exact eql_t (e0.rem 8 (by decide)) l0 b2
  · exact lss_f e7 l0 (Nat.zero_le _)
  · exact lss_f q8 e7 n1

theorem yy_ep {x : IE} {t : Nat} (h : Ep L x t) (ht : t ≤ 1024) : Ep L (yy x) (t + 32) := h.add (Ep.lit 32 (by decide)) (by omega)
theorem ww_ep {x : IE} {t : Nat} (h : Ep L x t) (ht : t ≤ 1024) (b : Bool) (hb : b = decide (t % 32 = 0)) : Ep L (ww x b) (t + 63 - (t + 63) % 32) := by
  cases b with
  | true =>
    have : t % 32 = 0 := by simpa using hb.symm
    have hy := yy_ep h ht
    rwa [show t + 63 - (t + 63) % 32 = t + 32 by omega]
  | false =>
    have : ¬ t % 32 = 0 := by simpa using hb.symm
    have hq := (((yy_ep h ht).quo 32 (by decide)).add (Ep.lit 1 (by decide)) (by omega)).mul32 (by omega)
    rwa [show t + 63 - (t + 63) % 32 = ((t + 32) / 32 + 1) * 32 by omega]

theorem size_ok {x : IE} {t : Nat} (h : Ep L x t) (ht : t ≤ 1024) (b : Bool) (hb : b = decide (t % 32 = 0)) : ∀ f ∈ sizeF x b, Holds L f := by
  have hy := yy_ep h ht
  have hw := ww_ep h ht b hb
  have l0 : Ep L (.lit 0) 0 := Ep.lit 0 (by decide)
  have hv : Ep L (vv x) (t + 63 - (t + 63) % 32) := by
    have := ((hy.add (Ep.lit 32 (by decide)) (by omega)).sub (Ep.lit 1 (by decide)) (by omega)).andNot31
    rwa [show t + 32 + 32 - 1 = t + 63 by omega] at this
  have lbig : ∀ {y : IE} {m : Nat}, Ep L y m → Holds L ⟨.lss, .lit 4611686018427387904, y, false⟩ := fun hy => ⟨ltF, rfl, by
    have := hy.lt
    rw [ltF_eq, hy.eq, eval_lit]; simp; omega⟩
  intro f hf
  simp only [sizeF, List.mem_cons, List.not_mem_nil, or_false] at hf
  rcases hf with rfl | rfl | rfl | rfl | rfl | rfl | rfl | rfl
  · exact lss_f h l0 (Nat.zero_le _)
  · exact lss_f (Ep.lit 131072 (by decide)) h (by omega)
  · exact lss_f hy l0 (Nat.zero_le _)
  · exact lbig hy
  · exact eql_t hv hw rfl
  · cases b with
    | true =>
      have h0 : t % 32 = 0 := by simpa using hb.symm
      exact eql_t (hy.rem 32 (by decide)) l0 (by omega)
    | false =>
      have h0 : ¬ t % 32 = 0 := by simpa using hb.symm
      exact eql_f (hy.rem 32 (by decide)) l0 (by omega)
  · exact lbig hw
  · exact lss_f (Ep.lit 144115188075855872 (by decide)) ((hy.quo 32 (by decide)).add (Ep.lit 1 (by decide)) (by omega)) (by omega)

theorem Given.all {B T M S n : Nat} (g : Given L B T M S n) : ∃ (k : Nat) (b : Bool), k < 32 ∧ FactsOk L (facts k b) := by
  have hgood := g.good
  obtain ⟨e0, e1, e2, e3, e7, t, m1, m2, m3, s1, s2, b1, b2, n1⟩ := g
  have hMpos : 0 < M := by omega
  have hM : M ≤ 1024 := by omega
  have hn : n ≤ 1024 := by omega
  obtain ⟨k, hk⟩ : ∃ k, k = (n - 1) / M := ⟨_, rfl⟩
  have hP1 : k * M ≤ n - 1 := by rw [hk]; exact Nat.div_mul_le_self _ _
  have hP2 : n - 1 < k * M + M := by
    have := Nat.lt_div_mul_add hMpos (a := n - 1)
    rwa [← hk] at this
  have hP3 : k * 32 ≤ k * M := Nat.mul_le_mul_left k m1
  have hP4 : (k * M) % 32 = 0 := by rw [Nat.mul_mod, m3, Nat.mul_zero, Nat.zero_mod]
  have hkM : ∀ j, j ≤ k → j * M ≤ k * M := fun j hj => Nat.mul_le_mul_right M hj
  have hN : ∀ j, j ≤ k → Ep L (NN j) (n - j * M) := by
    intro j
    induction j with
    | zero => intro _; simpa [NN] using e7
    | succ j ih =>
      intro hj
      have h1 := hkM (j + 1) hj
      have h2 : (j + 1) * M = j * M + M := Nat.succ_mul j M
      have := (ih (by omega)).sub e2 (by omega)
      rwa [show n - j * M - M = n - (j + 1) * M by omega] at this
  have hC : ∀ j, j ≤ k → Ep L (CC j) (j * M + 32 * j) := by
    intro j
    induction j with
    | zero => intro _; simpa [CC] using (Ep.lit (L := L) 0 (by decide))
    | succ j ih =>
      intro hj
      have h1 := hkM (j + 1) hj
      have h2 : (j + 1) * M = j * M + M := Nat.succ_mul j M
      have := (ih (by omega)).add (yy_ep e2 hM) (by omega)
      rwa [show j * M + 32 * j + (M + 32) = (j + 1) * M + 32 * (j + 1) by omega] at this
  have hD : ∀ j, j ≤ k → Ep L (DD j) (j * M) := by
    intro j
    induction j with
    | zero => intro _; simpa [DD] using (Ep.lit (L := L) 0 (by decide))
    | succ j ih =>
      intro hj
      have h1 := hkM (j + 1) hj
      have h2 : (j + 1) * M = j * M + M := Nat.succ_mul j M
      have := (ih (by omega)).add e2 (by omega)
      rwa [show j * M + M = (j + 1) * M by omega] at this
  have hr := hN k (Nat.le_refl _)
  have hr1 : n - k * M ≤ M := by omega
  have hw := ww_ep hr (by omega) (decide ((n - k * M) % 32 = 0)) rfl
  have htot := (hC k (Nat.le_refl _)).add hw (by omega)
  have l0 : Ep L (.lit 0) 0 := Ep.lit 0 (by decide)
  refine ⟨k, decide ((n - k * M) % 32 = 0), by omega, fun f hf => ?_⟩
  simp only [facts, List.mem_append] at hf
  rcases hf with hf | hf | hf | hf | hf
  · exact hgood f hf
  · rcases List.mem_cons.1 hf with rfl | hf
    · exact lss_f e2 hr hr1
    · obtain ⟨j, hj, rfl⟩ := List.mem_map.1 hf
      have hj := List.mem_range.1 hj
      have h1 := hkM (j + 1) hj
      have h2 : (j + 1) * M = j * M + M := Nat.succ_mul j M
      exact lss_t e2 (hN j (by omega)) (by omega)
  · exact size_ok e2 hM true (by simp [m3]) f hf
  · exact size_ok hr (by omega) _ rfl f hf
  · simp only [sumF, List.mem_cons, List.not_mem_nil, or_false] at hf
    rcases hf with rfl | rfl | rfl
    · exact eql_t ((hD k (Nat.le_refl _)).add hr (by omega)) e7 (by omega)
    · exact eql_t (htot.rem 32 (by decide)) l0 (by omega)
    · exact lss_f ((e1.quo 4 (by decide)).add (Ep.lit 32 (by decide)) (by omega)) htot (by omega)

/-- A term's kind is asked, by the program and by the document. -/
def asked (b : Bool) : List Known := [⟨29, [(3, .leaf 1)], b⟩, ⟨30, [(3, .leaf 1)], b⟩]
noncomputable def cfgT (b : Bool) : Cfg := { P := Try.prog, ext := extOf exts, hook := knowsAll 5 (asked b), facts := [] }
def args : List V := [vagg [vx 3 (.leaf 0), vx 3 (.leaf 1), vx 3 (.leaf 2), vx 3 (.leaf 3), vx 2 (.leaf 4), vx 2 (.leaf 5), vx 2 (.leaf 6)], vx 3 (.leaf 7)]

/-- A message that is cut k times. -/
def cutOk (k : Nat) (b : Bool) : Prop := DT.good (cfgT true) 60 3 args .run (facts k b) = true

end Go.Proofs.Ytginhhjnbimmeaa.cuts
