/- CommandReads: what is known of 32 bytes. -/
import Derived.Test.YtginhhjnbimmeaaKit
import Derived.Test.YtginhhjnbimmeaaRk34
namespace Go.Proofs.Ytginhhjnbimmeaa.reads
open Go.X Go.RowKit Go.Proofs.Ytginhhjnbimmeaa.rk
set_option linter.unusedVariables false
set_option linter.unusedSimpArgs false

/-- Bytes put together, as the program does it and as the document does it. -/
def orOf (a n : Nat) : IE := (List.range n).foldl (fun acc i => .bin .or .u64 acc (.shl .u64 (.conv .u64 (.leaf (a + i))) (8 * i))) (.lit 0)
def downTo (x : IE) : List Nat → IE
  | [] => x
  | j :: r => downTo (.bin .add .u64 (.bin .mul .u64 x (.lit 256)) (.conv .u64 (.leaf j))) r
def hornerOf : List Nat → IE
  | [] => .lit 0
  | j :: r => downTo (.bin .add .u64 (.lit 0) (.conv .u64 (.leaf j))) r

def pairs4 (a k : Nat) : List (IE × IE) :=
  (.conv .i32 (orOf a 4), .leaf k) :: (.conv .i32 (.conv .u32 (hornerOf [a + 3, a + 2, a + 1, a])), .leaf k) :: [0, 1, 2, 3].map fun i => (.conv .u8 (.shr (.conv .u64 (.conv .u32 (.leaf k))) (8 * i)), .leaf (a + i))
def pairs8 (a k : Nat) : List (IE × IE) :=
  (.conv .i64 (orOf a 8), .leaf k) :: (.conv .i64 (hornerOf [a + 7, a + 6, a + 5, a + 4, a + 3, a + 2, a + 1, a]), .leaf k) :: [0, 1, 2, 3, 4, 5, 6, 7].map fun i => (.conv .u8 (.shr (.conv .u64 (.leaf k)) (8 * i)), .leaf (a + i))
def pairs : List (IE × IE) := pairs4 0 32 ++ (pairs4 4 33 ++ (pairs4 8 34 ++ (pairs4 12 35 ++ (pairs8 16 36 ++ pairs8 24 37))))
def told (l : List (IE × IE)) : List Fact := l.map fun p => ⟨.eql, p.1, p.2, true⟩

variable {L : Nat → Value}

theorem ev_byte {j b : Nat} (h : L j = .int .u8 (b : Int)) (hb : b < 256) : Ev L (.conv .u64 (.leaf j)) b := by
  refine ⟨?_, by omega⟩
  rw [eval_conv, eval_leaf, h, wrap_u64]
  show (b : Int) % 18446744073709551616 = b
  omega
theorem ev_leaf8 {j b : Nat} (h : L j = .int .u8 (b : Int)) : IE.eval L (.leaf j) = (b : Int) := by rw [eval_leaf, h]; rfl
theorem ev_orstep {x y : IE} {m c i j : Nat} (hx : Ev L x m) (hm : m < 2 ^ i) (hy : Ev L y c) (hc : c < 256) (hj : j = i + 8) (hi : j ≤ 64) : Ev L (.bin .or .u64 x (.shl .u64 y i)) (m + c * 2 ^ i) ∧ m + c * 2 ^ i < 2 ^ j := by
  have hlt : m + c * 2 ^ i < 2 ^ j := by
    have h1 : (c + 1) * 2 ^ i ≤ 256 * 2 ^ i := Nat.mul_le_mul_right _ (by omega)
    have h2 : 2 ^ j = 256 * 2 ^ i := by rw [hj, Nat.pow_add, Nat.mul_comm]
    have h3 : (c + 1) * 2 ^ i = c * 2 ^ i + 2 ^ i := Nat.succ_mul _ _
    omega
  have h64 : 2 ^ j ≤ 2 ^ 64 := Nat.pow_le_pow_right (by decide) hi
  have h := hx.or (hy.shl i (by omega))
  rw [Nat.mod_eq_of_lt (by have : (18446744073709551616 : Nat) = 2 ^ 64 := by decide
                           omega), Nat.or_comm, Nat.mul_comm c, ← Nat.two_pow_add_eq_or_of_lt hm, Nat.add_comm, Nat.mul_comm] at h
  exact ⟨h, hlt⟩
theorem ev_down {x y : IE} {m c : Nat} (hx : Ev L x m) (hy : Ev L y c) (h : m * 256 + c < 18446744073709551616) : Ev L (.bin .add .u64 (.bin .mul .u64 x (.lit 256)) y) (m * 256 + c) := by
  refine ⟨?_, h⟩
  rw [eval_add, eval_mul, hx.eq, hy.eq, eval_lit, wrap_u64, wrap_u64]
  omega
theorem ev_top {y : IE} {c : Nat} (hy : Ev L y c) : Ev L (.bin .add .u64 (.lit 0) y) c := by
  have := hy.lt
  refine ⟨?_, this⟩
  rw [eval_add, hy.eq, eval_lit, wrap_u64]
  omega

theorem pairs4_ok {a k b0 b1 b2 b3 : Nat} (h0 : L a = .int .u8 (b0 : Int)) (h1 : L (a + 1) = .int .u8 (b1 : Int)) (h2 : L (a + 2) = .int .u8 (b2 : Int)) (h3 : L (a + 3) = .int .u8 (b3 : Int))
    (l0 : b0 < 256) (l1 : b1 < 256) (l2 : b2 < 256) (l3 : b3 < 256) (hk : L k = .int .i32 (IntKind.wrap .i32 ((b0 + 256 * b1 + 65536 * b2 + 16777216 * b3 : Nat) : Int))) : ∀ p ∈ pairs4 a k, p.1.eval L = p.2.eval L := by
  have x0 := ev_byte h0 l0
  have x1 := ev_byte h1 l1
  have x2 := ev_byte h2 l2
  have x3 := ev_byte h3 l3
  obtain ⟨m, hm⟩ : ∃ m, m = b0 + 256 * b1 + 65536 * b2 + 16777216 * b3 := ⟨_, rfl⟩
  rw [← hm] at hk
  have ek : IE.eval L (.leaf k) = IntKind.wrap .i32 (m : Int) := by rw [eval_leaf, hk]; rfl
  have hor : Ev L (orOf a 4) m := by
    obtain ⟨g0, k0⟩ := ev_orstep (i := 0) (j := 8) (Ev.lit (L := L) 0 (by decide)) (by decide) x0 l0 rfl (by decide)
    obtain ⟨g1, k1⟩ := ev_orstep (i := 8) (j := 16) g0 k0 x1 l1 rfl (by decide)
    obtain ⟨g2, k2⟩ := ev_orstep (i := 16) (j := 24) g1 k1 x2 l2 rfl (by decide)
    obtain ⟨g3, k3⟩ := ev_orstep (i := 24) (j := 32) g2 k2 x3 l3 rfl (by decide)
    have he : 0 + b0 * 2 ^ 0 + b1 * 2 ^ 8 + b2 * 2 ^ 16 + b3 * 2 ^ 24 = m := by
      simp only [Nat.reducePow]
      omega
    rw [he] at g3
    exact g3
  have hho : Ev L (hornerOf [a + 3, a + 2, a + 1, a]) m := by
    have g := ev_down (ev_down (ev_down (ev_top x3) x2 (by omega)) x1 (by omega)) x0 (by omega)
    rwa [show ((b3 * 256 + b2) * 256 + b1) * 256 + b0 = m by omega] at g
  have hw : Ev L (.conv .u64 (.conv .u32 (.leaf k))) m := by
    refine ⟨?_, by omega⟩
    rw [eval_conv, eval_conv, ek, wrap_u64, wrap_u32, wrap_i32]
    omega
  intro p hp
  rcases List.mem_cons.1 hp with rfl | hp
  · show IE.eval L (.conv .i32 (orOf a 4)) = IE.eval L (.leaf k)
    rw [eval_conv, hor.eq, ek]
  rcases List.mem_cons.1 hp with rfl | hp
  · show IE.eval L (.conv .i32 (.conv .u32 (hornerOf [a + 3, a + 2, a + 1, a]))) = IE.eval L (.leaf k)
    rw [eval_conv, eval_conv, hho.eq, ek, wrap_u32, wrap_i32, wrap_i32]
    omega
  obtain ⟨i, hi, rfl⟩ := List.mem_map.1 hp
  show IE.eval L (.conv .u8 (.shr (.conv .u64 (.conv .u32 (.leaf k))) (8 * i))) = IE.eval L (.leaf (a + i))
  rw [((hw.shr (8 * i)).conv8).eq]
  simp only [List.mem_cons, List.not_mem_nil, or_false] at hi
  rcases hi with rfl | rfl | rfl | rfl
  · rw [Nat.add_zero, ev_leaf8 h0]; simp only [Nat.reducePow, Nat.reduceMul]; omega
  · rw [ev_leaf8 h1]; simp only [Nat.reducePow, Nat.reduceMul]; omega
  · rw [ev_leaf8 h2]; simp only [Nat.reducePow, Nat.reduceMul]; omega
  · rw [ev_leaf8 h3]; simp only [Nat.reducePow, Nat.reduceMul]; omega

theorem back64 (m : Nat) (h : m < 18446744073709551616) : (((m : Int) + 9223372036854775808) % 18446744073709551616 - 9223372036854775808) % 18446744073709551616 = m := by omega

theorem pairs8_ok {a k b0 b1 b2 b3 b4 b5 b6 b7 : Nat} (h0 : L a = .int .u8 (b0 : Int)) (h1 : L (a + 1) = .int .u8 (b1 : Int)) (h2 : L (a + 2) = .int .u8 (b2 : Int)) (h3 : L (a + 3) = .int .u8 (b3 : Int))
    (h4 : L (a + 4) = .int .u8 (b4 : Int)) (h5 : L (a + 5) = .int .u8 (b5 : Int)) (h6 : L (a + 6) = .int .u8 (b6 : Int)) (h7 : L (a + 7) = .int .u8 (b7 : Int))
    (l0 : b0 < 256) (l1 : b1 < 256) (l2 : b2 < 256) (l3 : b3 < 256) (l4 : b4 < 256) (l5 : b5 < 256) (l6 : b6 < 256) (l7 : b7 < 256)
    (hk : L k = .int .i64 (IntKind.wrap .i64 ((b0 + 256 * b1 + 65536 * b2 + 16777216 * b3 + 4294967296 * b4 + 1099511627776 * b5 + 281474976710656 * b6 + 72057594037927936 * b7 : Nat) : Int))) : ∀ p ∈ pairs8 a k, p.1.eval L = p.2.eval L := by
  have x0 := ev_byte h0 l0
  have x1 := ev_byte h1 l1
  have x2 := ev_byte h2 l2
  have x3 := ev_byte h3 l3
  have x4 := ev_byte h4 l4
  have x5 := ev_byte h5 l5
  have x6 := ev_byte h6 l6
  have x7 := ev_byte h7 l7
  obtain ⟨m, hm⟩ : ∃ m, m = b0 + 256 * b1 + 65536 * b2 + 16777216 * b3 + 4294967296 * b4 + 1099511627776 * b5 + 281474976710656 * b6 + 72057594037927936 * b7 := ⟨_, rfl⟩
  rw [← hm] at hk
  have ek : IE.eval L (.leaf k) = IntKind.wrap .i64 (m : Int) := by rw [eval_leaf, hk]; rfl
  have hor : Ev L (orOf a 8) m := by
    obtain ⟨g0, k0⟩ := ev_orstep (i := 0) (j := 8) (Ev.lit (L := L) 0 (by decide)) (by decide) x0 l0 rfl (by decide)
    obtain ⟨g1, k1⟩ := ev_orstep (i := 8) (j := 16) g0 k0 x1 l1 rfl (by decide)
    obtain ⟨g2, k2⟩ := ev_orstep (i := 16) (j := 24) g1 k1 x2 l2 rfl (by decide)
    obtain ⟨g3, k3⟩ := ev_orstep (i := 24) (j := 32) g2 k2 x3 l3 rfl (by decide)
    obtain ⟨g4, k4⟩ := ev_orstep (i := 32) (j := 40) g3 k3 x4 l4 rfl (by decide)
    obtain ⟨g5, k5⟩ := ev_orstep (i := 40) (j := 48) g4 k4 x5 l5 rfl (by decide)
    obtain ⟨g6, k6⟩ := ev_orstep (i := 48) (j := 56) g5 k5 x6 l6 rfl (by decide)
    obtain ⟨g7, k7⟩ := ev_orstep (i := 56) (j := 64) g6 k6 x7 l7 rfl (by decide)
    have he : 0 + b0 * 2 ^ 0 + b1 * 2 ^ 8 + b2 * 2 ^ 16 + b3 * 2 ^ 24 + b4 * 2 ^ 32 + b5 * 2 ^ 40 + b6 * 2 ^ 48 + b7 * 2 ^ 56 = m := by
      simp only [Nat.reducePow]
      omega
    rw [he] at g7
    exact g7
  have hho : Ev L (hornerOf [a + 7, a + 6, a + 5, a + 4, a + 3, a + 2, a + 1, a]) m := by
    have g := ev_down (ev_down (ev_down (ev_down (ev_down (ev_down (ev_down (ev_top x7) x6 (by omega)) x5 (by omega)) x4 (by omega)) x3 (by omega)) x2 (by omega)) x1 (by omega)) x0 (by omega)
    rwa [show ((((((b7 * 256 + b6) * 256 + b5) * 256 + b4) * 256 + b3) * 256 + b2) * 256 + b1) * 256 + b0 = m by omega] at g
  have hw : Ev L (.conv .u64 (.leaf k)) m := by
    have hm64 : m < 18446744073709551616 := by omega
    refine ⟨?_, hm64⟩
    rw [eval_conv, ek, wrap_u64, wrap_i64]
    exact back64 m hm64
  intro p hp
  rcases List.mem_cons.1 hp with rfl | hp
  · show IE.eval L (.conv .i64 (orOf a 8)) = IE.eval L (.leaf k)
    rw [eval_conv, hor.eq, ek]
  rcases List.mem_cons.1 hp with rfl | hp
  · show IE.eval L (.conv .i64 (hornerOf [a + 7, a + 6, a + 5, a + 4, a + 3, a + 2, a + 1, a])) = IE.eval L (.leaf k)
    rw [eval_conv, hho.eq, ek]
  obtain ⟨i, hi, rfl⟩ := List.mem_map.1 hp
  show IE.eval L (.conv .u8 (.shr (.conv .u64 (.leaf k)) (8 * i))) = IE.eval L (.leaf (a + i))
  rw [((hw.shr (8 * i)).conv8).eq]
  simp only [List.mem_cons, List.not_mem_nil, or_false] at hi
  rcases hi with rfl | rfl | rfl | rfl | rfl | rfl | rfl | rfl
  · rw [Nat.add_zero, ev_leaf8 h0]; simp only [Nat.reducePow, Nat.reduceMul]; omega
  · rw [ev_leaf8 h1]; simp only [Nat.reducePow, Nat.reduceMul]; omega
  · rw [ev_leaf8 h2]; simp only [Nat.reducePow, Nat.reduceMul]; omega
  · rw [ev_leaf8 h3]; simp only [Nat.reducePow, Nat.reduceMul]; omega
  · rw [ev_leaf8 h4]; simp only [Nat.reducePow, Nat.reduceMul]; omega
  · rw [ev_leaf8 h5]; simp only [Nat.reducePow, Nat.reduceMul]; omega
  · rw [ev_leaf8 h6]; simp only [Nat.reducePow, Nat.reduceMul]; omega
  · rw [ev_leaf8 h7]; simp only [Nat.reducePow, Nat.reduceMul]; omega

theorem good_splitS {c : Cfg} {n : Nat} {f : FuncId} {l : List V} {s0 : St} {op : BinOp} {a b : IE} {t e : DT} {fs : List Fact} (hs : (cmpB op).isSome = true) (h1 : t.goodS c n f l s0 (⟨op, a, b, true⟩ :: fs) = true) (h2 : e.goodS c n f l s0 (⟨op, a, b, false⟩ :: fs) = true) :
    (DT.split op a b t e).goodS c n f l s0 fs = true := band_true.2 ⟨hs, band_true.2 ⟨h1, h2⟩⟩

end Go.Proofs.Ytginhhjnbimmeaa.reads
