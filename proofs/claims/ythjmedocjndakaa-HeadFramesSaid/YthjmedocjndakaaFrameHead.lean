/- Contracts of package head's functions on frames. -/
import Derived.Test.YthjmedocjndakaaHead
import Derived.StillTailTactics
import Derived.Test.YthjmedocjndakaaKept
namespace Go.Proofs.Ythjmedocjndakaa
open Go.RowKit
set_option linter.unusedVariables false

set_option maxRecDepth 20000 in
theorem or_at (k : Nat) (x y : Int) (hk : k < 64) (hx0 : 0 ≤ x) (hx : x < 2 ^ k) (hy0 : 0 ≤ y) (hy : y * 2 ^ k < 18446744073709551616) : bits .or .u64 x (y * 2 ^ k) = x + y * 2 ^ k := by
  obtain ⟨a, rfl⟩ := Int.eq_ofNat_of_zero_le hx0
  obtain ⟨b, rfl⟩ := Int.eq_ofNat_of_zero_le hy0
  have ha : a < 2 ^ k := Int.ofNat_lt.1 (by rw [Int.natCast_pow]; exact hx)
  have hm : b * 2 ^ k < 18446744073709551616 := Int.ofNat_lt.1 (by rw [Int.natCast_mul, Int.natCast_pow]; exact hy)
  have e : ((b : Int) * 2 ^ k) = ((b * 2 ^ k : Nat) : Int) := by rw [Int.natCast_mul, Int.natCast_pow]; rfl
  have hp : 2 ^ k ≤ 2 ^ 63 := Nat.pow_le_pow_right (by decide) (by omega)
  have hp2 : (2 : Nat) ^ 63 = 9223372036854775808 := by decide
  have ha2 : a < 18446744073709551616 := by omega
  rw [e, u64_or_nat a (b * 2 ^ k) ha2 hm, Nat.or_comm, Nat.mul_comm, ← Nat.two_pow_add_eq_or_of_lt ha b]
  rw [Int.natCast_add, Nat.mul_comm, Int.add_comm]

theorem still_tail_at {P : Program} {id : Nat} {Q : Exit → Act → World → Prop} {a : Act} {W : World} {l : List Oper} (n : Nat) (hm : P.follows .mixedOrders = true) (hB : Region.lexTailB .any l.toArray n = true)
    (h : ∀ W2, W2 = W.drew → wpStill P l.toArray W2 (fun a' => wpList P l.toArray Q (l.drop n) a' W2) (l.take n) a) : (Code.region id l.toArray true).wp P Q a W :=
  wp_region_still_tail n hm hB (h _ rfl)

/-- A frame's first word. -/
def w0I (l v f t : Int) : Int := l % 4294967296 + v * 4294967296 + f * 1099511627776 + t * 281474976710656

set_option maxHeartbeats 2000000 in
theorem words_any (l v f t o s st tm r : Int) (w : World) (hv0 : 0 ≤ v) (hv : v ≤ 255) (hf0 : 0 ≤ f) (hf : f ≤ 255) (ht0 : 0 ≤ t) (ht : t ≤ 65535) :
    Calls Try.prog 14 #[.agg #[.int .i32 l, .int .u8 v, .int .u8 f, .int .u16 t, .int .i32 o, .int .i32 s, .int .i32 st, .int .i32 tm, .int .u64 r]] w fun e w' => e = .returned (.agg #[.int .u64 (w0I l v f t), .int .u64 (recI o s), .int .u64 (recI st tm), .int .u64 r]) ∧ Below w.heap.size w w' := by
  have e1 : IntKind.u32.wrap l = l % 4294967296 := IntKind.wrap_u32 l
  have hx : 0 ≤ l % 4294967296 ∧ l % 4294967296 < 4294967296 := by omega
  unfold w0I
  generalize l % 4294967296 = x at *
  obtain ⟨hx0, hx1⟩ := hx
  have o1 : bits .or .u64 x (v * 4294967296) = x + v * 4294967296 := or_at 32 x v (by decide) hx0 hx1 hv0 (by omega)
  have o2 : bits .or .u64 (x + v * 4294967296) (f * 1099511627776) = x + v * 4294967296 + f * 1099511627776 := or_at 40 _ f (by decide) (by omega) (by omega) hf0 (by omega)
  have o3 : bits .or .u64 (x + v * 4294967296 + f * 1099511627776) (t * 281474976710656) = x + v * 4294967296 + f * 1099511627776 + t * 281474976710656 := or_at 48 _ t (by decide) (by omega) (by omega) ht0 (by omega)
  obtain ⟨y1, h1⟩ : ∃ y, y = x + v * 4294967296 := ⟨_, rfl⟩
  rw [← h1] at o1 o2 o3 ⊢
  obtain ⟨y2, h2⟩ : ∃ y, y = y1 + f * 1099511627776 := ⟨_, rfl⟩
  rw [← h2] at o2 o3 ⊢
  obtain ⟨y3, h3⟩ : ∃ y, y = y2 + t * 281474976710656 := ⟨_, rfl⟩
  rw [← h3] at o3 ⊢
  clear h1 h2 h3
  go_enter Try.func14, Try.ntmps14
  go_wp2_with fail
  refine still_tail_at 32 (by kernel_rfl) (by kernel_rfl) ?_
  intro W2 hW2
  have c0 : W2.cell? ⟨w.heap.size, 0, none⟩ = some (.int .i32 l) := by rw [hW2]; simp
  have c1 : W2.cell? ⟨w.heap.size, 1, none⟩ = some (.int .u8 v) := by rw [hW2]; simp
  have c2 : W2.cell? ⟨w.heap.size, 2, none⟩ = some (.int .u8 f) := by rw [hW2]; simp
  have c3 : W2.cell? ⟨w.heap.size, 3, none⟩ = some (.int .u16 t) := by rw [hW2]; simp
  have c4 : W2.cell? ⟨w.heap.size, 4, none⟩ = some (.int .i32 o) := by rw [hW2]; simp
  have c5 : W2.cell? ⟨w.heap.size, 5, none⟩ = some (.int .i32 s) := by rw [hW2]; simp
  have c6 : W2.cell? ⟨w.heap.size, 6, none⟩ = some (.int .i32 st) := by rw [hW2]; simp
  have c7 : W2.cell? ⟨w.heap.size, 7, none⟩ = some (.int .i32 tm) := by rw [hW2]; simp
  have c8 : W2.cell? ⟨w.heap.size, 8, none⟩ = some (.int .u64 r) := by rw [hW2]; simp
  have d0 : W2.cell? ⟨w.heap.size + 1, 0, none⟩ = some (.int .u64 0) := by rw [hW2]; simp
  have d1 : W2.cell? ⟨w.heap.size + 1, 1, none⟩ = some (.int .u64 0) := by rw [hW2]; simp
  have d2 : W2.cell? ⟨w.heap.size + 1, 2, none⟩ = some (.int .u64 0) := by rw [hW2]; simp
  have d3 : W2.cell? ⟨w.heap.size + 1, 3, none⟩ = some (.int .u64 0) := by rw [hW2]; simp
  have g0 : ∀ i, W2.frozen? ⟨w.heap.size + 1, i, none⟩ = false := by intro i; rw [hW2]; simp
  have hB : Below w.heap.size w W2 := by rw [hW2]; exact (((Below.refl _ _).alloc (Nat.le_refl _) _).alloc (by simp) _).drew
  clear hW2
  simp only [List.take_succ_cons, List.take_zero, List.drop_succ_cons, List.drop_zero]
  repeat still_step
  still_call ((record_any _ _ _).mono fun _ _ h => ⟨h.1, h.2.symm⟩)
  repeat still_step
  still_call ((record_any _ _ _).mono fun _ _ h => ⟨h.1, h.2.symm⟩)
  repeat still_step
  try refine wpStill_nil ?_
  go_wp2
  refine bodyPost_ret (v := .agg #[.int .u64 y3, .int .u64 (recI o s), .int .u64 (recI st tm), .int .u64 r]) (by simp [results, Try.results14, go_sem, o1, o2, o3, d0, d1, d2, d3]) rfl ⟨rfl, ?_⟩
  refine hB.trans (Kept.below (S := fun k => k = w.heap.size + 1) ?_ hB.size (by intro k hk; omega))
  exact ((((Kept.refl (fun k => k = w.heap.size + 1) W2).setCell (p := ⟨w.heap.size + 1, 0, none⟩) rfl _).setCell (p := ⟨w.heap.size + 1, 1, none⟩) rfl _).setCell (p := ⟨w.heap.size + 1, 2, none⟩) rfl _).setCell (p := ⟨w.heap.size + 1, 3, none⟩) rfl _

theorem frame_any (a0 a1 a2 a3 : Int) (w : World) (h00 : 0 ≤ a0) (h01 : a0 ≤ 18446744073709551615) (h10 : 0 ≤ a1) (h11 : a1 ≤ 18446744073709551615) (h20 : 0 ≤ a2) (h21 : a2 ≤ 18446744073709551615) :
    Calls Try.prog 15 #[.agg #[.int .u64 a0, .int .u64 a1, .int .u64 a2, .int .u64 a3]] w fun e w' => e = .returned (.agg #[.int .i32 (wrap32 a0), .int .u8 (a0 / 4294967296 % 256), .int .u8 (a0 / 1099511627776 % 256), .int .u16 (a0 / 281474976710656), .int .i32 (spL a1), .int .i32 (spT a1), .int .i32 (spL a2), .int .i32 (spT a2), .int .u64 a3]) ∧ Below w.heap.size w w' := by
  go_enter Try.func15, Try.ntmps15
  go_wp2_with (go_at_call 11; (first | (with_reducible refine (split_any _ _ h10 h11).mono ?_) | (with_reducible refine (split_any _ _ h20 h21).mono ?_)); rintro e w' ⟨rfl, rfl⟩)
  refine bodyPost_ret (v := .agg #[.int .i32 (wrap32 a0), .int .u8 (a0 / 4294967296 % 256), .int .u8 (a0 / 1099511627776 % 256), .int .u16 (a0 / 281474976710656), .int .i32 (spL a1), .int .i32 (spT a1), .int .i32 (spL a2), .int .i32 (spT a2), .int .u64 a3]) (by simp [results, Try.results15, go_sem]) rfl ⟨rfl, ?_⟩
  exact (((Below.refl _ _).alloc (Nat.le_refl _) _).alloc (by simp) _).alloc (by simp; omega) _

end Go.Proofs.Ythjmedocjndakaa
