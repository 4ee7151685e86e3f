/- Statement HeadFrames: any frame's header is the document's, and tells it; so do any words.
   No condition: for every input that can be read. -/
import Derived.Test.YthjmedocjndakaaRows
import Derived.Test.YthjmedocjndakaaKit
import Derived.Test.YthjmedocjndakaaFixed03
import Derived.Test.YthjmedocjndakaaFrameEq
import Derived.ProofKit
import Derived.Deep.RegionHeldLaw
import Derived.OpenShut
import Derived.ShutString
import Derived.ChangeOld
import Derived.Below
import Derived.Deep.Fields
import Derived.WideShapes
import Derived.Lib.SmallJoins
namespace Go.Proofs.Ythjmedocjndakaa.headFrames
open Go.ChangeShapes Go.WideShapes Go.ChangeAt Go.RowKit
open Go.ChangeMaps (open_string shut_string)
set_option linter.unusedVariables false

open Go.Joins Go.Deep
theorem own : ownKnob Try.prog.godebug = none := by kernel_rfl
section
variable {H : Type} {enc : TypeId × Value → H} {P : Program} {w : World} {base : Nat} {spare : Nat → Bool} {held : Bool}
set_option maxRecDepth 100000 in
theorem open_aggs9 {r : Reach} {b0 : Nat} {t : TypeId} {f0 f1 f2 f3 f4 f5 f6 f7 f8 : Field} {v : Value} {d : DataW H} {p : List MemPlace} (hs : P.underlying t = some (.struct #[f0, f1, f2, f3, f4, f5, f6, f7, f8])) (hone : oneCellFields P #[f0, f1, f2, f3, f4, f5, f6, f7, f8] = true) (hC : P.cellsOf t = 9)
    (hv : Value.okWide P w r b0 t v) (h : DataW.Trod enc P w base spare held t v d p) :
    ∃ (c0 c1 c2 c3 c4 c5 c6 c7 c8 : Value) (y0 y1 y2 y3 y4 y5 y6 y7 y8 : DataW H × List MemPlace) (n : Nat), v = .agg #[c0, c1, c2, c3, c4, c5, c6, c7, c8] ∧ DataW.trod enc P w base spare held n f0.type [c0] = some y0 ∧ DataW.trod enc P w base spare held n f1.type [c1] = some y1 ∧ DataW.trod enc P w base spare held n f2.type [c2] = some y2 ∧ DataW.trod enc P w base spare held n f3.type [c3] = some y3 ∧ DataW.trod enc P w base spare held n f4.type [c4] = some y4 ∧ DataW.trod enc P w base spare held n f5.type [c5] = some y5 ∧ DataW.trod enc P w base spare held n f6.type [c6] = some y6 ∧ DataW.trod enc P w base spare held n f7.type [c7] = some y7 ∧ DataW.trod enc P w base spare held n f8.type [c8] = some y8 := by
  obtain ⟨cs, rfl, hsz⟩ := okWide_struct hs hv
  obtain ⟨l⟩ := cs
  match l, hsz.trans hC with
  | [c0, c1, c2, c3, c4, c5, c6, c7, c8], _ =>
    obtain ⟨fuel, hf⟩ := h
    obtain ⟨xs, n, _, hx, _, hlen, hg⟩ := DataW.trod_struct hs hf
    obtain ⟨o0, k0⟩ := Go.Deep.hone_of hone 0 f0 rfl
    obtain ⟨o1, k1⟩ := Go.Deep.hone_of hone 1 f1 rfl
    obtain ⟨o2, k2⟩ := Go.Deep.hone_of hone 2 f2 rfl
    obtain ⟨o3, k3⟩ := Go.Deep.hone_of hone 3 f3 rfl
    obtain ⟨o4, k4⟩ := Go.Deep.hone_of hone 4 f4 rfl
    obtain ⟨o5, k5⟩ := Go.Deep.hone_of hone 5 f5 rfl
    obtain ⟨o6, k6⟩ := Go.Deep.hone_of hone 6 f6 rfl
    obtain ⟨o7, k7⟩ := Go.Deep.hone_of hone 7 f7 rfl
    obtain ⟨o8, k8⟩ := Go.Deep.hone_of hone 8 f8 rfl
    match xs, hlen with
    | [y0, y1, y2, y3, y4, y5, y6, y7, y8], _ =>
      exact ⟨c0, c1, c2, c3, c4, c5, c6, c7, c8, y0, y1, y2, y3, y4, y5, y6, y7, y8, n, rfl, by simpa [Value.cells, o0, k0] using hg 0 f0 rfl, by simpa [Value.cells, o1, k1] using hg 1 f1 rfl, by simpa [Value.cells, o2, k2] using hg 2 f2 rfl, by simpa [Value.cells, o3, k3] using hg 3 f3 rfl, by simpa [Value.cells, o4, k4] using hg 4 f4 rfl, by simpa [Value.cells, o5, k5] using hg 5 f5 rfl, by simpa [Value.cells, o6, k6] using hg 6 f6 rfl, by simpa [Value.cells, o7, k7] using hg 7 f7 rfl, by simpa [Value.cells, o8, k8] using hg 8 f8 rfl⟩
end
section
variable {H : Type} {enc : TypeId × Value → H} {P : Program} {w : World} {base : Nat} {spare : Nat → Bool} {held : Bool}
theorem open_arr4 {r : Reach} {b0 : Nat} {t e : TypeId} {v : Value} {d : DataW H} {p : List MemPlace} (hs : P.underlying t = some (.array 4 e)) (hce : P.cellsOf e = 1) (hC : P.cellsOf t = 4)
    (hv : Value.okWide P w r b0 t v) (h : DataW.Trod enc P w base spare held t v d p) :
    ∃ (c0 c1 c2 c3 : Value) (y0 y1 y2 y3 : DataW H × List MemPlace) (n : Nat), v = .agg #[c0, c1, c2, c3] ∧ DataW.trod enc P w base spare held n e [c0] = some y0 ∧ DataW.trod enc P w base spare held n e [c1] = some y1 ∧ DataW.trod enc P w base spare held n e [c2] = some y2 ∧ DataW.trod enc P w base spare held n e [c3] = some y3 := by
  have hw : ∃ cs, v = .agg cs ∧ cs.size = P.cellsOf t := by
    simp only [Value.okWide, hs] at hv
    obtain ⟨cs, h1, h2, _⟩ := hv
    exact ⟨cs, h1, h2⟩
  obtain ⟨cs, rfl, hsz⟩ := hw
  obtain ⟨l⟩ := cs
  match l, hsz.trans hC with
  | [c0, c1, c2, c3], _ =>
    obtain ⟨fuel, hf⟩ := h
    obtain ⟨xs, m, _, hx, _, hlen, hg⟩ := DataW.trod_array hs hf
    match xs, hlen with
    | [y0, y1, y2, y3], _ =>
      exact ⟨c0, c1, c2, c3, y0, y1, y2, y3, m, rfl, by simpa [Value.cells, hce] using hg 0 (by omega), by simpa [Value.cells, hce] using hg 1 (by omega), by simpa [Value.cells, hce] using hg 2 (by omega), by simpa [Value.cells, hce] using hg 3 (by omega)⟩
end
theorem laidOut : laidOutB Try.prog = true := by kernel_rfl
theorem at_world {P : Program} {c : Code} {Q : Exit → Act → World → Prop} {a : Act} {W : World} (h : ∀ W0, W0 = W → c.wp P Q a W0) : c.wp P Q a W := h _ rfl

theorem w0_range (l v f t : Int) (hv0 : 0 ≤ v) (hv : v ≤ 255) (hf0 : 0 ≤ f) (hf : f ≤ 255) (ht0 : 0 ≤ t) (ht : t ≤ 65535) : 0 ≤ w0I l v f t ∧ w0I l v f t ≤ 18446744073709551615 := by unfold w0I; omega
theorem w0_back (l v f t : Int) (hl0 : -2147483648 ≤ l) (hl : l ≤ 2147483647) (hv0 : 0 ≤ v) (hv : v ≤ 255) (hf0 : 0 ≤ f) (hf : f ≤ 255) (ht0 : 0 ≤ t) (ht : t ≤ 65535) :
    wrap32 (w0I l v f t) = l ∧ w0I l v f t / 4294967296 % 256 = v ∧ w0I l v f t / 1099511627776 % 256 = f ∧ w0I l v f t / 281474976710656 = t := by
  unfold w0I wrap32; omega
theorem w0_of (b : Int) (h0 : 0 ≤ b) (h1 : b ≤ 18446744073709551615) : w0I (wrap32 b) (b / 4294967296 % 256) (b / 1099511627776 % 256) (b / 281474976710656) = b := by
  unfold w0I wrap32; omega

set_option maxHeartbeats 4000000 in
set_option maxRecDepth 100000 in
theorem walk (a0 a1 a2 a3 a4 a5 a6 a7 a8 b0 b1 b2 b3 : Int) (w : World) (w0 : (Lit.int .i32 a0).wf = true) (w1 : (Lit.int .u8 a1).wf = true) (w2 : (Lit.int .u8 a2).wf = true) (w3 : (Lit.int .u16 a3).wf = true) (w4 : (Lit.int .i32 a4).wf = true) (w5 : (Lit.int .i32 a5).wf = true) (w6 : (Lit.int .i32 a6).wf = true) (w7 : (Lit.int .i32 a7).wf = true) (w8 : (Lit.int .u64 a8).wf = true) (x0 : (Lit.int .u64 b0).wf = true) (x1 : (Lit.int .u64 b1).wf = true) (x2 : (Lit.int .u64 b2).wf = true) (x3 : (Lit.int .u64 b3).wf = true) :
    Calls Try.prog 4 #[.agg #[.int .i32 a0, .int .u8 a1, .int .u8 a2, .int .u16 a3, .int .i32 a4, .int .i32 a5, .int .i32 a6, .int .i32 a7, .int .u64 a8], .agg #[.int .u64 b0, .int .u64 b1, .int .u64 b2, .int .u64 b3]] w fun e w' => e = .returned (.bool true) ∧ Below w.heap.size w w' := by
  obtain ⟨p0, q0⟩ := Go.bounds_i32 w0
  obtain ⟨p1, q1⟩ := Go.bounds_u8 w1
  obtain ⟨p2, q2⟩ := Go.bounds_u8 w2
  obtain ⟨p3, q3⟩ := Go.bounds_u16 w3
  obtain ⟨p4, q4⟩ := Go.bounds_i32 w4
  obtain ⟨p5, q5⟩ := Go.bounds_i32 w5
  obtain ⟨p6, q6⟩ := Go.bounds_i32 w6
  obtain ⟨p7, q7⟩ := Go.bounds_i32 w7
  obtain ⟨p8, q8⟩ := Go.bounds_u64 w8
  obtain ⟨r0, s0⟩ := Go.bounds_u64 x0
  obtain ⟨r1, s1⟩ := Go.bounds_u64 x1
  obtain ⟨r2, s2⟩ := Go.bounds_u64 x2
  obtain ⟨r3, s3⟩ := Go.bounds_u64 x3
  clear w0 w1 w2 w3 w4 w5 w6 w7 w8 x0 x1 x2 x3
  have CA := fun W => words_any a0 a1 a2 a3 a4 a5 a6 a7 a8 W p1 q1 p2 q2 p3 q3
  have CB := fun W => frame_any b0 b1 b2 b3 W r0 s0 r1 s1 r2 s2
  have CC := fun W => rwords_any a0 a1 a2 a3 a4 a5 a6 a7 a8 W p1 q1 p2 q2 p3 q3 p8 q8
  have CD := fun W => frame_any (w0I a0 a1 a2 a3) (recI a4 a5) (recI a6 a7) a8 W (w0_range a0 a1 a2 a3 p1 q1 p2 q2 p3 q3).1 (w0_range a0 a1 a2 a3 p1 q1 p2 q2 p3 q3).2 (rec_range a4 a5).1 (rec_range a4 a5).2 (rec_range a6 a7).1 (rec_range a6 a7).2
  have CE := fun W => rframe_any b0 b1 b2 b3 W r0 s0 r1 s1 r2 s2 r3 s3
  have CF := fun W => words_any (wrap32 b0) (b0 / 4294967296 % 256) (b0 / 1099511627776 % 256) (b0 / 281474976710656) (spL b1) (spT b1) (spL b2) (spT b2) b3 W (by omega) (by omega) (by omega) (by omega) (by omega) (by omega)
  obtain ⟨e1, e2, e3, e4⟩ := w0_back a0 a1 a2 a3 p0 q0 p1 q1 p2 q2 p3 q3
  obtain ⟨e5, e6⟩ := rec_sp a4 a5 p4 q4 p5 q5
  obtain ⟨e7, e8⟩ := rec_sp a6 a7 p6 q6 p7 q7
  simp only [e1, e2, e3, e4, e5, e6, e7, e8] at CD
  simp only [w0_of b0 r0 s0, sp_rec b1 r1 s1, sp_rec b2 r2 s2] at CF
  clear e1 e2 e3 e4 e5 e6 e7 e8
  generalize w0I a0 a1 a2 a3 = X0 at *
  generalize recI a4 a5 = X1 at *
  generalize recI a6 a7 = X2 at *
  generalize wrap32 b0 = G0 at *
  generalize b0 / 4294967296 % 256 = G1 at *
  generalize b0 / 1099511627776 % 256 = G2 at *
  generalize b0 / 281474976710656 = G3 at *
  generalize spL b1 = G4 at *
  generalize spT b1 = G5 at *
  generalize spL b2 = G6 at *
  generalize spT b2 = G7 at *
  have HA := fun W => Lib.hid (CA W)
  have HB := fun W => Lib.hid (CB W)
  have HC := fun W => Lib.hid (CC W)
  have HD := fun W => Lib.hid (CD W)
  have HE := fun W => Lib.hid (CE W)
  have HG := fun W => Lib.hid (CF W)
  clear CA CB CC CD CE CF p0 p1 p2 p3 p4 p5 p6 p7 p8 q0 q1 q2 q3 q4 q5 q6 q7 q8 r0 r1 r2 r3 s0 s1 s2 s3
  go_enter Try.func4, Try.ntmps4
  go_wp2_with (first | (go_at_call 9; refine (fixed03_true _).mono ?_; rintro e w' ⟨rfl, rfl⟩) | (go_at_call 14; refine ((HA _).out).mono ?_; rintro e w1 ⟨rfl, hb1⟩; have hs1 := hb1.size; simp at hs1; have k0 : ∀ o, (w1.alloc o).cell? ⟨w.heap.size + 1, 0, none⟩ = some (.int .u64 b0) := fun o => (((Below.refl _ w1).alloc (Nat.le_refl _) o).cell (p := ⟨w.heap.size + 1, 0, none⟩) (show w.heap.size + 1 < w1.heap.size by omega)).trans ((hb1.cell (p := ⟨w.heap.size + 1, 0, none⟩) (by simp)).trans (by simp)); have k1 : ∀ o, (w1.alloc o).cell? ⟨w.heap.size + 1, 1, none⟩ = some (.int .u64 b1) := fun o => (((Below.refl _ w1).alloc (Nat.le_refl _) o).cell (p := ⟨w.heap.size + 1, 1, none⟩) (show w.heap.size + 1 < w1.heap.size by omega)).trans ((hb1.cell (p := ⟨w.heap.size + 1, 1, none⟩) (by simp)).trans (by simp)); have k2 : ∀ o, (w1.alloc o).cell? ⟨w.heap.size + 1, 2, none⟩ = some (.int .u64 b2) := fun o => (((Below.refl _ w1).alloc (Nat.le_refl _) o).cell (p := ⟨w.heap.size + 1, 2, none⟩) (show w.heap.size + 1 < w1.heap.size by omega)).trans ((hb1.cell (p := ⟨w.heap.size + 1, 2, none⟩) (by simp)).trans (by simp)); have k3 : ∀ o, (w1.alloc o).cell? ⟨w.heap.size + 1, 3, none⟩ = some (.int .u64 b3) := fun o => (((Below.refl _ w1).alloc (Nat.le_refl _) o).cell (p := ⟨w.heap.size + 1, 3, none⟩) (show w.heap.size + 1 < w1.heap.size by omega)).trans ((hb1.cell (p := ⟨w.heap.size + 1, 3, none⟩) (by simp)).trans (by simp))) | (go_at_call 15; refine ((HB _).out).mono ?_; rintro e w2 ⟨rfl, hb2⟩; have hs2 := hb2.size; simp at hs2))
  refine at_world ?_
  intro W0 hW0
  have t0 : ∀ b i, b < w2.heap.size → W0.cell? ⟨b, i, none⟩ = w2.cell? ⟨b, i, none⟩ := by
    intro b i h
    rw [hW0]
    exact ((Below.refl _ w2).alloc (Nat.le_refl _) _).cell (p := ⟨b, i, none⟩) h
  have cf0_0 : W0.cell? ⟨w.heap.size, 0, none⟩ = some (.int .i32 a0) := (t0 _ _ (by omega)).trans ((hb2.cell (p := ⟨w.heap.size, 0, none⟩) (by simp; omega)).trans ((((Below.refl _ w1).alloc (Nat.le_refl _) _).cell (p := ⟨w.heap.size, 0, none⟩) (show w.heap.size < w1.heap.size by omega)).trans ((hb1.cell (p := ⟨w.heap.size, 0, none⟩) (by simp <;> omega)).trans (by simp))))
  have cf1_0 : W0.cell? ⟨w.heap.size, 1, none⟩ = some (.int .u8 a1) := (t0 _ _ (by omega)).trans ((hb2.cell (p := ⟨w.heap.size, 1, none⟩) (by simp; omega)).trans ((((Below.refl _ w1).alloc (Nat.le_refl _) _).cell (p := ⟨w.heap.size, 1, none⟩) (show w.heap.size < w1.heap.size by omega)).trans ((hb1.cell (p := ⟨w.heap.size, 1, none⟩) (by simp <;> omega)).trans (by simp))))
  have cf2_0 : W0.cell? ⟨w.heap.size, 2, none⟩ = some (.int .u8 a2) := (t0 _ _ (by omega)).trans ((hb2.cell (p := ⟨w.heap.size, 2, none⟩) (by simp; omega)).trans ((((Below.refl _ w1).alloc (Nat.le_refl _) _).cell (p := ⟨w.heap.size, 2, none⟩) (show w.heap.size < w1.heap.size by omega)).trans ((hb1.cell (p := ⟨w.heap.size, 2, none⟩) (by simp <;> omega)).trans (by simp))))
  have cf3_0 : W0.cell? ⟨w.heap.size, 3, none⟩ = some (.int .u16 a3) := (t0 _ _ (by omega)).trans ((hb2.cell (p := ⟨w.heap.size, 3, none⟩) (by simp; omega)).trans ((((Below.refl _ w1).alloc (Nat.le_refl _) _).cell (p := ⟨w.heap.size, 3, none⟩) (show w.heap.size < w1.heap.size by omega)).trans ((hb1.cell (p := ⟨w.heap.size, 3, none⟩) (by simp <;> omega)).trans (by simp))))
  have cf4_0 : W0.cell? ⟨w.heap.size, 4, none⟩ = some (.int .i32 a4) := (t0 _ _ (by omega)).trans ((hb2.cell (p := ⟨w.heap.size, 4, none⟩) (by simp; omega)).trans ((((Below.refl _ w1).alloc (Nat.le_refl _) _).cell (p := ⟨w.heap.size, 4, none⟩) (show w.heap.size < w1.heap.size by omega)).trans ((hb1.cell (p := ⟨w.heap.size, 4, none⟩) (by simp <;> omega)).trans (by simp))))
  have cf5_0 : W0.cell? ⟨w.heap.size, 5, none⟩ = some (.int .i32 a5) := (t0 _ _ (by omega)).trans ((hb2.cell (p := ⟨w.heap.size, 5, none⟩) (by simp; omega)).trans ((((Below.refl _ w1).alloc (Nat.le_refl _) _).cell (p := ⟨w.heap.size, 5, none⟩) (show w.heap.size < w1.heap.size by omega)).trans ((hb1.cell (p := ⟨w.heap.size, 5, none⟩) (by simp <;> omega)).trans (by simp))))
  have cf6_0 : W0.cell? ⟨w.heap.size, 6, none⟩ = some (.int .i32 a6) := (t0 _ _ (by omega)).trans ((hb2.cell (p := ⟨w.heap.size, 6, none⟩) (by simp; omega)).trans ((((Below.refl _ w1).alloc (Nat.le_refl _) _).cell (p := ⟨w.heap.size, 6, none⟩) (show w.heap.size < w1.heap.size by omega)).trans ((hb1.cell (p := ⟨w.heap.size, 6, none⟩) (by simp <;> omega)).trans (by simp))))
  have cf7_0 : W0.cell? ⟨w.heap.size, 7, none⟩ = some (.int .i32 a7) := (t0 _ _ (by omega)).trans ((hb2.cell (p := ⟨w.heap.size, 7, none⟩) (by simp; omega)).trans ((((Below.refl _ w1).alloc (Nat.le_refl _) _).cell (p := ⟨w.heap.size, 7, none⟩) (show w.heap.size < w1.heap.size by omega)).trans ((hb1.cell (p := ⟨w.heap.size, 7, none⟩) (by simp <;> omega)).trans (by simp))))
  have cf8_0 : W0.cell? ⟨w.heap.size, 8, none⟩ = some (.int .u64 a8) := (t0 _ _ (by omega)).trans ((hb2.cell (p := ⟨w.heap.size, 8, none⟩) (by simp; omega)).trans ((((Below.refl _ w1).alloc (Nat.le_refl _) _).cell (p := ⟨w.heap.size, 8, none⟩) (show w.heap.size < w1.heap.size by omega)).trans ((hb1.cell (p := ⟨w.heap.size, 8, none⟩) (by simp <;> omega)).trans (by simp))))
  have cw0_0 : W0.cell? ⟨w.heap.size + 1, 0, none⟩ = some (.int .u64 b0) := (t0 _ _ (by omega)).trans ((hb2.cell (p := ⟨w.heap.size + 1, 0, none⟩) (by simp; omega)).trans ((((Below.refl _ w1).alloc (Nat.le_refl _) _).cell (p := ⟨w.heap.size + 1, 0, none⟩) (show w.heap.size + 1 < w1.heap.size by omega)).trans ((hb1.cell (p := ⟨w.heap.size + 1, 0, none⟩) (by simp)).trans (by simp))))
  have cw1_0 : W0.cell? ⟨w.heap.size + 1, 1, none⟩ = some (.int .u64 b1) := (t0 _ _ (by omega)).trans ((hb2.cell (p := ⟨w.heap.size + 1, 1, none⟩) (by simp; omega)).trans ((((Below.refl _ w1).alloc (Nat.le_refl _) _).cell (p := ⟨w.heap.size + 1, 1, none⟩) (show w.heap.size + 1 < w1.heap.size by omega)).trans ((hb1.cell (p := ⟨w.heap.size + 1, 1, none⟩) (by simp)).trans (by simp))))
  have cw2_0 : W0.cell? ⟨w.heap.size + 1, 2, none⟩ = some (.int .u64 b2) := (t0 _ _ (by omega)).trans ((hb2.cell (p := ⟨w.heap.size + 1, 2, none⟩) (by simp; omega)).trans ((((Below.refl _ w1).alloc (Nat.le_refl _) _).cell (p := ⟨w.heap.size + 1, 2, none⟩) (show w.heap.size + 1 < w1.heap.size by omega)).trans ((hb1.cell (p := ⟨w.heap.size + 1, 2, none⟩) (by simp)).trans (by simp))))
  have cw3_0 : W0.cell? ⟨w.heap.size + 1, 3, none⟩ = some (.int .u64 b3) := (t0 _ _ (by omega)).trans ((hb2.cell (p := ⟨w.heap.size + 1, 3, none⟩) (by simp; omega)).trans ((((Below.refl _ w1).alloc (Nat.le_refl _) _).cell (p := ⟨w.heap.size + 1, 3, none⟩) (show w.heap.size + 1 < w1.heap.size by omega)).trans ((hb1.cell (p := ⟨w.heap.size + 1, 3, none⟩) (by simp)).trans (by simp))))
  have cx0_0 : W0.cell? ⟨w1.heap.size, 0, none⟩ = some (.int .u64 X0) := (t0 _ _ (by omega)).trans ((hb2.cell (p := ⟨w1.heap.size, 0, none⟩) (by simp)).trans (by simp))
  have cx1_0 : W0.cell? ⟨w1.heap.size, 1, none⟩ = some (.int .u64 X1) := (t0 _ _ (by omega)).trans ((hb2.cell (p := ⟨w1.heap.size, 1, none⟩) (by simp)).trans (by simp))
  have cx2_0 : W0.cell? ⟨w1.heap.size, 2, none⟩ = some (.int .u64 X2) := (t0 _ _ (by omega)).trans ((hb2.cell (p := ⟨w1.heap.size, 2, none⟩) (by simp)).trans (by simp))
  have cx3_0 : W0.cell? ⟨w1.heap.size, 3, none⟩ = some (.int .u64 a8) := (t0 _ _ (by omega)).trans ((hb2.cell (p := ⟨w1.heap.size, 3, none⟩) (by simp)).trans (by simp))
  have cg0_0 : W0.cell? ⟨w2.heap.size, 0, none⟩ = some (.int .i32 G0) := by rw [hW0]; simp
  have cg1_0 : W0.cell? ⟨w2.heap.size, 1, none⟩ = some (.int .u8 G1) := by rw [hW0]; simp
  have cg2_0 : W0.cell? ⟨w2.heap.size, 2, none⟩ = some (.int .u8 G2) := by rw [hW0]; simp
  have cg3_0 : W0.cell? ⟨w2.heap.size, 3, none⟩ = some (.int .u16 G3) := by rw [hW0]; simp
  have cg4_0 : W0.cell? ⟨w2.heap.size, 4, none⟩ = some (.int .i32 G4) := by rw [hW0]; simp
  have cg5_0 : W0.cell? ⟨w2.heap.size, 5, none⟩ = some (.int .i32 G5) := by rw [hW0]; simp
  have cg6_0 : W0.cell? ⟨w2.heap.size, 6, none⟩ = some (.int .i32 G6) := by rw [hW0]; simp
  have cg7_0 : W0.cell? ⟨w2.heap.size, 7, none⟩ = some (.int .i32 G7) := by rw [hW0]; simp
  have cg8_0 : W0.cell? ⟨w2.heap.size, 8, none⟩ = some (.int .u64 b3) := by rw [hW0]; simp
  have hsW : W0.heap.size = w2.heap.size + 1 := by rw [hW0]; simp
  have nf_0 : w.heap.size < W0.heap.size := by omega
  have nw_0 : w.heap.size + 1 < W0.heap.size := by omega
  have nx_0 : w1.heap.size < W0.heap.size := by omega
  have ng_0 : w2.heap.size < W0.heap.size := by omega
  have hBW : Below w.heap.size w W0 := by
    have h1 : Below w.heap.size w w1 := (((Below.refl _ w).alloc (Nat.le_refl _) _).alloc (by simp) _).trans (hb1.mono (by simp; omega))
    have h2 : Below w.heap.size w w2 := (h1.alloc (by omega) _).trans (hb2.mono (by simp; omega))
    rw [hW0]
    exact h2.alloc (by omega) _
  have HBW := Lib.hid hBW
  clear hW0 t0 hb1 hb2 hBW k0 k1 k2 k3 hsW
  have h1 := fun W => words_same X0 X1 X2 a8 W
  have h2 := fun W => frame_same a0 a1 a2 a3 a4 a5 a6 a7 a8 W
  have h3 := fun W => frame_same G0 G1 G2 G3 G4 G5 G6 G7 b3 W
  have h4 := fun W => words_same b0 b1 b2 b3 W
  go_region_held_law (fun w' => w'.cell? ⟨w.heap.size, 0, none⟩ = some (.int .i32 a0) ∧ w'.cell? ⟨w.heap.size, 1, none⟩ = some (.int .u8 a1) ∧ w'.cell? ⟨w.heap.size, 2, none⟩ = some (.int .u8 a2) ∧ w'.cell? ⟨w.heap.size, 3, none⟩ = some (.int .u16 a3) ∧ w'.cell? ⟨w.heap.size, 4, none⟩ = some (.int .i32 a4) ∧ w'.cell? ⟨w.heap.size, 5, none⟩ = some (.int .i32 a5) ∧ w'.cell? ⟨w.heap.size, 6, none⟩ = some (.int .i32 a6) ∧ w'.cell? ⟨w.heap.size, 7, none⟩ = some (.int .i32 a7) ∧ w'.cell? ⟨w.heap.size, 8, none⟩ = some (.int .u64 a8) ∧ w'.cell? ⟨w.heap.size + 1, 0, none⟩ = some (.int .u64 b0) ∧ w'.cell? ⟨w.heap.size + 1, 1, none⟩ = some (.int .u64 b1) ∧ w'.cell? ⟨w.heap.size + 1, 2, none⟩ = some (.int .u64 b2) ∧ w'.cell? ⟨w.heap.size + 1, 3, none⟩ = some (.int .u64 b3) ∧ w'.cell? ⟨w1.heap.size, 0, none⟩ = some (.int .u64 X0) ∧ w'.cell? ⟨w1.heap.size, 1, none⟩ = some (.int .u64 X1) ∧ w'.cell? ⟨w1.heap.size, 2, none⟩ = some (.int .u64 X2) ∧ w'.cell? ⟨w1.heap.size, 3, none⟩ = some (.int .u64 a8) ∧ w'.cell? ⟨w2.heap.size, 0, none⟩ = some (.int .i32 G0) ∧ w'.cell? ⟨w2.heap.size, 1, none⟩ = some (.int .u8 G1) ∧ w'.cell? ⟨w2.heap.size, 2, none⟩ = some (.int .u8 G2) ∧ w'.cell? ⟨w2.heap.size, 3, none⟩ = some (.int .u16 G3) ∧ w'.cell? ⟨w2.heap.size, 4, none⟩ = some (.int .i32 G4) ∧ w'.cell? ⟨w2.heap.size, 5, none⟩ = some (.int .i32 G5) ∧ w'.cell? ⟨w2.heap.size, 6, none⟩ = some (.int .i32 G6) ∧ w'.cell? ⟨w2.heap.size, 7, none⟩ = some (.int .i32 G7) ∧ w'.cell? ⟨w2.heap.size, 8, none⟩ = some (.int .u64 b3))
    (first
      | go_keep
      | exact KA
      | exact KB
      | exact KC
      | exact KD)
    (first
      | (go_simp; go_at_call 16; refine ((HC _).out).mono ?_; rintro e y1 ⟨rfl, hy1⟩; have l1 := hy1.size; have cf0_1 : y1.cell? ⟨w.heap.size, 0, none⟩ = some (.int .i32 a0) := (hy1.cell (p := ⟨w.heap.size, 0, none⟩) nf_0).trans cf0_0; have cf1_1 : y1.cell? ⟨w.heap.size, 1, none⟩ = some (.int .u8 a1) := (hy1.cell (p := ⟨w.heap.size, 1, none⟩) nf_0).trans cf1_0; have cf2_1 : y1.cell? ⟨w.heap.size, 2, none⟩ = some (.int .u8 a2) := (hy1.cell (p := ⟨w.heap.size, 2, none⟩) nf_0).trans cf2_0; have cf3_1 : y1.cell? ⟨w.heap.size, 3, none⟩ = some (.int .u16 a3) := (hy1.cell (p := ⟨w.heap.size, 3, none⟩) nf_0).trans cf3_0; have cf4_1 : y1.cell? ⟨w.heap.size, 4, none⟩ = some (.int .i32 a4) := (hy1.cell (p := ⟨w.heap.size, 4, none⟩) nf_0).trans cf4_0; have cf5_1 : y1.cell? ⟨w.heap.size, 5, none⟩ = some (.int .i32 a5) := (hy1.cell (p := ⟨w.heap.size, 5, none⟩) nf_0).trans cf5_0; have cf6_1 : y1.cell? ⟨w.heap.size, 6, none⟩ = some (.int .i32 a6) := (hy1.cell (p := ⟨w.heap.size, 6, none⟩) nf_0).trans cf6_0; have cf7_1 : y1.cell? ⟨w.heap.size, 7, none⟩ = some (.int .i32 a7) := (hy1.cell (p := ⟨w.heap.size, 7, none⟩) nf_0).trans cf7_0; have cf8_1 : y1.cell? ⟨w.heap.size, 8, none⟩ = some (.int .u64 a8) := (hy1.cell (p := ⟨w.heap.size, 8, none⟩) nf_0).trans cf8_0; have cw0_1 : y1.cell? ⟨w.heap.size + 1, 0, none⟩ = some (.int .u64 b0) := (hy1.cell (p := ⟨w.heap.size + 1, 0, none⟩) nw_0).trans cw0_0; have cw1_1 : y1.cell? ⟨w.heap.size + 1, 1, none⟩ = some (.int .u64 b1) := (hy1.cell (p := ⟨w.heap.size + 1, 1, none⟩) nw_0).trans cw1_0; have cw2_1 : y1.cell? ⟨w.heap.size + 1, 2, none⟩ = some (.int .u64 b2) := (hy1.cell (p := ⟨w.heap.size + 1, 2, none⟩) nw_0).trans cw2_0; have cw3_1 : y1.cell? ⟨w.heap.size + 1, 3, none⟩ = some (.int .u64 b3) := (hy1.cell (p := ⟨w.heap.size + 1, 3, none⟩) nw_0).trans cw3_0; have cx0_1 : y1.cell? ⟨w1.heap.size, 0, none⟩ = some (.int .u64 X0) := (hy1.cell (p := ⟨w1.heap.size, 0, none⟩) nx_0).trans cx0_0; have cx1_1 : y1.cell? ⟨w1.heap.size, 1, none⟩ = some (.int .u64 X1) := (hy1.cell (p := ⟨w1.heap.size, 1, none⟩) nx_0).trans cx1_0; have cx2_1 : y1.cell? ⟨w1.heap.size, 2, none⟩ = some (.int .u64 X2) := (hy1.cell (p := ⟨w1.heap.size, 2, none⟩) nx_0).trans cx2_0; have cx3_1 : y1.cell? ⟨w1.heap.size, 3, none⟩ = some (.int .u64 a8) := (hy1.cell (p := ⟨w1.heap.size, 3, none⟩) nx_0).trans cx3_0; have cg0_1 : y1.cell? ⟨w2.heap.size, 0, none⟩ = some (.int .i32 G0) := (hy1.cell (p := ⟨w2.heap.size, 0, none⟩) ng_0).trans cg0_0; have cg1_1 : y1.cell? ⟨w2.heap.size, 1, none⟩ = some (.int .u8 G1) := (hy1.cell (p := ⟨w2.heap.size, 1, none⟩) ng_0).trans cg1_0; have cg2_1 : y1.cell? ⟨w2.heap.size, 2, none⟩ = some (.int .u8 G2) := (hy1.cell (p := ⟨w2.heap.size, 2, none⟩) ng_0).trans cg2_0; have cg3_1 : y1.cell? ⟨w2.heap.size, 3, none⟩ = some (.int .u16 G3) := (hy1.cell (p := ⟨w2.heap.size, 3, none⟩) ng_0).trans cg3_0; have cg4_1 : y1.cell? ⟨w2.heap.size, 4, none⟩ = some (.int .i32 G4) := (hy1.cell (p := ⟨w2.heap.size, 4, none⟩) ng_0).trans cg4_0; have cg5_1 : y1.cell? ⟨w2.heap.size, 5, none⟩ = some (.int .i32 G5) := (hy1.cell (p := ⟨w2.heap.size, 5, none⟩) ng_0).trans cg5_0; have cg6_1 : y1.cell? ⟨w2.heap.size, 6, none⟩ = some (.int .i32 G6) := (hy1.cell (p := ⟨w2.heap.size, 6, none⟩) ng_0).trans cg6_0; have cg7_1 : y1.cell? ⟨w2.heap.size, 7, none⟩ = some (.int .i32 G7) := (hy1.cell (p := ⟨w2.heap.size, 7, none⟩) ng_0).trans cg7_0; have cg8_1 : y1.cell? ⟨w2.heap.size, 8, none⟩ = some (.int .u64 b3) := (hy1.cell (p := ⟨w2.heap.size, 8, none⟩) ng_0).trans cg8_0; have nf_1 : w.heap.size < y1.heap.size := Nat.lt_of_lt_of_le nf_0 l1; have nw_1 : w.heap.size + 1 < y1.heap.size := Nat.lt_of_lt_of_le nw_0 l1; have nx_1 : w1.heap.size < y1.heap.size := Nat.lt_of_lt_of_le nx_0 l1; have ng_1 : w2.heap.size < y1.heap.size := Nat.lt_of_lt_of_le ng_0 l1; have KA : y1.cell? ⟨w.heap.size, 0, none⟩ = some (.int .i32 a0) ∧ y1.cell? ⟨w.heap.size, 1, none⟩ = some (.int .u8 a1) ∧ y1.cell? ⟨w.heap.size, 2, none⟩ = some (.int .u8 a2) ∧ y1.cell? ⟨w.heap.size, 3, none⟩ = some (.int .u16 a3) ∧ y1.cell? ⟨w.heap.size, 4, none⟩ = some (.int .i32 a4) ∧ y1.cell? ⟨w.heap.size, 5, none⟩ = some (.int .i32 a5) ∧ y1.cell? ⟨w.heap.size, 6, none⟩ = some (.int .i32 a6) ∧ y1.cell? ⟨w.heap.size, 7, none⟩ = some (.int .i32 a7) ∧ y1.cell? ⟨w.heap.size, 8, none⟩ = some (.int .u64 a8) ∧ y1.cell? ⟨w.heap.size + 1, 0, none⟩ = some (.int .u64 b0) ∧ y1.cell? ⟨w.heap.size + 1, 1, none⟩ = some (.int .u64 b1) ∧ y1.cell? ⟨w.heap.size + 1, 2, none⟩ = some (.int .u64 b2) ∧ y1.cell? ⟨w.heap.size + 1, 3, none⟩ = some (.int .u64 b3) ∧ y1.cell? ⟨w1.heap.size, 0, none⟩ = some (.int .u64 X0) ∧ y1.cell? ⟨w1.heap.size, 1, none⟩ = some (.int .u64 X1) ∧ y1.cell? ⟨w1.heap.size, 2, none⟩ = some (.int .u64 X2) ∧ y1.cell? ⟨w1.heap.size, 3, none⟩ = some (.int .u64 a8) ∧ y1.cell? ⟨w2.heap.size, 0, none⟩ = some (.int .i32 G0) ∧ y1.cell? ⟨w2.heap.size, 1, none⟩ = some (.int .u8 G1) ∧ y1.cell? ⟨w2.heap.size, 2, none⟩ = some (.int .u8 G2) ∧ y1.cell? ⟨w2.heap.size, 3, none⟩ = some (.int .u16 G3) ∧ y1.cell? ⟨w2.heap.size, 4, none⟩ = some (.int .i32 G4) ∧ y1.cell? ⟨w2.heap.size, 5, none⟩ = some (.int .i32 G5) ∧ y1.cell? ⟨w2.heap.size, 6, none⟩ = some (.int .i32 G6) ∧ y1.cell? ⟨w2.heap.size, 7, none⟩ = some (.int .i32 G7) ∧ y1.cell? ⟨w2.heap.size, 8, none⟩ = some (.int .u64 b3) := ⟨cf0_1, cf1_1, cf2_1, cf3_1, cf4_1, cf5_1, cf6_1, cf7_1, cf8_1, cw0_1, cw1_1, cw2_1, cw3_1, cx0_1, cx1_1, cx2_1, cx3_1, cg0_1, cg1_1, cg2_1, cg3_1, cg4_1, cg5_1, cg6_1, cg7_1, cg8_1⟩)
      | (go_simp; go_at_call 15; refine ((HD _).out).mono ?_; rintro e y2 ⟨rfl, hy2⟩; have l2 := hy2.size; have cf0_2 : y2.cell? ⟨w.heap.size, 0, none⟩ = some (.int .i32 a0) := (hy2.cell (p := ⟨w.heap.size, 0, none⟩) nf_1).trans cf0_1; have cf1_2 : y2.cell? ⟨w.heap.size, 1, none⟩ = some (.int .u8 a1) := (hy2.cell (p := ⟨w.heap.size, 1, none⟩) nf_1).trans cf1_1; have cf2_2 : y2.cell? ⟨w.heap.size, 2, none⟩ = some (.int .u8 a2) := (hy2.cell (p := ⟨w.heap.size, 2, none⟩) nf_1).trans cf2_1; have cf3_2 : y2.cell? ⟨w.heap.size, 3, none⟩ = some (.int .u16 a3) := (hy2.cell (p := ⟨w.heap.size, 3, none⟩) nf_1).trans cf3_1; have cf4_2 : y2.cell? ⟨w.heap.size, 4, none⟩ = some (.int .i32 a4) := (hy2.cell (p := ⟨w.heap.size, 4, none⟩) nf_1).trans cf4_1; have cf5_2 : y2.cell? ⟨w.heap.size, 5, none⟩ = some (.int .i32 a5) := (hy2.cell (p := ⟨w.heap.size, 5, none⟩) nf_1).trans cf5_1; have cf6_2 : y2.cell? ⟨w.heap.size, 6, none⟩ = some (.int .i32 a6) := (hy2.cell (p := ⟨w.heap.size, 6, none⟩) nf_1).trans cf6_1; have cf7_2 : y2.cell? ⟨w.heap.size, 7, none⟩ = some (.int .i32 a7) := (hy2.cell (p := ⟨w.heap.size, 7, none⟩) nf_1).trans cf7_1; have cf8_2 : y2.cell? ⟨w.heap.size, 8, none⟩ = some (.int .u64 a8) := (hy2.cell (p := ⟨w.heap.size, 8, none⟩) nf_1).trans cf8_1; have cw0_2 : y2.cell? ⟨w.heap.size + 1, 0, none⟩ = some (.int .u64 b0) := (hy2.cell (p := ⟨w.heap.size + 1, 0, none⟩) nw_1).trans cw0_1; have cw1_2 : y2.cell? ⟨w.heap.size + 1, 1, none⟩ = some (.int .u64 b1) := (hy2.cell (p := ⟨w.heap.size + 1, 1, none⟩) nw_1).trans cw1_1; have cw2_2 : y2.cell? ⟨w.heap.size + 1, 2, none⟩ = some (.int .u64 b2) := (hy2.cell (p := ⟨w.heap.size + 1, 2, none⟩) nw_1).trans cw2_1; have cw3_2 : y2.cell? ⟨w.heap.size + 1, 3, none⟩ = some (.int .u64 b3) := (hy2.cell (p := ⟨w.heap.size + 1, 3, none⟩) nw_1).trans cw3_1; have cx0_2 : y2.cell? ⟨w1.heap.size, 0, none⟩ = some (.int .u64 X0) := (hy2.cell (p := ⟨w1.heap.size, 0, none⟩) nx_1).trans cx0_1; have cx1_2 : y2.cell? ⟨w1.heap.size, 1, none⟩ = some (.int .u64 X1) := (hy2.cell (p := ⟨w1.heap.size, 1, none⟩) nx_1).trans cx1_1; have cx2_2 : y2.cell? ⟨w1.heap.size, 2, none⟩ = some (.int .u64 X2) := (hy2.cell (p := ⟨w1.heap.size, 2, none⟩) nx_1).trans cx2_1; have cx3_2 : y2.cell? ⟨w1.heap.size, 3, none⟩ = some (.int .u64 a8) := (hy2.cell (p := ⟨w1.heap.size, 3, none⟩) nx_1).trans cx3_1; have cg0_2 : y2.cell? ⟨w2.heap.size, 0, none⟩ = some (.int .i32 G0) := (hy2.cell (p := ⟨w2.heap.size, 0, none⟩) ng_1).trans cg0_1; have cg1_2 : y2.cell? ⟨w2.heap.size, 1, none⟩ = some (.int .u8 G1) := (hy2.cell (p := ⟨w2.heap.size, 1, none⟩) ng_1).trans cg1_1; have cg2_2 : y2.cell? ⟨w2.heap.size, 2, none⟩ = some (.int .u8 G2) := (hy2.cell (p := ⟨w2.heap.size, 2, none⟩) ng_1).trans cg2_1; have cg3_2 : y2.cell? ⟨w2.heap.size, 3, none⟩ = some (.int .u16 G3) := (hy2.cell (p := ⟨w2.heap.size, 3, none⟩) ng_1).trans cg3_1; have cg4_2 : y2.cell? ⟨w2.heap.size, 4, none⟩ = some (.int .i32 G4) := (hy2.cell (p := ⟨w2.heap.size, 4, none⟩) ng_1).trans cg4_1; have cg5_2 : y2.cell? ⟨w2.heap.size, 5, none⟩ = some (.int .i32 G5) := (hy2.cell (p := ⟨w2.heap.size, 5, none⟩) ng_1).trans cg5_1; have cg6_2 : y2.cell? ⟨w2.heap.size, 6, none⟩ = some (.int .i32 G6) := (hy2.cell (p := ⟨w2.heap.size, 6, none⟩) ng_1).trans cg6_1; have cg7_2 : y2.cell? ⟨w2.heap.size, 7, none⟩ = some (.int .i32 G7) := (hy2.cell (p := ⟨w2.heap.size, 7, none⟩) ng_1).trans cg7_1; have cg8_2 : y2.cell? ⟨w2.heap.size, 8, none⟩ = some (.int .u64 b3) := (hy2.cell (p := ⟨w2.heap.size, 8, none⟩) ng_1).trans cg8_1; have nf_2 : w.heap.size < y2.heap.size := Nat.lt_of_lt_of_le nf_1 l2; have nw_2 : w.heap.size + 1 < y2.heap.size := Nat.lt_of_lt_of_le nw_1 l2; have nx_2 : w1.heap.size < y2.heap.size := Nat.lt_of_lt_of_le nx_1 l2; have ng_2 : w2.heap.size < y2.heap.size := Nat.lt_of_lt_of_le ng_1 l2; have KB : y2.cell? ⟨w.heap.size, 0, none⟩ = some (.int .i32 a0) ∧ y2.cell? ⟨w.heap.size, 1, none⟩ = some (.int .u8 a1) ∧ y2.cell? ⟨w.heap.size, 2, none⟩ = some (.int .u8 a2) ∧ y2.cell? ⟨w.heap.size, 3, none⟩ = some (.int .u16 a3) ∧ y2.cell? ⟨w.heap.size, 4, none⟩ = some (.int .i32 a4) ∧ y2.cell? ⟨w.heap.size, 5, none⟩ = some (.int .i32 a5) ∧ y2.cell? ⟨w.heap.size, 6, none⟩ = some (.int .i32 a6) ∧ y2.cell? ⟨w.heap.size, 7, none⟩ = some (.int .i32 a7) ∧ y2.cell? ⟨w.heap.size, 8, none⟩ = some (.int .u64 a8) ∧ y2.cell? ⟨w.heap.size + 1, 0, none⟩ = some (.int .u64 b0) ∧ y2.cell? ⟨w.heap.size + 1, 1, none⟩ = some (.int .u64 b1) ∧ y2.cell? ⟨w.heap.size + 1, 2, none⟩ = some (.int .u64 b2) ∧ y2.cell? ⟨w.heap.size + 1, 3, none⟩ = some (.int .u64 b3) ∧ y2.cell? ⟨w1.heap.size, 0, none⟩ = some (.int .u64 X0) ∧ y2.cell? ⟨w1.heap.size, 1, none⟩ = some (.int .u64 X1) ∧ y2.cell? ⟨w1.heap.size, 2, none⟩ = some (.int .u64 X2) ∧ y2.cell? ⟨w1.heap.size, 3, none⟩ = some (.int .u64 a8) ∧ y2.cell? ⟨w2.heap.size, 0, none⟩ = some (.int .i32 G0) ∧ y2.cell? ⟨w2.heap.size, 1, none⟩ = some (.int .u8 G1) ∧ y2.cell? ⟨w2.heap.size, 2, none⟩ = some (.int .u8 G2) ∧ y2.cell? ⟨w2.heap.size, 3, none⟩ = some (.int .u16 G3) ∧ y2.cell? ⟨w2.heap.size, 4, none⟩ = some (.int .i32 G4) ∧ y2.cell? ⟨w2.heap.size, 5, none⟩ = some (.int .i32 G5) ∧ y2.cell? ⟨w2.heap.size, 6, none⟩ = some (.int .i32 G6) ∧ y2.cell? ⟨w2.heap.size, 7, none⟩ = some (.int .i32 G7) ∧ y2.cell? ⟨w2.heap.size, 8, none⟩ = some (.int .u64 b3) := ⟨cf0_2, cf1_2, cf2_2, cf3_2, cf4_2, cf5_2, cf6_2, cf7_2, cf8_2, cw0_2, cw1_2, cw2_2, cw3_2, cx0_2, cx1_2, cx2_2, cx3_2, cg0_2, cg1_2, cg2_2, cg3_2, cg4_2, cg5_2, cg6_2, cg7_2, cg8_2⟩)
      | (go_simp; go_at_call 17; refine ((HE _).out).mono ?_; rintro e y3 ⟨rfl, hy3⟩; have l3 := hy3.size; have cf0_3 : y3.cell? ⟨w.heap.size, 0, none⟩ = some (.int .i32 a0) := (hy3.cell (p := ⟨w.heap.size, 0, none⟩) nf_2).trans cf0_2; have cf1_3 : y3.cell? ⟨w.heap.size, 1, none⟩ = some (.int .u8 a1) := (hy3.cell (p := ⟨w.heap.size, 1, none⟩) nf_2).trans cf1_2; have cf2_3 : y3.cell? ⟨w.heap.size, 2, none⟩ = some (.int .u8 a2) := (hy3.cell (p := ⟨w.heap.size, 2, none⟩) nf_2).trans cf2_2; have cf3_3 : y3.cell? ⟨w.heap.size, 3, none⟩ = some (.int .u16 a3) := (hy3.cell (p := ⟨w.heap.size, 3, none⟩) nf_2).trans cf3_2; have cf4_3 : y3.cell? ⟨w.heap.size, 4, none⟩ = some (.int .i32 a4) := (hy3.cell (p := ⟨w.heap.size, 4, none⟩) nf_2).trans cf4_2; have cf5_3 : y3.cell? ⟨w.heap.size, 5, none⟩ = some (.int .i32 a5) := (hy3.cell (p := ⟨w.heap.size, 5, none⟩) nf_2).trans cf5_2; have cf6_3 : y3.cell? ⟨w.heap.size, 6, none⟩ = some (.int .i32 a6) := (hy3.cell (p := ⟨w.heap.size, 6, none⟩) nf_2).trans cf6_2; have cf7_3 : y3.cell? ⟨w.heap.size, 7, none⟩ = some (.int .i32 a7) := (hy3.cell (p := ⟨w.heap.size, 7, none⟩) nf_2).trans cf7_2; have cf8_3 : y3.cell? ⟨w.heap.size, 8, none⟩ = some (.int .u64 a8) := (hy3.cell (p := ⟨w.heap.size, 8, none⟩) nf_2).trans cf8_2; have cw0_3 : y3.cell? ⟨w.heap.size + 1, 0, none⟩ = some (.int .u64 b0) := (hy3.cell (p := ⟨w.heap.size + 1, 0, none⟩) nw_2).trans cw0_2; have cw1_3 : y3.cell? ⟨w.heap.size + 1, 1, none⟩ = some (.int .u64 b1) := (hy3.cell (p := ⟨w.heap.size + 1, 1, none⟩) nw_2).trans cw1_2; have cw2_3 : y3.cell? ⟨w.heap.size + 1, 2, none⟩ = some (.int .u64 b2) := (hy3.cell (p := ⟨w.heap.size + 1, 2, none⟩) nw_2).trans cw2_2; have cw3_3 : y3.cell? ⟨w.heap.size + 1, 3, none⟩ = some (.int .u64 b3) := (hy3.cell (p := ⟨w.heap.size + 1, 3, none⟩) nw_2).trans cw3_2; have cx0_3 : y3.cell? ⟨w1.heap.size, 0, none⟩ = some (.int .u64 X0) := (hy3.cell (p := ⟨w1.heap.size, 0, none⟩) nx_2).trans cx0_2; have cx1_3 : y3.cell? ⟨w1.heap.size, 1, none⟩ = some (.int .u64 X1) := (hy3.cell (p := ⟨w1.heap.size, 1, none⟩) nx_2).trans cx1_2; have cx2_3 : y3.cell? ⟨w1.heap.size, 2, none⟩ = some (.int .u64 X2) := (hy3.cell (p := ⟨w1.heap.size, 2, none⟩) nx_2).trans cx2_2; have cx3_3 : y3.cell? ⟨w1.heap.size, 3, none⟩ = some (.int .u64 a8) := (hy3.cell (p := ⟨w1.heap.size, 3, none⟩) nx_2).trans cx3_2; have cg0_3 : y3.cell? ⟨w2.heap.size, 0, none⟩ = some (.int .i32 G0) := (hy3.cell (p := ⟨w2.heap.size, 0, none⟩) ng_2).trans cg0_2; have cg1_3 : y3.cell? ⟨w2.heap.size, 1, none⟩ = some (.int .u8 G1) := (hy3.cell (p := ⟨w2.heap.size, 1, none⟩) ng_2).trans cg1_2; have cg2_3 : y3.cell? ⟨w2.heap.size, 2, none⟩ = some (.int .u8 G2) := (hy3.cell (p := ⟨w2.heap.size, 2, none⟩) ng_2).trans cg2_2; have cg3_3 : y3.cell? ⟨w2.heap.size, 3, none⟩ = some (.int .u16 G3) := (hy3.cell (p := ⟨w2.heap.size, 3, none⟩) ng_2).trans cg3_2; have cg4_3 : y3.cell? ⟨w2.heap.size, 4, none⟩ = some (.int .i32 G4) := (hy3.cell (p := ⟨w2.heap.size, 4, none⟩) ng_2).trans cg4_2; have cg5_3 : y3.cell? ⟨w2.heap.size, 5, none⟩ = some (.int .i32 G5) := (hy3.cell (p := ⟨w2.heap.size, 5, none⟩) ng_2).trans cg5_2; have cg6_3 : y3.cell? ⟨w2.heap.size, 6, none⟩ = some (.int .i32 G6) := (hy3.cell (p := ⟨w2.heap.size, 6, none⟩) ng_2).trans cg6_2; have cg7_3 : y3.cell? ⟨w2.heap.size, 7, none⟩ = some (.int .i32 G7) := (hy3.cell (p := ⟨w2.heap.size, 7, none⟩) ng_2).trans cg7_2; have cg8_3 : y3.cell? ⟨w2.heap.size, 8, none⟩ = some (.int .u64 b3) := (hy3.cell (p := ⟨w2.heap.size, 8, none⟩) ng_2).trans cg8_2; have nf_3 : w.heap.size < y3.heap.size := Nat.lt_of_lt_of_le nf_2 l3; have nw_3 : w.heap.size + 1 < y3.heap.size := Nat.lt_of_lt_of_le nw_2 l3; have nx_3 : w1.heap.size < y3.heap.size := Nat.lt_of_lt_of_le nx_2 l3; have ng_3 : w2.heap.size < y3.heap.size := Nat.lt_of_lt_of_le ng_2 l3; have KC : y3.cell? ⟨w.heap.size, 0, none⟩ = some (.int .i32 a0) ∧ y3.cell? ⟨w.heap.size, 1, none⟩ = some (.int .u8 a1) ∧ y3.cell? ⟨w.heap.size, 2, none⟩ = some (.int .u8 a2) ∧ y3.cell? ⟨w.heap.size, 3, none⟩ = some (.int .u16 a3) ∧ y3.cell? ⟨w.heap.size, 4, none⟩ = some (.int .i32 a4) ∧ y3.cell? ⟨w.heap.size, 5, none⟩ = some (.int .i32 a5) ∧ y3.cell? ⟨w.heap.size, 6, none⟩ = some (.int .i32 a6) ∧ y3.cell? ⟨w.heap.size, 7, none⟩ = some (.int .i32 a7) ∧ y3.cell? ⟨w.heap.size, 8, none⟩ = some (.int .u64 a8) ∧ y3.cell? ⟨w.heap.size + 1, 0, none⟩ = some (.int .u64 b0) ∧ y3.cell? ⟨w.heap.size + 1, 1, none⟩ = some (.int .u64 b1) ∧ y3.cell? ⟨w.heap.size + 1, 2, none⟩ = some (.int .u64 b2) ∧ y3.cell? ⟨w.heap.size + 1, 3, none⟩ = some (.int .u64 b3) ∧ y3.cell? ⟨w1.heap.size, 0, none⟩ = some (.int .u64 X0) ∧ y3.cell? ⟨w1.heap.size, 1, none⟩ = some (.int .u64 X1) ∧ y3.cell? ⟨w1.heap.size, 2, none⟩ = some (.int .u64 X2) ∧ y3.cell? ⟨w1.heap.size, 3, none⟩ = some (.int .u64 a8) ∧ y3.cell? ⟨w2.heap.size, 0, none⟩ = some (.int .i32 G0) ∧ y3.cell? ⟨w2.heap.size, 1, none⟩ = some (.int .u8 G1) ∧ y3.cell? ⟨w2.heap.size, 2, none⟩ = some (.int .u8 G2) ∧ y3.cell? ⟨w2.heap.size, 3, none⟩ = some (.int .u16 G3) ∧ y3.cell? ⟨w2.heap.size, 4, none⟩ = some (.int .i32 G4) ∧ y3.cell? ⟨w2.heap.size, 5, none⟩ = some (.int .i32 G5) ∧ y3.cell? ⟨w2.heap.size, 6, none⟩ = some (.int .i32 G6) ∧ y3.cell? ⟨w2.heap.size, 7, none⟩ = some (.int .i32 G7) ∧ y3.cell? ⟨w2.heap.size, 8, none⟩ = some (.int .u64 b3) := ⟨cf0_3, cf1_3, cf2_3, cf3_3, cf4_3, cf5_3, cf6_3, cf7_3, cf8_3, cw0_3, cw1_3, cw2_3, cw3_3, cx0_3, cx1_3, cx2_3, cx3_3, cg0_3, cg1_3, cg2_3, cg3_3, cg4_3, cg5_3, cg6_3, cg7_3, cg8_3⟩)
      | (go_simp; go_at_call 14; refine ((HG _).out).mono ?_; rintro e y4 ⟨rfl, hy4⟩; have l4 := hy4.size; have cf0_4 : y4.cell? ⟨w.heap.size, 0, none⟩ = some (.int .i32 a0) := (hy4.cell (p := ⟨w.heap.size, 0, none⟩) nf_3).trans cf0_3; have cf1_4 : y4.cell? ⟨w.heap.size, 1, none⟩ = some (.int .u8 a1) := (hy4.cell (p := ⟨w.heap.size, 1, none⟩) nf_3).trans cf1_3; have cf2_4 : y4.cell? ⟨w.heap.size, 2, none⟩ = some (.int .u8 a2) := (hy4.cell (p := ⟨w.heap.size, 2, none⟩) nf_3).trans cf2_3; have cf3_4 : y4.cell? ⟨w.heap.size, 3, none⟩ = some (.int .u16 a3) := (hy4.cell (p := ⟨w.heap.size, 3, none⟩) nf_3).trans cf3_3; have cf4_4 : y4.cell? ⟨w.heap.size, 4, none⟩ = some (.int .i32 a4) := (hy4.cell (p := ⟨w.heap.size, 4, none⟩) nf_3).trans cf4_3; have cf5_4 : y4.cell? ⟨w.heap.size, 5, none⟩ = some (.int .i32 a5) := (hy4.cell (p := ⟨w.heap.size, 5, none⟩) nf_3).trans cf5_3; have cf6_4 : y4.cell? ⟨w.heap.size, 6, none⟩ = some (.int .i32 a6) := (hy4.cell (p := ⟨w.heap.size, 6, none⟩) nf_3).trans cf6_3; have cf7_4 : y4.cell? ⟨w.heap.size, 7, none⟩ = some (.int .i32 a7) := (hy4.cell (p := ⟨w.heap.size, 7, none⟩) nf_3).trans cf7_3; have cf8_4 : y4.cell? ⟨w.heap.size, 8, none⟩ = some (.int .u64 a8) := (hy4.cell (p := ⟨w.heap.size, 8, none⟩) nf_3).trans cf8_3; have cw0_4 : y4.cell? ⟨w.heap.size + 1, 0, none⟩ = some (.int .u64 b0) := (hy4.cell (p := ⟨w.heap.size + 1, 0, none⟩) nw_3).trans cw0_3; have cw1_4 : y4.cell? ⟨w.heap.size + 1, 1, none⟩ = some (.int .u64 b1) := (hy4.cell (p := ⟨w.heap.size + 1, 1, none⟩) nw_3).trans cw1_3; have cw2_4 : y4.cell? ⟨w.heap.size + 1, 2, none⟩ = some (.int .u64 b2) := (hy4.cell (p := ⟨w.heap.size + 1, 2, none⟩) nw_3).trans cw2_3; have cw3_4 : y4.cell? ⟨w.heap.size + 1, 3, none⟩ = some (.int .u64 b3) := (hy4.cell (p := ⟨w.heap.size + 1, 3, none⟩) nw_3).trans cw3_3; have cx0_4 : y4.cell? ⟨w1.heap.size, 0, none⟩ = some (.int .u64 X0) := (hy4.cell (p := ⟨w1.heap.size, 0, none⟩) nx_3).trans cx0_3; have cx1_4 : y4.cell? ⟨w1.heap.size, 1, none⟩ = some (.int .u64 X1) := (hy4.cell (p := ⟨w1.heap.size, 1, none⟩) nx_3).trans cx1_3; have cx2_4 : y4.cell? ⟨w1.heap.size, 2, none⟩ = some (.int .u64 X2) := (hy4.cell (p := ⟨w1.heap.size, 2, none⟩) nx_3).trans cx2_3; have cx3_4 : y4.cell? ⟨w1.heap.size, 3, none⟩ = some (.int .u64 a8) := (hy4.cell (p := ⟨w1.heap.size, 3, none⟩) nx_3).trans cx3_3; have cg0_4 : y4.cell? ⟨w2.heap.size, 0, none⟩ = some (.int .i32 G0) := (hy4.cell (p := ⟨w2.heap.size, 0, none⟩) ng_3).trans cg0_3; have cg1_4 : y4.cell? ⟨w2.heap.size, 1, none⟩ = some (.int .u8 G1) := (hy4.cell (p := ⟨w2.heap.size, 1, none⟩) ng_3).trans cg1_3; have cg2_4 : y4.cell? ⟨w2.heap.size, 2, none⟩ = some (.int .u8 G2) := (hy4.cell (p := ⟨w2.heap.size, 2, none⟩) ng_3).trans cg2_3; have cg3_4 : y4.cell? ⟨w2.heap.size, 3, none⟩ = some (.int .u16 G3) := (hy4.cell (p := ⟨w2.heap.size, 3, none⟩) ng_3).trans cg3_3; have cg4_4 : y4.cell? ⟨w2.heap.size, 4, none⟩ = some (.int .i32 G4) := (hy4.cell (p := ⟨w2.heap.size, 4, none⟩) ng_3).trans cg4_3; have cg5_4 : y4.cell? ⟨w2.heap.size, 5, none⟩ = some (.int .i32 G5) := (hy4.cell (p := ⟨w2.heap.size, 5, none⟩) ng_3).trans cg5_3; have cg6_4 : y4.cell? ⟨w2.heap.size, 6, none⟩ = some (.int .i32 G6) := (hy4.cell (p := ⟨w2.heap.size, 6, none⟩) ng_3).trans cg6_3; have cg7_4 : y4.cell? ⟨w2.heap.size, 7, none⟩ = some (.int .i32 G7) := (hy4.cell (p := ⟨w2.heap.size, 7, none⟩) ng_3).trans cg7_3; have cg8_4 : y4.cell? ⟨w2.heap.size, 8, none⟩ = some (.int .u64 b3) := (hy4.cell (p := ⟨w2.heap.size, 8, none⟩) ng_3).trans cg8_3; have nf_4 : w.heap.size < y4.heap.size := Nat.lt_of_lt_of_le nf_3 l4; have nw_4 : w.heap.size + 1 < y4.heap.size := Nat.lt_of_lt_of_le nw_3 l4; have nx_4 : w1.heap.size < y4.heap.size := Nat.lt_of_lt_of_le nx_3 l4; have ng_4 : w2.heap.size < y4.heap.size := Nat.lt_of_lt_of_le ng_3 l4; have KD : y4.cell? ⟨w.heap.size, 0, none⟩ = some (.int .i32 a0) ∧ y4.cell? ⟨w.heap.size, 1, none⟩ = some (.int .u8 a1) ∧ y4.cell? ⟨w.heap.size, 2, none⟩ = some (.int .u8 a2) ∧ y4.cell? ⟨w.heap.size, 3, none⟩ = some (.int .u16 a3) ∧ y4.cell? ⟨w.heap.size, 4, none⟩ = some (.int .i32 a4) ∧ y4.cell? ⟨w.heap.size, 5, none⟩ = some (.int .i32 a5) ∧ y4.cell? ⟨w.heap.size, 6, none⟩ = some (.int .i32 a6) ∧ y4.cell? ⟨w.heap.size, 7, none⟩ = some (.int .i32 a7) ∧ y4.cell? ⟨w.heap.size, 8, none⟩ = some (.int .u64 a8) ∧ y4.cell? ⟨w.heap.size + 1, 0, none⟩ = some (.int .u64 b0) ∧ y4.cell? ⟨w.heap.size + 1, 1, none⟩ = some (.int .u64 b1) ∧ y4.cell? ⟨w.heap.size + 1, 2, none⟩ = some (.int .u64 b2) ∧ y4.cell? ⟨w.heap.size + 1, 3, none⟩ = some (.int .u64 b3) ∧ y4.cell? ⟨w1.heap.size, 0, none⟩ = some (.int .u64 X0) ∧ y4.cell? ⟨w1.heap.size, 1, none⟩ = some (.int .u64 X1) ∧ y4.cell? ⟨w1.heap.size, 2, none⟩ = some (.int .u64 X2) ∧ y4.cell? ⟨w1.heap.size, 3, none⟩ = some (.int .u64 a8) ∧ y4.cell? ⟨w2.heap.size, 0, none⟩ = some (.int .i32 G0) ∧ y4.cell? ⟨w2.heap.size, 1, none⟩ = some (.int .u8 G1) ∧ y4.cell? ⟨w2.heap.size, 2, none⟩ = some (.int .u8 G2) ∧ y4.cell? ⟨w2.heap.size, 3, none⟩ = some (.int .u16 G3) ∧ y4.cell? ⟨w2.heap.size, 4, none⟩ = some (.int .i32 G4) ∧ y4.cell? ⟨w2.heap.size, 5, none⟩ = some (.int .i32 G5) ∧ y4.cell? ⟨w2.heap.size, 6, none⟩ = some (.int .i32 G6) ∧ y4.cell? ⟨w2.heap.size, 7, none⟩ = some (.int .i32 G7) ∧ y4.cell? ⟨w2.heap.size, 8, none⟩ = some (.int .u64 b3) := ⟨cf0_4, cf1_4, cf2_4, cf3_4, cf4_4, cf5_4, cf6_4, cf7_4, cf8_4, cw0_4, cw1_4, cw2_4, cw3_4, cx0_4, cx1_4, cx2_4, cx3_4, cg0_4, cg1_4, cg2_4, cg3_4, cg4_4, cg5_4, cg6_4, cg7_4, cg8_4⟩))
  go_wp2
  go_ret
  exact ⟨rfl, HBW.out.drew.trans ((hy1.mono (by show w.heap.size ≤ W0.heap.size; omega)).trans ((hy2.mono (by omega)).trans ((hy3.mono (by omega)).trans (hy4.mono (by omega)))))⟩


set_option maxRecDepth 100000 in
theorem lifted (os : Os) (started : os.Started) (H : Type) (enc : TypeId × Value → H) :
    ReturnsInHanded {} Try.checked os 4 .any (Rows.headFramesSpec.pre6 enc Try.prog Try.f4 Rows.headFramesRow.domain false) (Rows.headFramesSpec.post enc Try.prog Try.f4 false true false false) := by
  refine returnsInHanded_of_change (C := Try.checked) own started (by kernel_rfl) Try.func4
    (ChangeSpec.witness6 (enc := enc) (C := Try.checked) false ⟨#[], #[.agg #[.int .i32 0, .int .u8 0, .int .u8 0, .int .u16 0, .int .i32 0, .int .i32 0, .int .i32 0, .int .i32 0, .int .u64 0], .agg #[.int .u64 0, .int .u64 0, .int .u64 0, .int .u64 0]], []⟩ 8 (by kernel_rfl) (by kernel_rfl) (by kernel_rfl) (by kernel_rfl)) ?_
  intro W base args ds gs before hval0 hW hcnd _
  have hval : ∀ (j : Nat) t v, Try.f4.params[j]? = some t → args[j]? = some v → Value.okWide Try.prog W .any base t v := hval0
  have hW' := hW
  obtain ⟨p, q, hA0, hV, rfl, hfz, hnd⟩ := hW
  have hA : DataW.TrodAll enc Try.prog W 0 (fun _ => true) true Try.f4.params.toList args.toList ds p := hA0
  rw [Try.params4] at hA hval
  obtain ⟨v0, vs0, d0, ds0, p0, q0, hargs, rfl, rfl, h0, r0⟩ := trodAll_cons hA
  obtain ⟨v1, vs1, d1, ds1, p1, q1, rfl, rfl, rfl, h1, r1⟩ := trodAll_cons r0
  obtain ⟨rfl, rfl, rfl⟩ := trodAll_nil r1
  obtain rfl : args = #[v0, v1] := by cases args; simp_all
  obtain ⟨rfl, rfl⟩ := trodVars_none hV
  have k0 := h0
  have lt0 : ∀ x ∈ p0, x.block < W.heap.size := by obtain ⟨m, hm⟩ := k0; exact DataW.trod_lt m _ _ _ hm
  obtain ⟨c0_0, c0_1, c0_2, c0_3, c0_4, c0_5, c0_6, c0_7, c0_8, _, _, _, _, _, _, _, _, _, n0, rfl, t0_0, t0_1, t0_2, t0_3, t0_4, t0_5, t0_6, t0_7, t0_8⟩ := open_aggs9 Try.underlying30 (by kernel_rfl) (by kernel_rfl) (hval 0 30 v0 rfl rfl) h0
  obtain ⟨a0_0, e0_0, _, w0_0⟩ := DataW.trod_int Try.underlying21 t0_0
  obtain rfl : c0_0 = .int .i32 a0_0 := by simpa using e0_0
  obtain ⟨a0_1, e0_1, _, w0_1⟩ := DataW.trod_int Try.underlying5 t0_1
  obtain rfl : c0_1 = .int .u8 a0_1 := by simpa using e0_1
  obtain ⟨a0_2, e0_2, _, w0_2⟩ := DataW.trod_int Try.underlying5 t0_2
  obtain rfl : c0_2 = .int .u8 a0_2 := by simpa using e0_2
  obtain ⟨a0_3, e0_3, _, w0_3⟩ := DataW.trod_int Try.underlying28 t0_3
  obtain rfl : c0_3 = .int .u16 a0_3 := by simpa using e0_3
  obtain ⟨a0_4, e0_4, _, w0_4⟩ := DataW.trod_int Try.underlying21 t0_4
  obtain rfl : c0_4 = .int .i32 a0_4 := by simpa using e0_4
  obtain ⟨a0_5, e0_5, _, w0_5⟩ := DataW.trod_int Try.underlying21 t0_5
  obtain rfl : c0_5 = .int .i32 a0_5 := by simpa using e0_5
  obtain ⟨a0_6, e0_6, _, w0_6⟩ := DataW.trod_int Try.underlying21 t0_6
  obtain rfl : c0_6 = .int .i32 a0_6 := by simpa using e0_6
  obtain ⟨a0_7, e0_7, _, w0_7⟩ := DataW.trod_int Try.underlying21 t0_7
  obtain rfl : c0_7 = .int .i32 a0_7 := by simpa using e0_7
  obtain ⟨a0_8, e0_8, _, w0_8⟩ := DataW.trod_int Try.underlying22 t0_8
  obtain rfl : c0_8 = .int .u64 a0_8 := by simpa using e0_8
  have k1 := h1
  have lt1 : ∀ x ∈ p1, x.block < W.heap.size := by obtain ⟨m, hm⟩ := k1; exact DataW.trod_lt m _ _ _ hm
  obtain ⟨c1_0, c1_1, c1_2, c1_3, _, _, _, _, n1, rfl, t1_0, t1_1, t1_2, t1_3⟩ := open_arr4 Try.underlying31 (by kernel_rfl) (by kernel_rfl) (hval 1 31 v1 rfl rfl) h1
  obtain ⟨a1_0, e1_0, _, w1_0⟩ := DataW.trod_int Try.underlying22 t1_0
  obtain rfl : c1_0 = .int .u64 a1_0 := by simpa using e1_0
  obtain ⟨a1_1, e1_1, _, w1_1⟩ := DataW.trod_int Try.underlying22 t1_1
  obtain rfl : c1_1 = .int .u64 a1_1 := by simpa using e1_1
  obtain ⟨a1_2, e1_2, _, w1_2⟩ := DataW.trod_int Try.underlying22 t1_2
  obtain rfl : c1_2 = .int .u64 a1_2 := by simpa using e1_2
  obtain ⟨a1_3, e1_3, _, w1_3⟩ := DataW.trod_int Try.underlying22 t1_3
  obtain rfl : c1_3 = .int .u64 a1_3 := by simpa using e1_3
  clear hA0 hval0
  refine (walk a0_0 a0_1 a0_2 a0_3 a0_4 a0_5 a0_6 a0_7 a0_8 a1_0 a1_1 a1_2 a1_3 W w0_0 w0_1 w0_2 w0_3 w0_4 w0_5 w0_6 w0_7 w0_8 w1_0 w1_1 w1_2 w1_3).mono fun e W' ⟨he, bel⟩ => ?_
  subst he
  exact ⟨_, rfl, _, _, _, [], _, [], hW', trodAll_mk1 (shut_bool Try.underlying4 _), (trodAll_cons_mk (Below.trod laidOut (by kernel_rfl) (of_decide_eq_true (by kernel_rfl)) k0 bel lt0) (trodAll_cons_mk (Below.trod laidOut (by kernel_rfl) (of_decide_eq_true (by kernel_rfl)) k1 bel lt1) trodAll_mk0)), rfl, bel.frame _, fun h => by cases h⟩

theorem over : Rows.headFramesRow.holds Try.pinned (OpenSpec.ofChange Rows.headFramesSpec) :=
  OpenClaim.holds_of_wide 4 Try.f4 rfl rfl rfl rfl rfl rfl rfl ⟨rfl, rfl, rfl, rfl, rfl⟩ rfl rfl rfl rfl rfl (by kernel_rfl) Try.func4 (by kernel_rfl)
    (of_decide_eq_true (by kernel_rfl)) (by unfold Func.isWrapper; first | (rw [if_pos (by decide +kernel)]; kernel_rfl) | (rw [if_neg (by decide +kernel)]; exact ⟨rfl, rfl⟩))
    (fun os started H enc _ => lifted os started H enc)

theorem proved : Rows.HeadFramesSaid := over
#print axioms proved
end Go.Proofs.Ythjmedocjndakaa.headFrames
