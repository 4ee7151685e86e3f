/- Statement CommandBytes: any command's bytes, and message, are the document's, or it is refused; they tell it.
   No condition: for every input that can be read. -/
import Derived.Test.YtgoempphfnagnaaRows
import Derived.Test.YtgoempphfnagnaaKit
import Derived.Test.YtgoempphfnagnaaRk34
import Derived.ProofKit
import Derived.OpenShut
import Derived.ShutString
import Derived.ChangeOld
import Derived.Below
import Derived.Deep.Fields
import Derived.WideShapes
import Derived.Lib.SmallJoins
namespace Go.Proofs.Ytgoempphfnagnaa.commandBytes
open Go.ChangeShapes Go.WideShapes Go.ChangeAt Go.RowKit
open Go.ChangeMaps (open_string shut_string)
set_option linter.unusedVariables false

open Go.Joins Go.Deep
theorem own : ownKnob Try.prog.godebug = none := by kernel_rfl
section
variable {H : Type} {enc : TypeId × Value → H} {P : Program} {w : World} {base : Nat} {spare : Nat → Bool} {held : Bool}
set_option maxRecDepth 100000 in
theorem open_aggs6 {r : Reach} {b0 : Nat} {t : TypeId} {f0 f1 f2 f3 f4 f5 : Field} {v : Value} {d : DataW H} {p : List MemPlace} (hs : P.underlying t = some (.struct #[f0, f1, f2, f3, f4, f5])) (hone : oneCellFields P #[f0, f1, f2, f3, f4, f5] = true) (hC : P.cellsOf t = 6)
    (hv : Value.okWide P w r b0 t v) (h : DataW.Trod enc P w base spare held t v d p) :
    ∃ (c0 c1 c2 c3 c4 c5 : Value) (y0 y1 y2 y3 y4 y5 : DataW H × List MemPlace) (n : Nat), v = .agg #[c0, c1, c2, c3, c4, c5] ∧ DataW.trod enc P w base spare held n f0.type [c0] = some y0 ∧ DataW.trod enc P w base spare held n f1.type [c1] = some y1 ∧ DataW.trod enc P w base spare held n f2.type [c2] = some y2 ∧ DataW.trod enc P w base spare held n f3.type [c3] = some y3 ∧ DataW.trod enc P w base spare held n f4.type [c4] = some y4 ∧ DataW.trod enc P w base spare held n f5.type [c5] = some y5 := by
  obtain ⟨cs, rfl, hsz⟩ := okWide_struct hs hv
  obtain ⟨l⟩ := cs
  match l, hsz.trans hC with
  | [c0, c1, c2, c3, c4, c5], _ =>
    obtain ⟨fuel, hf⟩ := h
    obtain ⟨xs, n, _, hx, _, hlen, hg⟩ := DataW.trod_struct hs hf
    obtain ⟨o0, k0⟩ := Go.Deep.hone_of hone 0 f0 rfl
    obtain ⟨o1, k1⟩ := Go.Deep.hone_of hone 1 f1 rfl
    obtain ⟨o2, k2⟩ := Go.Deep.hone_of hone 2 f2 rfl
    obtain ⟨o3, k3⟩ := Go.Deep.hone_of hone 3 f3 rfl
    obtain ⟨o4, k4⟩ := Go.Deep.hone_of hone 4 f4 rfl
    obtain ⟨o5, k5⟩ := Go.Deep.hone_of hone 5 f5 rfl
    match xs, hlen with
    | [y0, y1, y2, y3, y4, y5], _ =>
      exact ⟨c0, c1, c2, c3, c4, c5, y0, y1, y2, y3, y4, y5, n, rfl, by simpa [Value.cells, o0, k0] using hg 0 f0 rfl, by simpa [Value.cells, o1, k1] using hg 1 f1 rfl, by simpa [Value.cells, o2, k2] using hg 2 f2 rfl, by simpa [Value.cells, o3, k3] using hg 3 f3 rfl, by simpa [Value.cells, o4, k4] using hg 4 f4 rfl, by simpa [Value.cells, o5, k5] using hg 5 f5 rfl⟩
end
theorem laidOut : laidOutB Try.prog = true := by kernel_rfl

open Go.X Go.Proofs.Ytgoempphfnagnaa.rk

/-- A number's word, as the program takes it: of 4 bytes, of 8 bytes. -/
def own4 (j : Nat) : IE := .conv .u64 (.conv .u32 (.leaf j))
def own8 (j : Nat) : IE := .conv .u64 (.leaf j)
/-- As the document takes it. -/
def doc4 (j : Nat) : IE := .conv .u64 (.conv .i64 (.leaf j))
/-- A number shifted by whole bytes, by division. -/
def down (x : IE) : Nat → IE
  | 0 => x
  | i + 1 => .bin .quo .u64 (down x i) (.lit 256)

def byteFacts (x y : IE) (l : List Nat) : List (IE × IE) := l.map fun i => (.conv .u8 (.bin .rem .u64 (down y i) (.lit 256)), .conv .u8 (.shr x (8 * i)))
def pairs4 (j : Nat) : List (IE × IE) := (.conv .i32 (bytesOr (own4 j) [0, 8, 16, 24]), .leaf j) :: byteFacts (own4 j) (doc4 j) [0, 1, 2, 3]
def pairs8 (j : Nat) : List (IE × IE) := (.conv .i64 (bytesOr (own8 j) [0, 8, 16, 24, 32, 40, 48, 56]), .leaf j) :: byteFacts (own8 j) (own8 j) [0, 1, 2, 3, 4, 5, 6, 7]
def pairs : List (IE × IE) := pairs4 0 ++ (pairs4 1 ++ (pairs4 2 ++ (pairs4 3 ++ (pairs8 4 ++ pairs8 5))))
def told (l : List (IE × IE)) : List Fact := l.map fun p => ⟨.eql, p.1, p.2, true⟩
def args : List V := [vagg [vx 2 (.leaf 0), vx 2 (.leaf 1), vx 2 (.leaf 2), vx 2 (.leaf 3), vx 3 (.leaf 4), vx 3 (.leaf 5)]]

def tree : DT := (.split .lss (.leaf 5) (.lit 1) (.split .eql (.leaf 0) (.lit 1) (.split .lss (.leaf 4) (.lit 0) .run .run) (.split .eql (.leaf 0) (.lit 2) (.split .lss (.leaf 4) (.lit 0) .run .run) (.split .eql (.leaf 0) (.lit 3) (.split .lss (.leaf 4) (.lit 0) .run .run) (.split .eql (.leaf 0) (.lit 5) (.split .lss (.leaf 4) (.lit 0) .run .run) (.split .eql (.leaf 0) (.lit 4) (.split .lss (.leaf 4) (.lit 0) .run .run) (.split .eql (.leaf 0) (.lit 6) (.split .lss (.leaf 4) (.lit 0) .run .run) (.split .lss (.leaf 0) (.lit 1) .run (.split .lss (.lit 6) (.leaf 0) .run (.split .lss (.leaf 4) (.lit 0) .run .run))))))))) (.split .lss (.leaf 4) (.lit 0) (.split .eql (.leaf 0) (.lit 1) .run (.split .eql (.leaf 0) (.lit 2) .run (.split .eql (.leaf 0) (.lit 3) .run (.split .eql (.leaf 0) (.lit 5) .run (.split .eql (.leaf 0) (.lit 4) .run (.split .eql (.leaf 0) (.lit 6) .run (.split .lss (.leaf 0) (.lit 1) .run (.split .lss (.lit 6) (.leaf 0) .run .run)))))))) (.split .eql (.leaf 0) (.lit 1) (.split .eql (.leaf 3) (.lit 0) .run .run) (.split .eql (.leaf 0) (.lit 2) (.split .eql (.leaf 3) (.lit 0) .run .run) (.split .eql (.leaf 0) (.lit 3) (.split .eql (.leaf 3) (.lit 0) .run .run) (.split .eql (.leaf 0) (.lit 5) (.split .eql (.leaf 3) (.lit 0) .run .run) (.split .eql (.leaf 0) (.lit 4) (.split .eql (.leaf 1) (.lit 0) (.split .eql (.leaf 2) (.lit 0) (.split .eql (.leaf 3) (.lit 0) (.split .eql (.leaf 4) (.lit 0) .run .run) (.split .eql (.leaf 4) (.lit 0) .run .run)) .run) .run) (.split .eql (.leaf 0) (.lit 6) (.split .lss (.leaf 3) (.lit 1) .run (.split .lss (.lit 255) (.leaf 3) .run .run)) (.split .lss (.leaf 0) (.lit 1) .run (.split .lss (.lit 6) (.leaf 0) .run (.split .eql (.leaf 3) (.lit 0) .dead .run)))))))))))

theorem reckoned : DT.good cfg34 60 7 args tree (told pairs) = true := by kernel_rfl

variable {L : Nat → Value}

theorem Ev.down {x : IE} {m : Nat} (h : Ev L x m) : ∀ i, Ev L (down x i) (m / 256 ^ i)
  | 0 => by rw [Nat.pow_zero, Nat.div_one]; exact h
  | i + 1 => by
    have := (Ev.down h i).quo 256 (by decide)
    rw [Nat.div_div_eq_div_mul, ← Nat.pow_succ] at this
    exact this

theorem bytes_ok {x y : IE} {m n : Nat} {l : List Nat} (hx : Ev L x m) (hy : Ev L y n) (h : ∀ i ∈ l, n / 256 ^ i % 256 % 256 = m / 2 ^ (8 * i) % 256) : ∀ p ∈ byteFacts x y l, p.1.eval L = p.2.eval L := by
  intro p hp
  obtain ⟨i, hi, rfl⟩ := List.mem_map.1 hp
  exact (((Ev.down hy i).rem 256 (by decide)).conv8).same (hx.shr (8 * i)).conv8 (h i hi)

theorem pairs4_ok {j : Nat} {a : Int} (hj : L j = .int .i32 a) (h1 : -2147483648 ≤ a) (h2 : a ≤ 2147483647) : ∀ p ∈ pairs4 j, p.1.eval L = p.2.eval L := by
  obtain ⟨m, hm⟩ : ∃ m : Nat, (m : Int) = a % 4294967296 := ⟨(a % 4294967296).toNat, by omega⟩
  obtain ⟨n, hn⟩ : ∃ n : Nat, (n : Int) = a % 18446744073709551616 := ⟨(a % 18446744073709551616).toNat, by omega⟩
  have e0 : IE.eval L (.leaf j) = a := by rw [eval_leaf, hj]; rfl
  have hx : Ev L (own4 j) m := ⟨by rw [own4, eval_conv, eval_conv, e0, wrap_u64, wrap_u32]; omega, by omega⟩
  have hy : Ev L (doc4 j) n := ⟨by rw [doc4, eval_conv, eval_conv, e0, wrap_u64, wrap_i64]; omega, by omega⟩
  intro p hp
  rcases List.mem_cons.1 hp with rfl | hp
  · show IE.eval L (.conv .i32 (bytesOr (own4 j) [0, 8, 16, 24])) = IE.eval L (.leaf j)
    rw [eval_conv, (ev_bytes4 hx (by omega)).eq, e0, wrap_i32]
    omega
  · refine bytes_ok hx hy (fun i hi => ?_) p hp
    simp only [List.mem_cons, List.not_mem_nil, or_false] at hi
    rcases hi with rfl | rfl | rfl | rfl
    all_goals
      simp only [Nat.reducePow, Nat.reduceMul]
      omega

theorem pairs8_ok {j : Nat} {a : Int} (hj : L j = .int .i64 a) (h1 : -9223372036854775808 ≤ a) (h2 : a ≤ 9223372036854775807) : ∀ p ∈ pairs8 j, p.1.eval L = p.2.eval L := by
  obtain ⟨n, hn⟩ : ∃ n : Nat, (n : Int) = a % 18446744073709551616 := ⟨(a % 18446744073709551616).toNat, by omega⟩
  have e0 : IE.eval L (.leaf j) = a := by rw [eval_leaf, hj]; rfl
  have hx : Ev L (own8 j) n := ⟨by rw [own8, eval_conv, e0, wrap_u64]; omega, by omega⟩
  intro p hp
  rcases List.mem_cons.1 hp with rfl | hp
  · show IE.eval L (.conv .i64 (bytesOr (own8 j) [0, 8, 16, 24, 32, 40, 48, 56])) = IE.eval L (.leaf j)
    rw [eval_conv, (ev_bytes8 hx).eq, e0, wrap_i64]
    omega
  · refine bytes_ok hx hx (fun i hi => ?_) p hp
    simp only [List.mem_cons, List.not_mem_nil, or_false] at hi
    rcases hi with rfl | rfl | rfl | rfl | rfl | rfl | rfl | rfl
    all_goals
      simp only [Nat.reducePow, Nat.reduceMul]
      omega

set_option linter.unusedSimpArgs false in
set_option maxRecDepth 100000 in
/-- What can't be. -/
theorem deads (a0_0 a0_1 a0_2 a0_3 a0_4 a0_5 : Int) : noneSay (leaves [.int .i32 a0_0, .int .i32 a0_1, .int .i32 a0_2, .int .i32 a0_3, .int .i64 a0_4, .int .i64 a0_5]) (DT.deads tree (told pairs)) := by
  have e0 : valInt ((leaves [.int .i32 a0_0, .int .i32 a0_1, .int .i32 a0_2, .int .i32 a0_3, .int .i64 a0_4, .int .i64 a0_5]) 0) = a0_0 := rfl
  have e1 : valInt ((leaves [.int .i32 a0_0, .int .i32 a0_1, .int .i32 a0_2, .int .i32 a0_3, .int .i64 a0_4, .int .i64 a0_5]) 1) = a0_1 := rfl
  have e2 : valInt ((leaves [.int .i32 a0_0, .int .i32 a0_1, .int .i32 a0_2, .int .i32 a0_3, .int .i64 a0_4, .int .i64 a0_5]) 2) = a0_2 := rfl
  have e3 : valInt ((leaves [.int .i32 a0_0, .int .i32 a0_1, .int .i32 a0_2, .int .i32 a0_3, .int .i64 a0_4, .int .i64 a0_5]) 3) = a0_3 := rfl
  have e4 : valInt ((leaves [.int .i32 a0_0, .int .i32 a0_1, .int .i32 a0_2, .int .i32 a0_3, .int .i64 a0_4, .int .i64 a0_5]) 4) = a0_4 := rfl
  have e5 : valInt ((leaves [.int .i32 a0_0, .int .i32 a0_1, .int .i32 a0_2, .int .i32 a0_3, .int .i64 a0_4, .int .i64 a0_5]) 5) = a0_5 := rfl
  simp only [tree, DT.deads, List.nil_append, List.append_nil, List.cons_append, noneSay, allSay, Fact.says, eval_lit, eval_leaf, e0, e1, e2, e3, e4, e5]
  refine ⟨?_, trivial⟩ <;> (intro h; omega)

theorem walk (a0_0 a0_1 a0_2 a0_3 a0_4 a0_5 : Int) (w : World) (w0_0 : (Lit.int .i32 a0_0).wf = true) (w0_1 : (Lit.int .i32 a0_1).wf = true) (w0_2 : (Lit.int .i32 a0_2).wf = true) (w0_3 : (Lit.int .i32 a0_3).wf = true) (w0_4 : (Lit.int .i64 a0_4).wf = true) (w0_5 : (Lit.int .i64 a0_5).wf = true) :
    Calls Try.prog 7 #[.agg #[.int .i32 a0_0, .int .i32 a0_1, .int .i32 a0_2, .int .i32 a0_3, .int .i64 a0_4, .int .i64 a0_5]] w fun e w' => e = .returned (.bool true) ∧ Below w.heap.size w w' := by
  obtain ⟨l0, u0⟩ := range_i32 w0_0
  obtain ⟨l1, u1⟩ := range_i32 w0_1
  obtain ⟨l2, u2⟩ := range_i32 w0_2
  obtain ⟨l3, u3⟩ := range_i32 w0_3
  obtain ⟨l4, u4⟩ := range_i64 w0_4
  obtain ⟨l5, u5⟩ := range_i64 w0_5
  refine called_cases (c := cfg34) (L := leaves [.int .i32 a0_0, .int .i32 a0_1, .int .i32 a0_2, .int .i32 a0_3, .int .i64 a0_4, .int .i64 a0_5]) (leaves_leafy rfl) follows34 ext_ok34 known34 (l := args)
    (xs := [.agg #[.int .i32 a0_0, .int .i32 a0_1, .int .i32 a0_2, .int .i32 a0_3, .int .i64 a0_4, .int .i64 a0_5]]) rfl w tree (told pairs) (sameFacts ?_) (deads_of (deads a0_0 a0_1 a0_2 a0_3 a0_4 a0_5)) reckoned
  intro p hp
  simp only [pairs, List.mem_append] at hp
  rcases hp with hp | hp | hp | hp | hp | hp
  · exact pairs4_ok rfl l0 u0 p hp
  · exact pairs4_ok rfl l1 u1 p hp
  · exact pairs4_ok rfl l2 u2 p hp
  · exact pairs4_ok rfl l3 u3 p hp
  · exact pairs8_ok rfl l4 u4 p hp
  · exact pairs8_ok rfl l5 u5 p hp

set_option maxRecDepth 100000 in
theorem lifted (os : Os) (started : os.Started) (H : Type) (enc : TypeId × Value → H) :
    ReturnsInHanded {} Try.checked os 7 .any (Rows.commandBytesSpec.pre6 enc Try.prog Try.f7 Rows.commandBytesRow.domain false) (Rows.commandBytesSpec.post enc Try.prog Try.f7 false true false false) := by
  refine returnsInHanded_of_change (C := Try.checked) own started (by kernel_rfl) Try.func7
    (ChangeSpec.witness6 (enc := enc) (C := Try.checked) false ⟨#[], #[.agg #[.int .i32 0, .int .i32 0, .int .i32 0, .int .i32 0, .int .i64 0, .int .i64 0]], []⟩ 8 (by kernel_rfl) (by kernel_rfl) (by kernel_rfl) (by kernel_rfl)) ?_
  intro W base args ds gs before hval0 hW hcnd _
  have hval : ∀ (j : Nat) t v, Try.f7.params[j]? = some t → args[j]? = some v → Value.okWide Try.prog W .any base t v := hval0
  have hW' := hW
  obtain ⟨p, q, hA0, hV, rfl, hfz, hnd⟩ := hW
  have hA : DataW.TrodAll enc Try.prog W 0 (fun _ => true) true Try.f7.params.toList args.toList ds p := hA0
  rw [Try.params7] at hA hval
  obtain ⟨v0, vs0, d0, ds0, p0, q0, hargs, rfl, rfl, h0, r0⟩ := trodAll_cons hA
  obtain ⟨rfl, rfl, rfl⟩ := trodAll_nil r0
  obtain rfl : args = #[v0] := by cases args; simp_all
  obtain ⟨rfl, rfl⟩ := trodVars_none hV
  have k0 := h0
  have lt0 : ∀ x ∈ p0, x.block < W.heap.size := by obtain ⟨m, hm⟩ := k0; exact DataW.trod_lt m _ _ _ hm
  obtain ⟨c0_0, c0_1, c0_2, c0_3, c0_4, c0_5, _, _, _, _, _, _, n0, rfl, t0_0, t0_1, t0_2, t0_3, t0_4, t0_5⟩ := open_aggs6 Try.underlying53 (by kernel_rfl) (by kernel_rfl) (hval 0 53 v0 rfl rfl) h0
  obtain ⟨a0_0, e0_0, _, w0_0⟩ := DataW.trod_int Try.underlying21 t0_0
  obtain rfl : c0_0 = .int .i32 a0_0 := by simpa using e0_0
  obtain ⟨a0_1, e0_1, _, w0_1⟩ := DataW.trod_int Try.underlying21 t0_1
  obtain rfl : c0_1 = .int .i32 a0_1 := by simpa using e0_1
  obtain ⟨a0_2, e0_2, _, w0_2⟩ := DataW.trod_int Try.underlying21 t0_2
  obtain rfl : c0_2 = .int .i32 a0_2 := by simpa using e0_2
  obtain ⟨a0_3, e0_3, _, w0_3⟩ := DataW.trod_int Try.underlying21 t0_3
  obtain rfl : c0_3 = .int .i32 a0_3 := by simpa using e0_3
  obtain ⟨a0_4, e0_4, _, w0_4⟩ := DataW.trod_int Try.underlying2 t0_4
  obtain rfl : c0_4 = .int .i64 a0_4 := by simpa using e0_4
  obtain ⟨a0_5, e0_5, _, w0_5⟩ := DataW.trod_int Try.underlying2 t0_5
  obtain rfl : c0_5 = .int .i64 a0_5 := by simpa using e0_5
  clear hA0 hval0
  refine (walk a0_0 a0_1 a0_2 a0_3 a0_4 a0_5 W w0_0 w0_1 w0_2 w0_3 w0_4 w0_5).mono fun e W' ⟨he, bel⟩ => ?_
  subst he
  exact ⟨_, rfl, _, _, _, [], _, [], hW', trodAll_mk1 (shut_bool Try.underlying4 _), (trodAll_cons_mk (Below.trod laidOut (by kernel_rfl) (of_decide_eq_true (by kernel_rfl)) k0 bel lt0) trodAll_mk0), rfl, bel.frame _, fun h => by cases h⟩

theorem over : Rows.commandBytesRow.holds Try.pinned (OpenSpec.ofChange Rows.commandBytesSpec) :=
  OpenClaim.holds_of_wide 7 Try.f7 rfl rfl rfl rfl rfl rfl rfl ⟨rfl, rfl, rfl, rfl, rfl⟩ rfl rfl rfl rfl rfl (by as_aux_lemma => kernel_rfl) Try.func7 (by as_aux_lemma => kernel_rfl)
    (of_decide_eq_true (by as_aux_lemma => kernel_rfl)) (by unfold Func.isWrapper; first | (rw [if_pos (by decide +kernel)]; kernel_rfl) | (rw [if_neg (by decide +kernel)]; exact ⟨rfl, rfl⟩))
    (fun os started H enc _ => lifted os started H enc)

theorem proved : Rows.CommandBytesSaid := over
#print axioms proved
end Go.Proofs.Ytgoempphfnagnaa.commandBytes
