/- Statement MembufCas: of two that compare and swap the same number for others just the first one stores, for all numbers, places and halves.
   No condition: for every input that can be read. -/
import Derived.Test.YthkeilbiklhogaaRows
import Derived.Test.YthkeilbiklhogaaKit
import Derived.Test.YthkeilbiklhogaaRk02
import Derived.ProofKit
import Derived.OpenShut
import Derived.ShutString
import Derived.ChangeOld
import Derived.Below
namespace Go.Proofs.Ythkeilbiklhogaa.membufCas
open Go.ChangeShapes Go.WideShapes Go.ChangeAt Go.RowKit
open Go.ChangeMaps (open_string shut_string)
set_option linter.unusedVariables false

theorem own : ownKnob Try.prog.godebug = none := by kernel_rfl

open Go.X Go.Proofs.Ythkeilbiklhogaa.rk

/-- What is known of a number's words, of 8 bytes. -/
def three8 (x : IE) : List (IE × IE) :=
  [(.shl .u64 x 0, x), (.bin .and .u64 x (.lit 18446744073709551615), x), (.bin .or .u64 (.lit 0) x, x), (.shr x 0, x), (.bin .andNot .u64 x (.lit 18446744073709551615), .lit 0)]
/-- Of 4 bytes, in the low half. -/
def three4 (x : IE) : List (IE × IE) :=
  [(.shl .u64 x 0, x), (.bin .and .u64 x (.lit 4294967295), x), (.bin .or .u64 (.lit 0) x, x), (.shr x 0, x), (.bin .andNot .u64 x (.lit 4294967295), .lit 0)]
/-- Of 4 bytes, in the high half. -/
def high4 (x : IE) : List (IE × IE) :=
  [(.bin .and .u64 x (.lit 4294967295), x), (.bin .and .u64 (.shl .u64 x 32) (.lit 18446744069414584320), .shl .u64 x 32), (.bin .or .u64 (.lit 0) (.shl .u64 x 32), .shl .u64 x 32), (.shr (.shl .u64 x 32) 32, x),
    (.bin .andNot .u64 (.shl .u64 x 32) (.lit 18446744069414584320), .lit 0)]

def half (j : Nat) : IE := .bin .rem .u64 (.leaf j) (.lit 4294967296)

def pairs8 : List (IE × IE) := (bytesOr0 (.leaf 0) [8, 16, 24, 32, 40, 48, 56], .leaf 0) :: (three8 (.leaf 0) ++ (three8 (.leaf 1) ++ three8 (.leaf 2)))
def pairsLow : List (IE × IE) := (bytesOr0 (half 0) [8, 16, 24], half 0) :: (three4 (half 0) ++ (three4 (half 1) ++ three4 (half 2)))
def pairsHigh : List (IE × IE) := (bytesOr (half 0) [0, 8, 16, 24], half 0) :: (high4 (half 0) ++ (high4 (half 1) ++ high4 (half 2)))

def told (l : List (IE × IE)) : List Fact := l.map fun p => ⟨.eql, p.1, p.2, true⟩
def spot (r : Nat) : Fact := ⟨.eql, .bin .rem .i64 (.conv .i64 (.leaf 3)) (.lit 8), .lit (.ofNat r), true⟩

def args (q : V) : List V := [vx 7 (.leaf 0), vx 7 (.leaf 1), vx 7 (.leaf 2), vx 4 (.leaf 3), q]
def tree8 : DT := .split .eql (.leaf 1) (.leaf 0) .run .run
def tree4 : DT := .split .eql (half 1) (half 0) .run .run

theorem reckoned8 : ([0, 1, 2, 3, 4, 5, 6, 7] : List Nat).all (fun r => DT.good cfg02 60 4 (args V.F) tree8 (spot r :: told pairs8)) = true := by kernel_rfl
theorem reckonedLow : ([0, 2, 4, 6] : List Nat).all (fun r => DT.good cfg02 60 4 (args V.T) tree4 (spot r :: told pairsLow)) = true := by kernel_rfl
theorem reckonedHigh : ([1, 3, 5, 7] : List Nat).all (fun r => DT.good cfg02 60 4 (args V.T) tree4 (spot r :: told pairsHigh)) = true := by kernel_rfl

variable {L : Nat → Value}

theorem three8_ok {x : IE} {m : Nat} (h : Ev L x m) : ∀ p ∈ three8 x, p.1.eval L = p.2.eval L := by
  have hM : Ev L (.lit 18446744073709551615) 18446744073709551615 := Ev.lit 18446744073709551615 (by decide)
  have h0 : Ev L (.lit 0) 0 := Ev.lit 0 (by decide)
  have hlt := h.lt
  have hand : m &&& 18446744073709551615 = m := and_low m 64 hlt
  intro p hp
  simp only [three8, List.mem_cons, List.not_mem_nil, or_false] at hp
  rcases hp with rfl | rfl | rfl | rfl | rfl
  · exact (h.shl 0 (by decide)).same h (by rw [Nat.pow_zero, Nat.mul_one, Nat.mod_eq_of_lt hlt])
  · exact (h.and hM).same h hand
  · exact (h0.or h).same h (Nat.zero_or m)
  · exact (h.shr 0).same h (by rw [Nat.pow_zero, Nat.div_one])
  · exact (h.andNot hM).same h0 (by rw [hand, Nat.sub_self])

theorem three4_ok {x : IE} {m : Nat} (h : Ev L x m) (hm : m < 4294967296) : ∀ p ∈ three4 x, p.1.eval L = p.2.eval L := by
  have hM : Ev L (.lit 4294967295) 4294967295 := Ev.lit 4294967295 (by decide)
  have h0 : Ev L (.lit 0) 0 := Ev.lit 0 (by decide)
  have hlt := h.lt
  have hand : m &&& 4294967295 = m := and_low m 32 hm
  intro p hp
  simp only [three4, List.mem_cons, List.not_mem_nil, or_false] at hp
  rcases hp with rfl | rfl | rfl | rfl | rfl
  · exact (h.shl 0 (by decide)).same h (by rw [Nat.pow_zero, Nat.mul_one, Nat.mod_eq_of_lt hlt])
  · exact (h.and hM).same h hand
  · exact (h0.or h).same h (Nat.zero_or m)
  · exact (h.shr 0).same h (by rw [Nat.pow_zero, Nat.div_one])
  · exact (h.andNot hM).same h0 (by rw [hand, Nat.sub_self])

theorem high4_ok {x : IE} {m : Nat} (h : Ev L x m) (hm : m < 4294967296) : ∀ p ∈ high4 x, p.1.eval L = p.2.eval L := by
  have hM : Ev L (.lit 4294967295) 4294967295 := Ev.lit 4294967295 (by decide)
  have hH : Ev L (.lit 18446744069414584320) 18446744069414584320 := Ev.lit 18446744069414584320 (by decide)
  have h0 : Ev L (.lit 0) 0 := Ev.lit 0 (by decide)
  have hs : Ev L (.shl .u64 x 32) (m * 2 ^ 32) := by
    have := h.shl 32 (by decide)
    rwa [Nat.mod_eq_of_lt (by omega)] at this
  have hand : (m * 2 ^ 32) &&& 18446744069414584320 = m * 2 ^ 32 := and_high m hm
  intro p hp
  simp only [high4, List.mem_cons, List.not_mem_nil, or_false] at hp
  rcases hp with rfl | rfl | rfl | rfl | rfl
  · exact (h.and hM).same h (and_low m 32 hm)
  · exact (hs.and hH).same hs hand
  · exact (h0.or hs).same hs (Nat.zero_or _)
  · exact (hs.shr 32).same h (Nat.mul_div_cancel m (by decide))
  · exact (hs.andNot hH).same h0 (by rw [hand, Nat.sub_self])

theorem told_ok {l : List (IE × IE)} (h : ∀ p ∈ l, p.1.eval L = p.2.eval L) : FactsOk L (told l) := sameFacts h

theorem spot_ok {m : Nat} (hj : L 3 = .int .u8 (m : Int)) (hm : m < 256) {l : List Fact} (h : FactsOk L l) : FactsOk L (spot (m % 8) :: l) := by
  refine factsOk_cons ⟨eqF, rfl, ?_⟩ h
  have e3 : IE.eval L (.conv .i64 (.leaf 3)) = (m : Int) := by
    rw [eval_conv, eval_leaf, hj, wrap_i64]
    show ((m : Int) + 9223372036854775808) % 18446744073709551616 - 9223372036854775808 = m
    omega
  have : IE.eval L (.bin .rem .i64 (.conv .i64 (.leaf 3)) (.lit 8)) = ((m % 8 : Nat) : Int) := by
    show ((chk (bnot (eqF (8 : Int) 0)) (some (remF (IE.eval L (.conv .i64 (.leaf 3))) 8))).getD 0 : Int) = _
    rw [e3]
    rfl
  show eqF (IE.eval L (.bin .rem .i64 (.conv .i64 (.leaf 3)) (.lit 8))) (Int.ofNat (m % 8)) = true
  rw [this, eqF_eq]
  exact beq_self_eq_true _

theorem walk (a0 a1 a2 a3 : Int) (b4 : Bool) (w : World) (w0 : (Lit.int .u64 a0).wf = true) (w1 : (Lit.int .u64 a1).wf = true) (w2 : (Lit.int .u64 a2).wf = true) (w3 : (Lit.int .u8 a3).wf = true) :
    Calls Try.prog 4 #[.int .u64 a0, .int .u64 a1, .int .u64 a2, .int .u8 a3, .bool b4] w fun e w' => e = .returned (.bool true) ∧ Below w.heap.size w w' := by
  obtain ⟨l0, u0⟩ := range_u64 w0
  obtain ⟨l1, u1⟩ := range_u64 w1
  obtain ⟨l2, u2⟩ := range_u64 w2
  obtain ⟨l3, u3⟩ := range_u8 w3
  obtain ⟨v, rfl⟩ : ∃ v : Nat, a0 = v := ⟨a0.toNat, by omega⟩
  obtain ⟨x, rfl⟩ : ∃ v : Nat, a1 = v := ⟨a1.toNat, by omega⟩
  obtain ⟨y, rfl⟩ : ∃ v : Nat, a2 = v := ⟨a2.toNat, by omega⟩
  obtain ⟨m, rfl⟩ : ∃ v : Nat, a3 = v := ⟨a3.toNat, by omega⟩
  have hr : m % 8 < 8 := Nat.mod_lt _ (by decide)
  cases b4 with
  | false =>
    have e0 : Ev (leaves [.int .u64 (v : Int), .int .u64 (x : Int), .int .u64 (y : Int), .int .u8 (m : Int), .bool false]) (.leaf 0) v := Ev.leaf rfl (by omega)
    have e1 : Ev (leaves [.int .u64 (v : Int), .int .u64 (x : Int), .int .u64 (y : Int), .int .u8 (m : Int), .bool false]) (.leaf 1) x := Ev.leaf rfl (by omega)
    have e2 : Ev (leaves [.int .u64 (v : Int), .int .u64 (x : Int), .int .u64 (y : Int), .int .u8 (m : Int), .bool false]) (.leaf 2) y := Ev.leaf rfl (by omega)
    refine called_cases (c := cfg02) (L := leaves [.int .u64 (v : Int), .int .u64 (x : Int), .int .u64 (y : Int), .int .u8 (m : Int), .bool false]) (leaves_leafy rfl) follows02 ext_ok02 known02 (l := args V.F)
      (xs := [.int .u64 (v : Int), .int .u64 (x : Int), .int .u64 (y : Int), .int .u8 (m : Int), .bool false]) rfl w tree8 (spot (m % 8) :: told pairs8)
      (spot_ok rfl (by omega) (told_ok ?_)) (fun _ h => by cases h) (List.all_eq_true.1 reckoned8 (m % 8) ?_)
    · intro p hp
      simp only [pairs8, List.mem_cons, List.mem_append] at hp
      rcases hp with rfl | hp | hp | hp
      · exact (ev_bytes80 e0).same e0 rfl
      · exact three8_ok e0 p hp
      · exact three8_ok e1 p hp
      · exact three8_ok e2 p hp
    · simp only [List.mem_cons, List.not_mem_nil, or_false]
      omega
  | true =>
    have e0 : Ev (leaves [.int .u64 (v : Int), .int .u64 (x : Int), .int .u64 (y : Int), .int .u8 (m : Int), .bool true]) (half 0) (v % 4294967296) := (Ev.leaf rfl (by omega)).rem 4294967296 (by decide)
    have e1 : Ev (leaves [.int .u64 (v : Int), .int .u64 (x : Int), .int .u64 (y : Int), .int .u8 (m : Int), .bool true]) (half 1) (x % 4294967296) := (Ev.leaf rfl (by omega)).rem 4294967296 (by decide)
    have e2 : Ev (leaves [.int .u64 (v : Int), .int .u64 (x : Int), .int .u64 (y : Int), .int .u8 (m : Int), .bool true]) (half 2) (y % 4294967296) := (Ev.leaf rfl (by omega)).rem 4294967296 (by decide)
    have m0 : v % 4294967296 < 4294967296 := Nat.mod_lt _ (by decide)
    have m1 : x % 4294967296 < 4294967296 := Nat.mod_lt _ (by decide)
    have m2 : y % 4294967296 < 4294967296 := Nat.mod_lt _ (by decide)
    by_cases hev : m % 2 = 0
    · refine called_cases (c := cfg02) (L := leaves [.int .u64 (v : Int), .int .u64 (x : Int), .int .u64 (y : Int), .int .u8 (m : Int), .bool true]) (leaves_leafy rfl) follows02 ext_ok02 known02 (l := args V.T)
        (xs := [.int .u64 (v : Int), .int .u64 (x : Int), .int .u64 (y : Int), .int .u8 (m : Int), .bool true]) rfl w tree4 (spot (m % 8) :: told pairsLow)
        (spot_ok rfl (by omega) (told_ok ?_)) (fun _ h => by cases h) (List.all_eq_true.1 reckonedLow (m % 8) ?_)
      · intro p hp
        simp only [pairsLow, List.mem_cons, List.mem_append] at hp
        rcases hp with rfl | hp | hp | hp
        · exact (ev_bytes40 e0 m0).same e0 rfl
        · exact three4_ok e0 m0 p hp
        · exact three4_ok e1 m1 p hp
        · exact three4_ok e2 m2 p hp
      · simp only [List.mem_cons, List.not_mem_nil, or_false]
        omega
    · refine called_cases (c := cfg02) (L := leaves [.int .u64 (v : Int), .int .u64 (x : Int), .int .u64 (y : Int), .int .u8 (m : Int), .bool true]) (leaves_leafy rfl) follows02 ext_ok02 known02 (l := args V.T)
        (xs := [.int .u64 (v : Int), .int .u64 (x : Int), .int .u64 (y : Int), .int .u8 (m : Int), .bool true]) rfl w tree4 (spot (m % 8) :: told pairsHigh)
        (spot_ok rfl (by omega) (told_ok ?_)) (fun _ h => by cases h) (List.all_eq_true.1 reckonedHigh (m % 8) ?_)
      · intro p hp
        simp only [pairsHigh, List.mem_cons, List.mem_append] at hp
        rcases hp with rfl | hp | hp | hp
        · exact (ev_bytes4 e0 m0).same e0 rfl
        · exact high4_ok e0 m0 p hp
        · exact high4_ok e1 m1 p hp
        · exact high4_ok e2 m2 p hp
      · simp only [List.mem_cons, List.not_mem_nil, or_false]
        omega

set_option maxRecDepth 100000 in
theorem lifted (os : Os) (started : os.Started) (H : Type) (enc : TypeId × Value → H) :
    ReturnsInHanded {} Try.checked os 4 .any (Rows.membufCasSpec.pre6 enc Try.prog Try.f4 Rows.membufCasRow.domain false) (Rows.membufCasSpec.post enc Try.prog Try.f4 false true false false) := by
  refine returnsInHanded_of_change (C := Try.checked) own started (by kernel_rfl) Try.func4
    (ChangeSpec.witness6 (enc := enc) (C := Try.checked) false ⟨#[], #[.int .u64 0, .int .u64 0, .int .u64 0, .int .u8 0, .bool false], []⟩ 8 (by kernel_rfl) (by kernel_rfl) (by kernel_rfl) (by kernel_rfl)) ?_
  intro W base args ds gs before hval0 hW hcnd _
  have hval : ∀ (j : Nat) t v, Try.f4.params[j]? = some t → args[j]? = some v → Value.okWide Try.prog W .any base t v := hval0
  have hW' := hW
  obtain ⟨p, q, hA0, hV, rfl, hfz, hnd⟩ := hW
  have hA : DataW.TrodAll enc Try.prog W 0 (fun _ => true) true Try.f4.params.toList args.toList ds p := hA0
  rw [Try.params4] at hA hval
  obtain ⟨v0, vs0, d0, ds0, p0, q0, hargs, rfl, rfl, h0, r0⟩ := trodAll_cons hA
  obtain ⟨v1, vs1, d1, ds1, p1, q1, rfl, rfl, rfl, h1, r1⟩ := trodAll_cons r0
  obtain ⟨v2, vs2, d2, ds2, p2, q2, rfl, rfl, rfl, h2, r2⟩ := trodAll_cons r1
  obtain ⟨v3, vs3, d3, ds3, p3, q3, rfl, rfl, rfl, h3, r3⟩ := trodAll_cons r2
  obtain ⟨v4, vs4, d4, ds4, p4, q4, rfl, rfl, rfl, h4, r4⟩ := trodAll_cons r3
  obtain ⟨rfl, rfl, rfl⟩ := trodAll_nil r4
  obtain rfl : args = #[v0, v1, v2, v3, v4] := by cases args; simp_all
  obtain ⟨rfl, rfl⟩ := trodVars_none hV
  obtain ⟨a0, rfl, rfl, rfl, w0⟩ := open_int Try.underlying23 (hval 0 23 v0 rfl rfl) h0
  obtain ⟨a1, rfl, rfl, rfl, w1⟩ := open_int Try.underlying23 (hval 1 23 v1 rfl rfl) h1
  obtain ⟨a2, rfl, rfl, rfl, w2⟩ := open_int Try.underlying23 (hval 2 23 v2 rfl rfl) h2
  obtain ⟨a3, rfl, rfl, rfl, w3⟩ := open_int Try.underlying5 (hval 3 5 v3 rfl rfl) h3
  obtain ⟨b4, rfl, rfl, rfl⟩ := open_bool Try.underlying4 (hval 4 4 v4 rfl rfl) h4
  clear hA0 hval0
  refine (walk a0 a1 a2 a3 b4 W w0 w1 w2 w3).mono fun e W' ⟨he, bel⟩ => ?_
  subst he
  exact ⟨_, rfl, _, _, _, [], _, [], hW', trodAll_mk1 (shut_bool Try.underlying4 _), (trodAll_cons_mk (shut_int Try.underlying23 w0) (trodAll_cons_mk (shut_int Try.underlying23 w1) (trodAll_cons_mk (shut_int Try.underlying23 w2) (trodAll_cons_mk (shut_int Try.underlying5 w3) (trodAll_cons_mk (shut_bool Try.underlying4 b4) trodAll_mk0))))), rfl, bel.frame _, fun h => by cases h⟩

theorem over : Rows.membufCasRow.holds Try.pinned (OpenSpec.ofChange Rows.membufCasSpec) :=
  OpenClaim.holds_of_wide 4 Try.f4 rfl rfl rfl rfl rfl rfl rfl ⟨rfl, rfl, rfl, rfl, rfl⟩ rfl rfl rfl rfl rfl (by kernel_rfl) Try.func4 (by kernel_rfl)
    (of_decide_eq_true (by kernel_rfl)) (by unfold Func.isWrapper; first | (rw [if_pos (by decide +kernel)]; kernel_rfl) | (rw [if_neg (by decide +kernel)]; exact ⟨rfl, rfl⟩))
    (fun os started H enc _ => lifted os started H enc)

theorem proved : Rows.MembufCasSaid := over
#print axioms proved
end Go.Proofs.Ythkeilbiklhogaa.membufCas
