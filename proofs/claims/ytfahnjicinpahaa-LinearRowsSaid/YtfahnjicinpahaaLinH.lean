/- Calls of a queue in a row, as they are handed in; the document's Does; the statement's walk. -/
import Derived.Test.YtfahnjicinpahaaLinG
import Derived.ChangeSlices
import Derived.Deep.Fields
namespace Go.Proofs.Ytfahnjicinpahaa
open Go.RowKit Go.ChangeShapes
set_option linter.unusedVariables false

theorem each_list {α : Type} (d : α) (P : Nat → α → Prop) : ∀ (n : Nat), (∀ k, k < n → ∃ x, P k x) → ∃ l : List α, l.length = n ∧ ∀ k, k < n → P k (l.getD k d)
  | 0, _ => ⟨[], rfl, fun k hk => by omega⟩
  | n + 1, h => by
    obtain ⟨l, hl, hp⟩ := each_list d P n fun k hk => h k (by omega)
    obtain ⟨x, hx⟩ := h n (by omega)
    refine ⟨l ++ [x], by simp [hl], fun k hk => ?_⟩
    rcases Nat.lt_or_ge k n with hlt | hge
    · have := hp k hlt
      rw [List.getD_eq_getElem?_getD, List.getElem?_append_left (by omega), ← List.getD_eq_getElem?_getD]
      exact this
    · obtain rfl : k = n := by omega
      rw [List.getD_eq_getElem?_getD, List.getElem?_append_right (by omega), hl]
      simpa using hx

/-- Calls that were handed in. -/
def QIn (w : World) (a : Option Addr) (len cap : Nat) (l : List QOp) : Prop := l.length = len ∧ QOps w (.slice a len cap) l ∧ (∀ q ∈ l, q.wf) ∧ len ≤ maxLen

section
variable {H : Type} {enc : TypeId × Value → H} {P : Program} {w : World} {base : Nat} {spare : Nat → Bool} {held : Bool}
theorem addr_spot {a : Addr} {v : Value} (h : w.cell? a = some v) : a.spot = none := World.cell?_spot h

theorem open_qops {t e : TypeId} {f0 f1 f2 f3 : Field} {fuel : Nat} {cs : List Value} {x : DataW H × List MemPlace} (ht : P.underlying t = some (.slice e)) (he : P.underlying e = some (.struct #[f0, f1, f2, f3])) (hone : Go.Deep.oneCellFields P #[f0, f1, f2, f3] = true) (hC : P.cellsOf e = 4)
    (h0 : P.underlying f0.type = some .bool) (h1 : P.underlying f1.type = some (.int .i64)) (h2 : P.underlying f2.type = some (.int .i64)) (h3 : P.underlying f3.type = some (.int .i64)) (h : DataW.trod enc P w base spare held fuel t cs = some x) :
    ∃ p len cap l, cs = [.slice p len cap] ∧ QIn w p len cap l := by
  rcases DataW.trod_slice ht h with ⟨rfl, _⟩ | ⟨a, len, cap, elems, rest, n, _, rfl, rfl, hb, hl, hm, hlen, hel, _, _⟩
  · exact ⟨none, 0, 0, [], rfl, rfl, ⟨none, 0, rfl, Nat.le_refl _, .inl rfl⟩, fun q hq => (by cases hq), Nat.zero_le _⟩
  have each : ∀ k, k < len → ∃ q : QOp, q.wf ∧ w.cell? (a.add (k * 4)) = some (.bool q.put) ∧ w.cell? ((a.add (k * 4)).add 1) = some (.int .i64 q.v) ∧ w.cell? ((a.add (k * 4)).add 2) = some (.int .i64 q.f) ∧ w.cell? ((a.add (k * 4)).add 3) = some (.int .i64 q.t) := by
    intro k hk
    have hk2 := hel k hk
    rw [hC] at hk2
    obtain ⟨y, hy⟩ : ∃ y, elems[k]? = some y := ⟨elems[k], by simp [hlen, hk]⟩
    rw [hy, Option.bind_eq_some_iff] at hk2
    obtain ⟨c4, hc4, ht4⟩ := hk2
    obtain ⟨_, hlen4, hcell⟩ := World.cells?_some hc4
    obtain ⟨xs, m, _, hx, _, hxl, hg⟩ := DataW.trod_struct he ht4
    obtain ⟨o0, k0⟩ := Go.Deep.hone_of hone 0 f0 rfl
    obtain ⟨o1, k1⟩ := Go.Deep.hone_of hone 1 f1 rfl
    obtain ⟨o2, k2⟩ := Go.Deep.hone_of hone 2 f2 rfl
    obtain ⟨o3, k3⟩ := Go.Deep.hone_of hone 3 f3 rfl
    match c4, hlen4 with
    | [c0, c1, c2, c3], _ =>
      match xs, hxl with
      | [y0, y1, y2, y3], _ =>
        have g0 : DataW.trod enc P w base spare held m f0.type [c0] = some y0 := by simpa [o0, k0] using hg 0 f0 rfl
        have g1 : DataW.trod enc P w base spare held m f1.type [c1] = some y1 := by simpa [o1, k1] using hg 1 f1 rfl
        have g2 : DataW.trod enc P w base spare held m f2.type [c2] = some y2 := by simpa [o2, k2] using hg 2 f2 rfl
        have g3 : DataW.trod enc P w base spare held m f3.type [c3] = some y3 := by simpa [o3, k3] using hg 3 f3 rfl
        obtain ⟨b, e0, _⟩ := DataW.trod_bool h0 g0
        obtain ⟨v, e1, _, hw1⟩ := DataW.trod_int h1 g1
        obtain ⟨f, e2, _, hw2⟩ := DataW.trod_int h2 g2
        obtain ⟨t', e3, _, hw3⟩ := DataW.trod_int h3 g3
        obtain rfl : c0 = .bool b := by simpa using e0
        obtain rfl : c1 = .int .i64 v := by simpa using e1
        obtain rfl : c2 = .int .i64 f := by simpa using e2
        obtain rfl : c3 = .int .i64 t' := by simpa using e3
        refine ⟨⟨b, v, f, t'⟩, ⟨hw1, hw2, hw3⟩, ?_, ?_, ?_, ?_⟩
        · have := hcell 0 (by omega); simpa [Addr.add] using this
        · simpa using hcell 1 (by omega)
        · simpa using hcell 2 (by omega)
        · simpa using hcell 3 (by omega)
  obtain ⟨l, hll, hp⟩ := each_list q0 _ len each
  refine ⟨some a, len, cap, l, rfl, hll, ⟨some a, cap, by rw [hll], by omega, ?_⟩, fun q hq => ?_, Nat.le_trans hl hm⟩
  · rcases Nat.eq_zero_or_pos len with h00 | hpos
    · exact .inl (List.eq_nil_of_length_eq_zero (by omega))
    · right
      have hs0 : (a.add (0 * 4)).spot = none := addr_spot (hp 0 hpos).2.1
      obtain ⟨b, off, spt⟩ := a
      have hs : spt = none := by simpa [Addr.add] using hs0
      subst hs
      refine ⟨b, off, rfl, fun i hi => ?_⟩
      obtain ⟨_, e0, e1, e2, e3⟩ := hp i (by omega)
      have hadd : ∀ o j, (⟨b, o, none⟩ : Addr).add j = ⟨b, o + j, none⟩ := fun o j => by unfold Addr.add; split <;> simp_all
      rw [hadd] at e0 e1 e2 e3
      rw [hadd] at e1 e2 e3
      exact ⟨e0, e1, e2, e3⟩
  · obtain ⟨i, hi⟩ := List.getElem_of_mem hq
    obtain ⟨hi, rfl⟩ := hi
    have := (hp i (by omega)).1
    simpa [List.getD_eq_getElem?_getD, hi] using this
end

set_option maxRecDepth 100000 in
set_option maxHeartbeats 2000000 in
theorem rruns_any (w : World) (sl s : Value) (qs : List QOp) (zs : List Int) (hq : QOps w sl qs) (hs : IntsC .i64 w s zs) (hz : ∀ x ∈ zs, (Lit.int .i64 x).wf = true) (hn : qs.length ≤ 60) (hlen : zs.length ≤ 60) [Decidable (onceOk qs.length zs)] (B : Bool) (hB : B = true ↔ (zs.length = qs.length ∧ rowOk qs.length zs) ∧ (qst qs zs zs.length).isSome = true) :
    Calls Try.prog 24 #[sl, s] w fun e w' => e = .returned (.bool B) ∧ Below w.heap.size w w' := by
  have hs0 := hs.ints
  obtain ⟨al, capl, rfl, hcl, hql⟩ := hq
  obtain ⟨a, cap, rfl, hcz, hl⟩ := hs
  have HI := Lib.hid (once_any w qs.length _ zs hs0 hz hn hlen)
  have hsame : (zs.length = qs.length ∧ onceOk qs.length zs) ↔ (zs.length = qs.length ∧ rowOk qs.length zs) := by
    constructor
    · rintro ⟨h1, h2⟩; rw [← h1] at h2; exact ⟨h1, h1 ▸ rows_same.2 h2⟩
    · rintro ⟨h1, h2⟩; rw [← h1] at h2; exact ⟨h1, h1 ▸ rows_same.1 h2⟩
  have HS := Lib.hid hsame
  by_cases hrow : zs.length = qs.length ∧ rowOk qs.length zs
  · have HP := Lib.hid (plays_any w al capl a cap qs zs hcl hcz hql hl hn hlen hrow.2 B ⟨fun h => (hB.1 h).2, fun h => hB.2 ⟨hrow, h⟩⟩)
    have HROW := Lib.hid hrow
    clear hql hl hB hrow hs0 hz hsame
    go_enter Try.func24, Try.ntmps24
    go_wp2_with (first | (go_at_call 37; refine HI.out.mono ?_; rintro e w1 ⟨rfl, rfl⟩; rw [decide_eq_true (HS.out.2 HROW.out)]) | (go_at_call 39; refine HP.out.mono ?_; rintro e w2 ⟨rfl, hb⟩))
    go_ret
    exact ⟨rfl, hb⟩
  · have HROW := Lib.hid hrow
    have HF : Hid (B = false) := Lib.hid (Bool.eq_false_iff.2 fun h => hrow (hB.1 h).1)
    clear hql hl hB hrow hs0 hz hsame
    go_enter Try.func24, Try.ntmps24
    go_wp2_with (go_at_call 37; refine HI.out.mono ?_; rintro e w1 ⟨rfl, rfl⟩; rw [decide_eq_false fun h => HROW.out (HS.out.1 h)])
    go_ret
    exact ⟨by rw [HF.out]; rfl, Below.refl _ _⟩

end Go.Proofs.Ytfahnjicinpahaa
