/- A row of fragments that is handed in: each has bytes of its own. -/
import Derived.Test.YtfahnjicinpahaaJoF
import Derived.ChangeSlices
import Derived.Deep.Fields
namespace Go.Proofs.Ytfahnjicinpahaa
open Go.RowKit Go.ChangeShapes
set_option linter.unusedVariables false

structure FragV where
  e : Int
  f : Int
  a : Option Addr
  cap : Nat
  D : List Int
def fv0 : FragV := ⟨0, 0, none, 0, []⟩
structure FragV.ok (w : World) (x : FragV) : Prop where
  e : (Lit.int .i64 x.e).wf = true
  f0 : 0 ≤ x.f
  f1 : x.f ≤ 255
  cap : x.D.length ≤ x.cap
  data : Ints .u8 w (.slice x.a x.D.length x.cap) x.D
  bytes : ∀ n ∈ x.D, 0 ≤ n ∧ n ≤ 255
  max : x.D.length ≤ maxLen

def FragsC (w : World) (s : Value) (l : List FragV) : Prop :=
  ∃ a cap, s = .slice a l.length cap ∧ l.length ≤ cap ∧ (l = [] ∨ ∃ b off, a = some ⟨b, off, none⟩ ∧ ∀ i, i < l.length →
    w.cell? ⟨b, off + i * 3, none⟩ = some (.int .i64 (l.getD i fv0).e) ∧ w.cell? ⟨b, off + i * 3 + 1, none⟩ = some (.int .u8 (l.getD i fv0).f) ∧ w.cell? ⟨b, off + i * 3 + 2, none⟩ = some (.slice (l.getD i fv0).a (l.getD i fv0).D.length (l.getD i fv0).cap))

/-- Fragments that were handed in. -/
def FIn (w : World) (a : Option Addr) (len cap : Nat) (l : List FragV) : Prop := l.length = len ∧ FragsC w (.slice a len cap) l ∧ (∀ q ∈ l, q.ok w) ∧ len ≤ maxLen

theorem each_listF {α : Type} (d : α) (P : Nat → α → Prop) : ∀ (n : Nat), (∀ k, k < n → ∃ x, P k x) → ∃ l : List α, l.length = n ∧ ∀ k, k < n → P k (l.getD k d)
  | 0, _ => ⟨[], rfl, fun k hk => by omega⟩
  | n + 1, h => by
    obtain ⟨l, hl, hp⟩ := each_listF d P n fun k hk => h k (by omega)
    obtain ⟨x, hx⟩ := h n (by omega)
    refine ⟨l ++ [x], by simp [hl], fun k hk => ?_⟩
    rcases Nat.lt_or_ge k n with hlt | hge
    · have := hp k hlt
      rw [List.getD_eq_getElem?_getD, List.getElem?_append_left (by omega), ← List.getD_eq_getElem?_getD]
      exact this
    · obtain rfl : k = n := by omega
      rw [List.getD_eq_getElem?_getD, List.getElem?_append_right (by omega), hl]
      simpa using hx

theorem ints_at {k : IntKind} {w : World} {x : Addr} {len cap : Nat} {zs : List Int} (hl : len ≤ cap) (hm : cap ≤ maxLen) (hz : len ≤ zs.length) (hc : ∀ i, i < zs.length → w.cell? (x.add i) = some (.int k (zs.getD i 0))) (hwz : ∀ n ∈ zs, (Lit.int k n).wf = true) :
    Ints k w (.slice (some x) len cap) (zs.take len) ∧ (∀ n ∈ zs.take len, (Lit.int k n).wf = true) ∧ (zs.take len).length = len := by
  have hlen : (zs.take len).length = len := by simp; omega
  refine ⟨⟨some x, cap, by rw [hlen], ?_⟩, fun n hn => hwz n (List.mem_of_mem_take hn), hlen⟩
  by_cases h0 : len = 0
  · left; subst h0; simp
  · right
    obtain ⟨b, off, spot⟩ := x
    have hspot : spot = none := by simpa [Addr.add] using World.cell?_spot (hc 0 (by omega))
    subst hspot
    refine ⟨b, off, rfl, fun i hi => ?_⟩
    have := hc i (by omega)
    have e : (zs.take len).getD i 0 = zs.getD i 0 := by
      simp only [List.getD_eq_getElem?_getD, List.getElem?_take]
      rw [if_pos (by omega)]
    have hadd : (⟨b, off, none⟩ : Addr).add i = ⟨b, off + i, none⟩ := by unfold Addr.add; split <;> simp_all
    rw [e, ← this, hadd]

theorem rng_u8 {a : Int} (h : (Lit.int .u8 a).wf = true) : 0 ≤ a ∧ a ≤ 255 := by
  simp [Lit.wf, IntKind.min, IntKind.max, IntKind.bits, IntKind.signed] at h
  omega

section
variable {H : Type} {enc : TypeId × Value → H} {P : Program} {w : World} {base : Nat} {spare : Nat → Bool} {held : Bool}

theorem open_frags {t e u : TypeId} {f0 f1 f2 : Field} {fuel : Nat} {cs : List Value} {x : DataW H × List MemPlace} (ht : P.underlying t = some (.slice e)) (he : P.underlying e = some (.struct #[f0, f1, f2])) (hone : Go.Deep.oneCellFields P #[f0, f1, f2] = true) (hC : P.cellsOf e = 3)
    (h0 : P.underlying f0.type = some (.int .i64)) (h1 : P.underlying f1.type = some (.int .u8)) (h2 : P.underlying f2.type = some (.slice u)) (h3 : P.underlying u = some (.int .u8)) (h4 : P.cellsOf u = 1) (h : DataW.trod enc P w base spare held fuel t cs = some x) :
    ∃ p len cap l, cs = [.slice p len cap] ∧ FIn w p len cap l := by
  rcases DataW.trod_slice ht h with ⟨rfl, _⟩ | ⟨a, len, cap, elems, rest, n, _, rfl, rfl, hb, hl, hm, hlen, hel, _, _⟩
  · exact ⟨none, 0, 0, [], rfl, rfl, ⟨none, 0, rfl, Nat.le_refl _, .inl rfl⟩, fun q hq => (by cases hq), Nat.zero_le _⟩
  have each : ∀ k, k < len → ∃ q : FragV, q.ok w ∧ w.cell? (a.add (k * 3)) = some (.int .i64 q.e) ∧ w.cell? ((a.add (k * 3)).add 1) = some (.int .u8 q.f) ∧ w.cell? ((a.add (k * 3)).add 2) = some (.slice q.a q.D.length q.cap) := by
    intro k hk
    have hk2 := hel k hk
    rw [hC] at hk2
    obtain ⟨y, hy⟩ : ∃ y, elems[k]? = some y := ⟨elems[k], by simp [hlen, hk]⟩
    rw [hy, Option.bind_eq_some_iff] at hk2
    obtain ⟨c4, hc4, ht4⟩ := hk2
    obtain ⟨_, hlen4, hcell⟩ := World.cells?_some hc4
    obtain ⟨xs, m, _, hx, _, hxl, hg⟩ := DataW.trod_struct he ht4
    obtain ⟨o0, k0⟩ := Go.Deep.hone_of hone 0 f0 rfl
    obtain ⟨o1, k1⟩ := Go.Deep.hone_of hone 1 f1 rfl
    obtain ⟨o2, k2⟩ := Go.Deep.hone_of hone 2 f2 rfl
    match c4, hlen4 with
    | [c0, c1, c2], _ =>
      match xs, hxl with
      | [y0, y1, y2], _ =>
        have g0 : DataW.trod enc P w base spare held m f0.type [c0] = some y0 := by simpa [o0, k0] using hg 0 f0 rfl
        have g1 : DataW.trod enc P w base spare held m f1.type [c1] = some y1 := by simpa [o1, k1] using hg 1 f1 rfl
        have g2 : DataW.trod enc P w base spare held m f2.type [c2] = some y2 := by simpa [o2, k2] using hg 2 f2 rfl
        obtain ⟨b, e0, _, hw0⟩ := DataW.trod_int h0 g0
        obtain ⟨v, e1, _, hw1⟩ := DataW.trod_int h1 g1
        obtain rfl : c0 = .int .i64 b := by simpa using e0
        obtain rfl : c1 = .int .u8 v := by simpa using e1
        obtain ⟨hv0, hv1⟩ := rng_u8 hw1
        have hq0 : w.cell? (a.add (k * 3)) = some (.int .i64 b) := by have := hcell 0 (by omega); simpa [Addr.add] using this
        have hq1 : w.cell? ((a.add (k * 3)).add 1) = some (.int .u8 v) := by simpa using hcell 1 (by omega)
        have hq2 : w.cell? ((a.add (k * 3)).add 2) = some c2 := by simpa using hcell 2 (by omega)
        rcases open_ints h2 h3 h4 g2 with ⟨hcs, _⟩ | ⟨ad, l, c, zs, hcs, _, hlc, hcm, hz, _, hcel, hwz⟩
        · obtain rfl : c2 = .slice none 0 0 := by simpa using hcs
          exact ⟨⟨b, v, none, 0, []⟩, ⟨hw0, hv0, hv1, Nat.le_refl _, ⟨none, 0, rfl, .inl rfl⟩, (fun n hn => by cases hn), Nat.zero_le _⟩, hq0, hq1, hq2⟩
        · obtain rfl : c2 = .slice (some ad) l c := by simpa using hcs
          obtain ⟨i1, i2, i3⟩ := ints_at hlc hcm (by rw [hz]; split <;> omega) hcel hwz
          exact ⟨⟨b, v, some ad, c, zs.take l⟩, ⟨hw0, hv0, hv1, by show (zs.take l).length ≤ c; omega, by show Ints _ _ (.slice (some ad) (zs.take l).length c) _; rw [i3]; exact i1, (fun n hn => rng_u8 (i2 n hn)), by show (zs.take l).length ≤ maxLen; omega⟩, hq0, hq1, by show _ = some (Value.slice (some ad) (zs.take l).length c); rw [i3]; exact hq2⟩
  obtain ⟨l, hll, hp⟩ := each_listF fv0 _ len each
  refine ⟨some a, len, cap, l, rfl, hll, ⟨some a, cap, by rw [hll], by omega, ?_⟩, fun q hq => ?_, Nat.le_trans hl hm⟩
  · rcases Nat.eq_zero_or_pos len with h00 | hpos
    · exact .inl (List.eq_nil_of_length_eq_zero (by omega))
    · right
      have hs0 : (a.add (0 * 3)).spot = none := World.cell?_spot (hp 0 hpos).2.1
      obtain ⟨b, off, spt⟩ := a
      have hs : spt = none := by simpa [Addr.add] using hs0
      subst hs
      refine ⟨b, off, rfl, fun i hi => ?_⟩
      obtain ⟨_, e0, e1, e2⟩ := hp i (by omega)
      have hadd : ∀ o j, (⟨b, o, none⟩ : Addr).add j = ⟨b, o + j, none⟩ := fun o j => by unfold Addr.add; split <;> simp_all
      rw [hadd] at e0 e1 e2
      rw [hadd] at e1 e2
      exact ⟨e0, e1, e2⟩
  · obtain ⟨i, hi⟩ := List.getElem_of_mem hq
    obtain ⟨hi, rfl⟩ := hi
    have := (hp i (by omega)).1
    simpa [List.getD_eq_getElem?_getD, hi] using this
end

end Go.Proofs.Ytfahnjicinpahaa
