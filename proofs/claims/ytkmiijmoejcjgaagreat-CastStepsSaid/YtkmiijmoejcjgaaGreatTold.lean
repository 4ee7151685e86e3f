/- Answers in a row, as they are handed in. -/
import Derived.Test.YtkmiijmoejcjgaaGreatXFour
import Derived.ChangeSlices
import Derived.Deep.Fields
namespace Go.X
open Go.RowKit Go.ChangeShapes

section
variable {H : Type} {enc : TypeId × Value → H} {P : Program} {w : World} {base : Nat} {spare : Nat → Bool} {held : Bool}

theorem cell_spot {a : Addr} {v : Value} (h : w.cell? a = some v) : ∃ cs t fr, a.spot = none ∧ w.heap[a.block]? = some (.cells cs t fr) ∧ cs[a.off]? = some v := by
  unfold World.cell? at h
  split at h
  · rename_i c t fr hc
    split at h
    · cases h
    · rename_i hs
      exact ⟨c, t, fr, by simpa using hs, hc, h⟩
  · cases h

theorem open_told {t e eb : TypeId} {f0 f1 f2 : Field} {fuel : Nat} {cs : List Value} {x : DataW H × List MemPlace} (ht : P.underlying t = some (.slice e)) (he : P.underlying e = some (.struct #[f0, f1, f2])) (hone : Go.Deep.oneCellFields P #[f0, f1, f2] = true) (hC : P.cellsOf e = 3)
    (h0 : P.underlying f0.type = some (.int .u64)) (h1 : P.underlying f1.type = some .bool) (h2 : P.underlying f2.type = some (.slice eb)) (h : DataW.trod enc P w base spare held fuel t cs = some x) :
    ∃ p len cap g, cs = [.slice p len cap] ∧ Told w p len cap g ∧ len ≤ maxLen ∧ ∀ k, k < len → (∃ v, g k 0 = .int .u64 v ∧ (Lit.int .u64 v).wf = true) ∧ (∃ b, g k 1 = .bool b) ∧ ∃ p n c, g k 2 = .slice p n c := by
  rcases DataW.trod_slice ht h with ⟨rfl, _⟩ | ⟨a, len, cap, elems, rest, n, _, rfl, rfl, hb, hl, hm, hlen, hel, _, _⟩
  · exact ⟨none, 0, 0, fun _ _ => .bool false, rfl, .inl ⟨rfl, rfl, rfl⟩, Nat.zero_le _, fun k hk => absurd hk (by omega)⟩
  have each : ∀ k, k < len → ∃ v b p m c, (Lit.int .u64 v).wf = true ∧ w.cell? (a.add (k * 3)) = some (.int .u64 v) ∧ w.cell? ((a.add (k * 3)).add 1) = some (.bool b) ∧ w.cell? ((a.add (k * 3)).add 2) = some (.slice p m c) := by
    intro k hk
    have hk2 := hel k hk
    rw [hC] at hk2
    obtain ⟨y, hy⟩ : ∃ y, elems[k]? = some y := ⟨elems[k], by simp [hlen, hk]⟩
    rw [hy, Option.bind_eq_some_iff] at hk2
    obtain ⟨c3, hc3, ht3⟩ := hk2
    obtain ⟨_, hlen3, hcell⟩ := World.cells?_some hc3
    obtain ⟨xs, m, _, hx, _, hxl, hg⟩ := DataW.trod_struct he ht3
    obtain ⟨o0, k0⟩ := Go.Deep.hone_of hone 0 f0 rfl
    obtain ⟨o1, k1⟩ := Go.Deep.hone_of hone 1 f1 rfl
    obtain ⟨o2, k2⟩ := Go.Deep.hone_of hone 2 f2 rfl
    match c3, hlen3 with
    | [c0, c1, c2], _ =>
      match xs, hxl with
      | [y0, y1, y2], _ =>
        have g0 : DataW.trod enc P w base spare held m f0.type [c0] = some y0 := by simpa [o0, k0] using hg 0 f0 rfl
        have g1 : DataW.trod enc P w base spare held m f1.type [c1] = some y1 := by simpa [o1, k1] using hg 1 f1 rfl
        have g2 : DataW.trod enc P w base spare held m f2.type [c2] = some y2 := by simpa [o2, k2] using hg 2 f2 rfl
        obtain ⟨v, e0, _, hw⟩ := DataW.trod_int h0 g0
        obtain ⟨b, e1, _⟩ := DataW.trod_bool h1 g1
        obtain rfl : c0 = .int .u64 v := by simpa using e0
        obtain rfl : c1 = .bool b := by simpa using e1
        have e2 : ∃ p m c, c2 = .slice p m c := by
          rcases DataW.trod_slice h2 g2 with ⟨q, _⟩ | ⟨a', l', c', _, _, _, _, q, _⟩
          · exact ⟨none, 0, 0, by simpa using q⟩
          · exact ⟨some a', l', c', by simpa using q⟩
        obtain ⟨p, mm, c, rfl⟩ := e2
        refine ⟨v, b, p, mm, c, hw, ?_, ?_, ?_⟩
        · have := hcell 0 (by omega); simpa [Addr.add] using this
        · simpa using hcell 1 (by omega)
        · simpa using hcell 2 (by omega)
  rcases Nat.eq_zero_or_pos len with h00 | hpos
  · exact ⟨some a, len, cap, fun _ _ => .bool false, rfl, .inr (.inl ⟨a, rfl, h00, hl⟩), Nat.le_trans hl hm, fun k hk => absurd hk (by omega)⟩
  · obtain ⟨v, _, _, _, _, _, hc0, _⟩ := each 0 hpos
    have hc0' : w.cell? a = some (.int .u64 v) := by simpa [Addr.add] using hc0
    obtain ⟨cs, tt, fr, hs, hh, _⟩ := cell_spot hc0'
    obtain ⟨b, off, spt⟩ := a
    have hs : spt = none := hs
    subst hs
    have hh : w.heap[b]? = some (.cells cs tt fr) := hh
    have cell : ∀ i y, w.cell? ⟨b, i, none⟩ = some y → cs[i]? = some y := fun i y hy => by
      obtain ⟨cs', t', fr', _, h1, h2⟩ := cell_spot hy
      rw [show w.heap[(⟨b, i, none⟩ : Addr).block]? = w.heap[b]? from rfl, hh] at h1
      cases h1
      exact h2
    have key : ∀ k, k < len → ∃ v b' p m c, (Lit.int .u64 v).wf = true ∧ cs[off + k * 3 + 0]? = some (.int .u64 v) ∧ cs[off + k * 3 + 1]? = some (.bool b') ∧ cs[off + k * 3 + 2]? = some (.slice p m c) := by
      intro k hk
      obtain ⟨v, b', p, m, c, hw, e0, e1, e2⟩ := each k hk
      rw [add_addr] at e0 e1 e2
      rw [add_addr] at e1 e2
      exact ⟨v, b', p, m, c, hw, cell _ _ e0, cell _ _ e1, cell _ _ e2⟩
    refine ⟨some ⟨b, off, none⟩, len, cap, fun k j => (cs[off + k * 3 + j]?).getD (.bool false), rfl, .inr (.inr ⟨b, off, cs, tt, fr, rfl, hl, hh, fun k j hk hj => ?_⟩), Nat.le_trans hl hm, fun k hk => ?_⟩
    · obtain ⟨v, b', p, m, c, _, e0, e1, e2⟩ := key k hk
      have : j = 0 ∨ j = 1 ∨ j = 2 := by omega
      rcases this with rfl | rfl | rfl
      · show _ = some ((cs[off + k * 3 + 0]?).getD (.bool false))
        rw [e0]; rfl
      · show _ = some ((cs[off + k * 3 + 1]?).getD (.bool false))
        rw [e1]; rfl
      · show _ = some ((cs[off + k * 3 + 2]?).getD (.bool false))
        rw [e2]; rfl
    · obtain ⟨v, b', p, m, c, hw, e0, e1, e2⟩ := key k hk
      exact ⟨⟨v, by show (cs[off + k * 3 + 0]?).getD _ = _; rw [e0]; rfl, hw⟩, ⟨b', by show (cs[off + k * 3 + 1]?).getD _ = _; rw [e1]; rfl⟩, p, m, c, by show (cs[off + k * 3 + 2]?).getD _ = _; rw [e2]; rfl⟩
end

end Go.X
