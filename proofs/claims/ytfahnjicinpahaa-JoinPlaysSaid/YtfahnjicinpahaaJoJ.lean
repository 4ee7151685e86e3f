/- Both joiners, each told one fragment: for JoinPlays and JoinCuts. -/
import Derived.Test.YtfahnjicinpahaaJoI
namespace Go.Proofs.Ytfahnjicinpahaa
open Go.RowKit
set_option linter.unusedVariables false

theorem jst_narrow {w : World} {S : Nat → Prop} {B : Nat} {bs : List (List Int)} {d : Int} (h : JSt w S B (.slice none 0 0) bs d) : JSt w (fun k => k = B) B (.slice none 0 0) bs d :=
  ⟨rfl, h.lt, h.c0, h.c1, h.c2, h.fz, h.own, (fun k hk => by cases hk), h.none⟩

/-- What Push answered: a row of one's own, out of what the joiners hold. -/
def Gave (w : World) (SJ SR : Nat → Prop) (base : Nat) (v : Value) (W : Option (List Int)) : Prop :=
  match W with
  | none => v = .slice none 0 0
  | some W => w.ownsRow base 5 1 v W.length (bcells W) ∧ ∀ k, v.ownBlock = some k → ¬ SJ k ∧ ¬ SR k

/-- The program's joiner is told a fragment. -/
theorem jpush_play (w0 w : World) (SJ SR : Nat → Prop) (B R : Nat) (bJ : List (List Int)) (dJ : Int) (bR : List (List Int)) (dR e f : Int) (ad : Option Addr) (cap : Nat) (D : List Int) (h : Two w0 w (fun _ => False) SJ SR B R bJ dJ bR dR)
    (hD : Ints .u8 w (.slice ad D.length cap) D) (hDc : D.length ≤ cap) (hDs : ∀ x, ad = some x → D ≠ [] → ¬ SJ x.block) (hf0 : 0 ≤ f) (hf1 : f ≤ 255) (hfl : bJ.flatten.length ≤ 131072) (hDl : D.length ≤ 40000) (hd0 : 0 ≤ dJ) (hd : dJ + bJ.length ≤ 900000) :
    Calls Try.prog 12 #[.pointer (some ⟨B, 0, none⟩), .agg #[.int .i64 e, .int .u8 f, .slice ad D.length cap]] w fun en w' =>
      ∃ v, en = .returned (.tuple #[v, .bool (jWhole bJ f D).isSome]) ∧ ∃ SJ', Two w0 w' (fun _ => False) SJ' SR B R (jNext bJ f D) (jDrop bJ dJ f D) bR dR ∧ Gave w' SJ' SR w0.heap.size v (jWhole bJ f D) ∧ Kept SJ w w' ∧ (∀ k, SJ' k → SJ k ∨ w.heap.size ≤ k) ∧ (∀ k, v.ownBlock = some k → SJ k ∨ w.heap.size ≤ k) := by
  obtain ⟨s, hj⟩ := h.j
  refine (jpush_any w SJ B s bJ dJ e f ad cap D hj (fun k hk => (h.ltJ k hk).2) hD hDc hDs hf0 hf1 hfl hDl hd0 hd).mono ?_
  rintro en w' ⟨v, ok, s', rfl, hk, hst, hm⟩
  obtain ⟨s2, vs2, hr⟩ := h.r
  have hr' := hr.keep hk (fun k hk2 hk3 => h.dis k hk3 hk2)
  have hT : ∀ SJ', (∃ s, JSt w' SJ' B s (jNext bJ f D) (jDrop bJ dJ f D)) → (∀ k, SJ' k → SJ k ∨ (w.heap.size ≤ k ∧ k < w'.heap.size)) → Two w0 w' (fun _ => False) SJ' SR B R (jNext bJ f D) (jDrop bJ dJ f D) bR dR := by
    intro SJ' h1 h2
    refine ⟨h1, ⟨s2, vs2, hr'⟩, ?_, ?_, ?_, fun k hh => hh.elim, below_kept h.bel hk fun k hk2 => (h.ltJ k hk2).1⟩
    · intro k hk1 hk3
      rcases h2 k hk1 with hk2 | hk2
      · exact h.dis k hk2 hk3
      · have := (h.ltR k hk3).2; omega
    · intro k hk1
      rcases h2 k hk1 with hk2 | hk2
      · exact ⟨(h.ltJ k hk2).1, Nat.lt_of_lt_of_le (h.ltJ k hk2).2 hk.size⟩
      · have := h.bel.size; exact ⟨by omega, hk2.2⟩
    · intro k hk2
      exact ⟨(h.ltR k hk2).1, Nat.lt_of_lt_of_le (h.ltR k hk2).2 hk.size⟩
  cases hw : jWhole bJ f D with
  | none =>
    rw [hw] at hm
    obtain ⟨rfl, rfl⟩ := hm
    exact ⟨_, rfl, newS SJ w w', hT _ ⟨s', hst⟩ (fun k hk2 => hk2), rfl, hk, (fun k hk2 => hk2.imp_right fun hh => hh.1), fun k hk2 => by cases hk2⟩
  | some W =>
    rw [hw] at hm
    obtain ⟨rfl, h1, h2⟩ := hm
    have hnx : jNext bJ f D = [] := by
      unfold jWhole at hw
      split at hw
      · rename_i hh; simp at hh; simp [jNext, hh]
      · cases hw
    have hs' : s' = .slice none 0 0 := hst.none hnx
    subst hs'
    have hBJ : SJ B := hj.blk
    refine ⟨v, rfl, (fun k => k = B), hT _ ⟨_, jst_narrow hst⟩ (fun k hk2 => .inl (by rw [hk2]; exact hBJ)), ⟨?_, fun k hk2 => ⟨(h2 k hk2).2, fun hh => ?_⟩⟩, hk, (fun k hk2 => .inl (by rw [hk2]; exact hBJ)), fun k hk2 => (h2 k hk2).1.imp_right fun hh => hh.1⟩
    · refine ⟨h1.1, h1.2.imp_right ?_⟩
      rintro ⟨g, c, cur, hv, _, r⟩
      refine ⟨g, c, cur, hv, ?_, r⟩
      rcases (h2 g (by rw [hv]; rfl)).1 with h3 | h3
      · exact (h.ltJ g h3).1
      · have := h.bel.size; omega
    · rcases (h2 k hk2).1 with h3 | h3
      · exact h.dis k h3 hh
      · have := (h.ltR k hh).2; omega

/-- The document's joiner is told a fragment. -/
theorem rpush_play (w0 w : World) (SJ SR : Nat → Prop) (B R : Nat) (bJ : List (List Int)) (dJ : Int) (bR : List (List Int)) (dR e f : Int) (ad : Option Addr) (cap : Nat) (D : List Int) (h : Two w0 w (fun _ => False) SJ SR B R bJ dJ bR dR)
    (hD : Ints .u8 w (.slice ad D.length cap) D) (hDc : D.length ≤ cap) (hDs : ∀ x, ad = some x → D ≠ [] → ¬ SR x.block) (hf0 : 0 ≤ f) (hf1 : f ≤ 255) (hfl : bR.flatten.length ≤ 131072) (hDl : D.length ≤ 40000) (hd0 : 0 ≤ dR) (hd : dR + bR.length ≤ 900000) :
    Calls Try.prog 13 #[.pointer (some ⟨R, 0, none⟩), .agg #[.int .i64 e, .int .u8 f, .slice ad D.length cap]] w fun en w' =>
      ∃ v, en = .returned (.tuple #[v, .bool (jWhole bR f D).isSome]) ∧ ∃ SR', Two w0 w' (fun _ => False) SJ SR' B R bJ dJ (jNext bR f D) (jDrop bR dR f D) ∧ (match jWhole bR f D with | none => v = .slice none 0 0 | some W => w'.ownsRow w.heap.size 5 1 v W.length (bcells W)) ∧ Kept SR w w' ∧ (∀ k, SR' k → SR k ∨ w.heap.size ≤ k) := by
  obtain ⟨s, vs, hr⟩ := h.r
  refine (rpush_any w SR R s vs bR dR e f ad cap D hr (fun k hk => (h.ltR k hk).2) hD hDc hDs hf0 hf1 hfl hDl hd0 hd).mono ?_
  rintro en w' ⟨v, ok, s', vs', rfl, hk, hst, hm⟩
  have hT : Two w0 w' (fun _ => False) SJ (newS SR w w') B R bJ dJ (jNext bR f D) (jDrop bR dR f D) := by
    obtain ⟨s2, hj⟩ := h.j
    refine ⟨⟨s2, hj.keep hk (fun k hk2 hk3 => h.dis k hk2 hk3)⟩, ⟨s', vs', hst⟩, ?_, ?_, ?_, fun k hh => hh.elim, below_kept h.bel hk fun k hk2 => (h.ltR k hk2).1⟩
    · rintro k hk3 (hk2 | hk2)
      · exact h.dis k hk3 hk2
      · have := (h.ltJ k hk3).2; omega
    · intro k hk2
      exact ⟨(h.ltJ k hk2).1, Nat.lt_of_lt_of_le (h.ltJ k hk2).2 hk.size⟩
    · rintro k (hk2 | hk2)
      · exact ⟨(h.ltR k hk2).1, Nat.lt_of_lt_of_le (h.ltR k hk2).2 hk.size⟩
      · have := h.bel.size; exact ⟨by omega, hk2.2⟩
  cases hw : jWhole bR f D with
  | none =>
    rw [hw] at hm
    obtain ⟨rfl, rfl⟩ := hm
    exact ⟨_, rfl, _, hT, rfl, hk, fun k hk2 => hk2.imp_right fun hh => hh.1⟩
  | some W =>
    rw [hw] at hm
    obtain ⟨rfl, h1⟩ := hm
    exact ⟨v, rfl, _, hT, h1, hk, fun k hk2 => hk2.imp_right fun hh => hh.1⟩

end Go.Proofs.Ytfahnjicinpahaa
