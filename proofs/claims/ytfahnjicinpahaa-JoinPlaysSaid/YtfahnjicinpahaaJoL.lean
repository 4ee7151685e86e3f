/- For JoinPlays: bytes copied; bytes changed; what both pushes gave. -/
import Derived.Test.YtfahnjicinpahaaJoJ
namespace Go.Proofs.Ytfahnjicinpahaa
open Go.RowKit
set_option linter.unusedVariables false

/-- 'append([]byte{}, b...)'. -/
theorem wpList_append_bytes {P : Program} {w : World} {ops : Array Oper} {rest : List Oper} {o : Oper} {a : Act} {Q : Exit → Act → World → Prop} (hgd : o.guard = none) (s x : Operand) (t : TypeId)
    (ho : o.op = .call { callee := .builtin .append, args := #[s, x], argTypes := #[t, t] })
    (base : Nat) (e : TypeId) (i : TypeInfo) (ht : P.underlying t = some (.slice e)) (hi : P.info? e = some i) (hz : i.zero = some (.int .u8 0)) (hsize : i.size = 1) (hby : i.bytes = 1)
    (H : Nat) (hs : a.eval s = .slice (some ⟨H, 0, none⟩) 0 0) (hown : w.ownsRow base e 1 (.slice (some ⟨H, 0, none⟩) 0 0) 0 []) (ad : Option Addr) (c : Nat) (D : List Int) (hx : a.eval x = .slice ad D.length c) (hD : Ints .u8 w (.slice ad D.length c) D) (hl : D.length ≤ 1000000)
    (h : ∀ g c' w', w'.ownsRow base e 1 (.slice (some ⟨g, 0, none⟩) D.length c') D.length (bcells D) → w.grownBy w' (some H) → wpList P ops Q rest (a.put o.dst (.slice (some ⟨g, 0, none⟩) D.length c')) w') : wpList P ops Q (o :: rest) a w := by
  have hbw : base ≤ w.heap.size := by have := hown.lt H rfl; omega
  by_cases hD0 : D = []
  · subst hD0
    refine wpList_append_none hgd s x t ho e i ht hi _ 0 0 hs (Nat.le_refl _) ad c hx ?_
    exact h H 0 w hown ⟨rfl, rfl, rfl, Nat.le_refl _, fun _ _ _ => rfl⟩
  · obtain ⟨a', c1, e1, hc⟩ := hD
    cases e1
    rcases hc with rfl | ⟨b, off, rfl, hc⟩
    · exact absurd rfl hD0
    refine wpList_append_lies w hgd s x t ho base e i (.int .u8 0) 1 1 ht hi hz hsize hby rfl (by decide) (.slice (some ⟨H, 0, none⟩) 0 0) 0 [] hs hown ⟨b, off, none⟩ D.length c (bcells D) hx (by simp [bcells]) (fun j u hj => ?_) (fun u hu => by obtain ⟨y, _, rfl⟩ := List.mem_map.1 hu; rfl) (List.length_pos_iff.2 hD0) (by unfold maxLen; omega) (by omega) hbw _ rfl ?_
    · have hjl : j < D.length := by have := (List.getElem?_eq_some_iff.1 hj).1; simpa [bcells] using this
      have hadd : (⟨b, off, none⟩ : Addr).add j = ⟨b, off + j, none⟩ := by unfold Addr.add; split <;> simp_all
      rw [hadd, hc j hjl, ← hj]
      simp [bcells, List.getD_eq_getElem?_getD, hjl]
    · intro g c' w' h2 h3 _ _
      rw [Nat.zero_add] at h2 ⊢
      rw [List.nil_append] at h2
      exact h g c' w' h2 h3

theorem gave_row {w : World} {SJ SR : Nat → Prop} {base : Nat} {v : Value} {W : Option (List Int)} (h : Gave w SJ SR base v W) : w.ownsRow base 5 1 v (W.getD []).length (bcells (W.getD [])) ∧ ∀ k, v.ownBlock = some k → ¬ SJ k ∧ ¬ SR k := by
  cases W with
  | none =>
    have : v = .slice none 0 0 := h
    subst this
    exact ⟨World.ownsRow_nil _ _ _ _, fun k hk => by cases hk⟩
  | some W => exact h

theorem ints_own {w : World} {base : Nat} {e : TypeId} {v : Value} {D : List Int} (h : w.ownsRow base e 1 v D.length (bcells D)) : Ints .u8 w v D := Ints.of_owned h

/-- Both joiners, begun. -/
theorem two_start {w w1 w2 : World} (hb1 : Below w.heap.size w w1) (hk2 : Kept (fun _ => False) w1 w2) (hj2 : JSt w2 (fun k => w1.heap.size ≤ k ∧ k < w2.heap.size) w1.heap.size (.slice none 0 0) [] 0) :
    Two w (w2.alloc (.cells #[.slice none 0 0, .int .i64 0] 30)) (fun _ => False) (fun k => w1.heap.size ≤ k ∧ k < w2.heap.size) (fun k => k = w2.heap.size) w1.heap.size w2.heap.size [] 0 [] 0 := by
  obtain ⟨wa, hwa⟩ : ∃ wa, wa = w2.alloc (.cells #[.slice none 0 0, .int .i64 0] 30) := ⟨_, rfl⟩
  have hwas : wa.heap.size = w2.heap.size + 1 := by rw [hwa]; simp
  have hka : Kept (fun _ => False) w2 wa := by rw [hwa]; exact (Kept.refl _ w2).alloc _
  have hr : RSt wa (fun k => k = w2.heap.size) w2.heap.size (.slice none 0 0) [] [] 0 :=
    ⟨rfl, by omega, by rw [hwa]; simp, by rw [hwa]; simp, fun i => by rw [hwa]; unfold World.frozen?; rw [heap_alloc_new]; simp, rfl, World.ownsRow_nil _ _ _ _, (fun k hk => by cases hk), (fun i v b h1 _ => by simp at h1)⟩
  rw [← hwa]
  have s1 := hb1.size
  have s2 := hk2.size
  refine ⟨⟨_, hj2.keep hka (fun _ _ hh => hh)⟩, ⟨_, _, hr⟩, ?_, ?_, ?_, fun k hh => hh.elim, below_kept (below_kept hb1 hk2 (fun _ hh => hh.elim)) hka (fun _ hh => hh.elim)⟩
  · rintro k ⟨h1, h2⟩ h3; omega
  · rintro k ⟨h1, h2⟩; omega
  · rintro k rfl; omega

/-- Bytes, all of them. -/
def Bytes8 (bs : List (List Int)) : Prop := ∀ b ∈ bs, ∀ n ∈ b, 0 ≤ n ∧ n ≤ 255
theorem jBegun_bytes {bs : List (List Int)} {f : Int} (h : Bytes8 bs) : Bytes8 (jBegun bs f) := by
  unfold jBegun
  split
  · intro b hb; cases hb
  · exact h
theorem jNext_bytes {bs : List (List Int)} {f : Int} {D : List Int} (h : Bytes8 bs) (hD : ∀ n ∈ D, 0 ≤ n ∧ n ≤ 255) : Bytes8 (jNext bs f D) := by
  unfold jNext
  split
  · intro b hb; cases hb
  · intro b hb
    rcases List.mem_append.1 hb with h1 | h1
    · exact jBegun_bytes h b h1
    · rw [List.mem_singleton] at h1; subst h1; exact hD
theorem jWhole_bytes {bs : List (List Int)} {f : Int} {D : List Int} (h : Bytes8 bs) (hD : ∀ n ∈ D, 0 ≤ n ∧ n ≤ 255) : ∀ n ∈ (jWhole bs f D).getD [], 0 ≤ n ∧ n ≤ 255 := by
  unfold jWhole
  split
  · intro n hn
    simp only [Option.getD_some] at hn
    rcases List.mem_append.1 hn with h1 | h1
    · obtain ⟨b, hb, hn2⟩ := List.mem_flatten.1 h1
      exact jBegun_bytes h b hb n hn2
    · exact hD n h1
  · intro n hn; cases hn

/-- A row of bytes of one's own, one of them changed. -/
theorem row_inc {w : World} {base : Nat} {e : TypeId} {g c n : Nat} {L : List Int} (h : w.ownsRow base e 1 (.slice (some ⟨g, 0, none⟩) n c) n (bcells L)) (hL : L.length = n) (j : Nat) (hj : j < n) (x : Int) :
    (w.setCell ⟨g, j, none⟩ (.int .u8 x)).ownsRow base e 1 (.slice (some ⟨g, 0, none⟩) n c) n (bcells (L.set j x)) := by
  have := h.stored j (.int .u8 x)
  have e1 : bcells (L.set j x) = (bcells L).set j (.int .u8 x) := by simp [bcells, List.map_set]
  rw [e1]
  exact this.1

theorem Two.moved {w0 w w' : World} {T SJ SR : Nat → Prop} {B R : Nat} {bJ : List (List Int)} {dJ : Int} {bR : List (List Int)} {dR : Int} (h : Two w0 w (fun _ => False) SJ SR B R bJ dJ bR dR) (k : Kept T w w') (hT : ∀ j, T j → ¬ SJ j ∧ ¬ SR j ∧ w0.heap.size ≤ j) : Two w0 w' (fun _ => False) SJ SR B R bJ dJ bR dR :=
  h.kept k hT fun _ hh => hh.elim

end Go.Proofs.Ytfahnjicinpahaa
