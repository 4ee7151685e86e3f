/- What the document's Push leaves: facts. -/
import Derived.Test.YtfahnjicinpahaaJoC
namespace Go.Proofs.Ytfahnjicinpahaa
open Go.RowKit
set_option linter.unusedVariables false

def RPost (w : World) (S : Nat → Prop) (B : Nat) (bs : List (List Int)) (d f : Int) (D : List Int) (en : Ending) (w' : World) : Prop :=
  ∃ v ok s' vs', en = .returned (.tuple #[v, .bool ok]) ∧ Kept S w w' ∧ RSt w' (fun k => S k ∨ (w.heap.size ≤ k ∧ k < w'.heap.size)) B s' vs' (jNext bs f D) (jDrop bs d f D) ∧
    match jWhole bs f D with
    | none => ok = false ∧ v = .slice none 0 0
    | some W => ok = true ∧ w'.ownsRow w.heap.size 5 1 v W.length (bcells W)

structure RMid (w wx : World) (S : Nat → Prop) (B : Nat) (s : Value) (vs : List Value) (bs : List (List Int)) (d : Int) (ad : Option Addr) (dcap : Nat) (D : List Int) : Prop where
  st : RSt wx S B s vs bs d
  kept : Kept S w wx
  size : w.heap.size + 1 ≤ wx.heap.size
  box : wx.cell? ⟨w.heap.size, 2, none⟩ = some (.slice ad D.length dcap)
  data : Ints .u8 wx (.slice ad D.length dcap) D

theorem RMid.drewN {w wx : World} {S : Nat → Prop} {B : Nat} {s : Value} {vs : List Value} {bs : List (List Int)} {d : Int} {ad : Option Addr} {dcap : Nat} {D : List Int} (h : RMid w wx S B s vs bs d ad dcap D) (n : Nat) : RMid w (wx.drewN n) S B s vs bs d ad dcap D :=
  ⟨h.st.keep ((Kept.refl (fun _ => False) wx).drewN n) (fun _ _ hh => hh), h.kept.drewN n, h.size, h.box, h.data⟩

theorem rquo (f : Int) (h0 : 0 ≤ f) (h1 : f ≤ 255) : decide (f.tdiv 128 = 1) = jbegin f ∧ IntKind.u8.wrap (f.tdiv 128) = f.tdiv 128 ∧ decide ((f.tdiv 64).tmod 2 = 1) = jend f ∧ IntKind.u8.wrap (f.tdiv 64) = f.tdiv 64 ∧ IntKind.u8.wrap ((f.tdiv 64).tmod 2) = (f.tdiv 64).tmod 2 ∧ (f.tdiv 128 == 1) = jbegin f ∧ ((f.tdiv 64).tmod 2 == 1) = jend f := by
  obtain ⟨n, rfl⟩ := Int.eq_ofNat_of_zero_le h0
  have hn : n < 256 := by omega
  have : ∀ n : Fin 256, decide ((((n.val : Nat) : Int)).tdiv 128 = 1) = jbegin ((n.val : Nat) : Int) ∧ IntKind.u8.wrap ((((n.val : Nat) : Int)).tdiv 128) = (((n.val : Nat) : Int)).tdiv 128 ∧ decide (((((n.val : Nat) : Int)).tdiv 64).tmod 2 = 1) = jend ((n.val : Nat) : Int) ∧ IntKind.u8.wrap ((((n.val : Nat) : Int)).tdiv 64) = (((n.val : Nat) : Int)).tdiv 64 ∧ IntKind.u8.wrap (((((n.val : Nat) : Int)).tdiv 64).tmod 2) = ((((n.val : Nat) : Int)).tdiv 64).tmod 2 ∧ ((((n.val : Nat) : Int)).tdiv 128 == 1) = jbegin ((n.val : Nat) : Int) ∧ (((((n.val : Nat) : Int)).tdiv 64).tmod 2 == 1) = jend ((n.val : Nat) : Int) := by decide +kernel
  exact this ⟨n, hn⟩

/-- Refused: what was begun is dropped, and the fragment too. -/
theorem rpost_no {w wx wy : World} {S : Nat → Prop} {B : Nat} {s : Value} {vs : List Value} {bs Y : List (List Int)} {d f G : Int} {ad : Option Addr} {dcap : Nat} {D : List Int} (h : RMid w wx S B s vs Y G ad dcap D) (hY : Y = jBegun bs f) (hG : G = jGone bs d f) (hl : jNone bs f = true ∨ jLong bs f D = true)
    (hk : Kept (fun k => k = B) wx wy) (hj : RSt wy S B (.slice .none 0 0) [] [] (G + (Y.length : Int))) : RPost w S B bs d f D (.returned (.tuple #[.slice .none 0 0, .bool false])) (wy.setCell ⟨B, 1, .none⟩ (.int .i64 (G + (Y.length : Int) + 1))) := by
  obtain ⟨W, hW⟩ : ∃ W, W = wy.setCell ⟨B, 1, .none⟩ (.int .i64 (G + (Y.length : Int) + 1)) := ⟨_, rfl⟩
  have hk2 : Kept (fun k => k = B) wy W := by rw [hW]; exact (Kept.refl (fun k => k = B) wy).setCell (p := ⟨B, 1, .none⟩) rfl _
  have hst : RSt W S B (.slice .none 0 0) [] [] (G + (Y.length : Int) + 1) :=
    ⟨hj.blk, Nat.lt_of_lt_of_le hj.lt hk2.size, by rw [hW, cell_set0 (by simp)]; exact hj.c0, by rw [hW]; exact cell_set2 hj.c1, fun i => by rw [hW, fz_set]; exact hj.fz i, rfl, World.ownsRow_nil _ _ _ _, (fun k hk => by cases hk), (fun i v b h1 _ => by simp at h1)⟩
  rw [← hW]
  have e1 : jNext bs f D = [] := by rcases hl with h1 | h1 <;> simp [jNext, h1]
  have e2 : jDrop bs d f D = G + (Y.length : Int) + 1 := by
    unfold jDrop
    cases hn : jNone bs f with
    | true =>
      have hb : bs = [] := by simp [jNone] at hn; exact hn.2
      have hb2 : jbegin f = false := by simp [jNone] at hn; exact hn.1
      subst hb
      rw [hG, hY]; simp [jGone, jBegun, hb2]
    | false =>
      have h1 : jLong bs f D = true := by rcases hl with h1 | h1; (rw [hn] at h1; cases h1); exact h1
      simp [h1, ← hG, ← hY]
  have e3 : jWhole bs f D = .none := by rcases hl with h1 | h1 <;> simp [jWhole, h1]
  refine ⟨_, _, .slice .none 0 0, [], rfl, (h.kept.trans (kept_one hk h.st.blk)).trans (kept_one hk2 h.st.blk), ?_, ?_⟩
  · rw [e1, e2]
    exact hst.wider fun _ hh => .inl hh
  · rw [e3]
    exact ⟨rfl, rfl⟩

theorem kept_grown {wc w1 w2 : World} {row : Option Nat} (h : Kept (fun _ => False) wc w1) (hg : w1.grownBy w2 row) (hr : ∀ k, row = some k → wc.heap.size ≤ k) : Kept (fun _ => False) wc w2 :=
  ⟨hg.os.trans h.os, hg.tape.trans h.tape, hg.output.trans h.output, Nat.le_trans h.size hg.size, fun k hk hS => (hg.block k (Nat.lt_of_lt_of_le hk h.size) (fun e => by have := hr k e.symm; omega)).trans (h.block k hk hS)⟩

structure RAft (w wc : World) (S : Nat → Prop) (B : Nat) (v : Value) (vs : List Value) (Y : List (List Int)) (G : Int) : Prop where
  st : RSt wc (fun k => S k ∨ (w.heap.size ≤ k ∧ k < wc.heap.size)) B v vs Y G
  kept : Kept S w wc

theorem RAft.drewN {w wc : World} {S : Nat → Prop} {B : Nat} {v : Value} {vs : List Value} {Y : List (List Int)} {G : Int} (h : RAft w wc S B v vs Y G) (n : Nat) : RAft w (wc.drewN n) S B v vs Y G :=
  ⟨h.st.keep ((Kept.refl (fun _ => False) wc).drewN n) (fun _ _ hh => hh), h.kept.drewN n⟩

theorem RMid.lies {w wc w1 w2 : World} {S : Nat → Prop} {B : Nat} {s V : Value} {vs : List Value} {Y : List (List Int)} {G : Int} {ad : Option Addr} {dcap : Nat} {D : List Int} (h : RMid w wc S B s vs Y G ad dcap D) (hB : B < w.heap.size)
    (k1 : Kept (fun _ => False) wc w1) (hV : w1.ownsRow wc.heap.size 5 1 V D.length (bcells D)) (hVf : ∃ g c, V = .slice (some ⟨g, 0, .none⟩) D.length c) {g c : Nat}
    (ho : w2.ownsRow 0 31 1 (.slice (some ⟨g, 0, .none⟩) (Y.length + 1) c) (Y.length + 1) (vs ++ [V])) (hg : w1.grownBy w2 s.ownBlock) (hat : s.ownBlock = some g ∨ g = w1.heap.size) (hlt : g < w2.heap.size) :
    RAft w (w2.setCell ⟨B, 0, .none⟩ (.slice (some ⟨g, 0, .none⟩) (Y.length + 1) c)) S B (.slice (some ⟨g, 0, .none⟩) (Y.length + 1) c) (vs ++ [V]) (Y ++ [D]) G := by
  obtain ⟨U, hU⟩ : ∃ U, U = Value.slice (some ⟨g, 0, .none⟩) (Y.length + 1) c := ⟨_, rfl⟩
  have hUb : U.ownBlock = some g := by rw [hU]; rfl
  rw [← hU] at ho ⊢
  have hBc : B < wc.heap.size := by have := h.size; omega
  have hB1 : B < w1.heap.size := Nat.lt_of_lt_of_le hBc k1.size
  have hsl : ∀ k, s.ownBlock = some k → k < wc.heap.size := fun k hk => (h.st.own.lt k hk).2
  have hne : some B ≠ s.ownBlock := fun e => (h.st.sep B e.symm).2 rfl
  have hgB : g ≠ B := by
    rcases hat with e | e
    · exact (h.st.sep g e).2
    · omega
  have hgS : S g ∨ (w.heap.size ≤ g ∧ g < w2.heap.size) := by
    rcases hat with e | e
    · exact .inl (h.st.sep g e).1
    · have := h.size; have := k1.size; exact .inr ⟨by omega, hlt⟩
  have kc : Kept S w w1 := h.kept.trans (k1.mono fun _ hh => hh.elim)
  have k2 : Kept S w w2 := kc.trans ⟨hg.os, hg.tape, hg.output, hg.size, fun k hk hS => hg.block k hk fun e => hS (h.st.sep k e.symm).1⟩
  have hk : Kept (fun k => k = B) w2 (w2.setCell ⟨B, 0, .none⟩ U) := (Kept.refl (fun k => k = B) w2).setCell (p := ⟨B, 0, .none⟩) rfl _
  have hc : ∀ i, w2.cell? ⟨B, i, .none⟩ = wc.cell? ⟨B, i, .none⟩ := fun i => (World.cell?_of_block (a := ⟨B, i, .none⟩) (hg.block B hB1 hne)).trans (k1.cell (p := ⟨B, i, .none⟩) hBc (fun hh => hh))
  have hf : ∀ i, w2.frozen? ⟨B, i, .none⟩ = wc.frozen? ⟨B, i, .none⟩ := fun i => (World.frozen?_of_block (a := ⟨B, i, .none⟩) (hg.block B hB1 hne)).trans (k1.frozen (p := ⟨B, i, .none⟩) hBc (fun hh => hh))
  obtain ⟨W, hW⟩ : ∃ W, W = w2.setCell ⟨B, 0, .none⟩ U := ⟨_, rfl⟩
  rw [← hW] at hk ⊢
  refine ⟨⟨.inl h.st.blk, Nat.lt_of_lt_of_le hB1 (Nat.le_trans hg.size hk.size), by rw [hW]; exact cell_set2 ((hc 0).trans h.st.c0), by rw [hW, cell_set0 (by simp)]; exact (hc 1).trans h.st.c1, fun i => by rw [hW, fz_set]; exact (hf i).trans (h.st.fz i), by simp [h.st.len], ?_, ?_, ?_⟩, k2.trans (kept_one hk h.st.blk)⟩
  · rw [List.length_append]
    exact ownsRow_keep ho hk (fun j hj => by rw [hUb] at hj; cases hj; exact hgB)
  · intro k hk2
    rw [hUb] at hk2
    cases hk2
    refine ⟨?_, hgB⟩
    rcases hgS with e | e
    · exact .inl e
    · exact .inr ⟨e.1, Nat.lt_of_lt_of_le e.2 hk.size⟩
  · have move : ∀ (v : Value) (b : List Int) (lo : Nat), w1.ownsRow lo 5 1 v b.length (bcells b) → (∀ k, v.ownBlock = some k → k ≠ B ∧ some k ≠ s.ownBlock) → W.ownsRow 0 5 1 v b.length (bcells b) ∧ ∀ k, v.ownBlock = some k → some k ≠ U.ownBlock := by
      intro v b lo h1 h2
      have h3 : w2.ownsRow lo 5 1 v b.length (bcells b) := h1.kept hg (by
        cases hv : v.ownBlock with
        | none => exact .inl rfl
        | some k => exact .inr (h2 k hv).2)
      refine ⟨(ownsRow_keep h3 hk (fun j hj => (h2 j hj).1)).mono (Nat.zero_le _), fun k hk3 e => ?_⟩
      rw [hUb] at e
      cases e
      rcases hat with e | e
      · exact (h2 g hk3).2 e.symm
      · have := (h1.lt g hk3).2; omega
    intro i v b hi hb
    rcases Nat.lt_or_ge i Y.length with hlt2 | hge
    · rw [List.getElem?_append_left (by rw [h.st.len]; exact hlt2)] at hi
      rw [List.getElem?_append_left hlt2] at hb
      obtain ⟨h1, h2, h3⟩ := h.st.dat i v b hi hb
      obtain ⟨m1, m2⟩ := move v b 0 (ownsRow_keep h1 k1 (fun _ _ hh => hh)) (fun k hk3 => (h2 k hk3).2)
      exact ⟨m1, fun k hk3 => ⟨.inl (h2 k hk3).1, (h2 k hk3).2.1, m2 k hk3⟩, h3⟩
    · have hi2 : i = Y.length := by
        have := (List.getElem?_eq_some_iff.1 hb).1
        simp at this; omega
      subst hi2
      rw [← h.st.len] at hi
      simp at hi hb
      subst hi hb
      obtain ⟨m1, m2⟩ := move V D _ hV (fun k hk3 => by
        have := (hV.lt k hk3).1
        exact ⟨by omega, fun e => by have := hsl k e.symm; omega⟩)
      refine ⟨m1, fun k hk3 => ⟨.inr ⟨?_, ?_⟩, ?_, m2 k hk3⟩, hVf⟩
      · have := (hV.lt k hk3).1; have := h.size; omega
      · have := (hV.lt k hk3).2; have := hg.size; have := hk.size; omega
      · have := (hV.lt k hk3).1; omega

theorem rpost_go {w wc : World} {S : Nat → Prop} {B : Nat} {v : Value} {vs : List Value} {bs Y : List (List Int)} {d f G : Int} {D : List Int} (h : RAft w wc S B v vs (Y ++ [D]) G) (hY : Y = jBegun bs f) (hG : G = jGone bs d f) (hn : jNone bs f = false) (hl : jLong bs f D = false) (he : jend f = false) : RPost w S B bs d f D (.returned (.tuple #[.slice .none 0 0, .bool false])) wc := by
  refine ⟨_, _, v, vs, rfl, h.kept, ?_, ?_⟩
  · have e1 : jNext bs f D = Y ++ [D] := by simp [jNext, hl, hn, he, hY]
    have e2 : jDrop bs d f D = G := by simp [jDrop, hn, hl, ← hG]
    rw [e1, e2]
    exact h.st
  · have e3 : jWhole bs f D = .none := by simp [jWhole, he]
    rw [e3]
    exact ⟨rfl, rfl⟩

theorem rpost_end {w wc we : World} {S : Nat → Prop} {B : Nat} {v o : Value} {vs : List Value} {bs Y : List (List Int)} {d f G : Int} {D : List Int} (h : RAft w wc S B v vs (Y ++ [D]) G) (hY : Y = jBegun bs f) (hG : G = jGone bs d f) (hn : jNone bs f = false) (hl : jLong bs f D = false) (he : jend f = true) (hB : B < w.heap.size)
    (kb : Kept (fun _ => False) wc we) (ho : we.ownsRow wc.heap.size 5 1 o (Y ++ [D]).flatten.length (bcells (Y ++ [D]).flatten)) :
    RPost w S B bs d f D (.returned (.tuple #[o, .bool true])) (we.setCell ⟨B, 0, .none⟩ (.slice .none 0 0)) := by
  have hBc : B < wc.heap.size := Nat.lt_of_lt_of_le hB h.kept.size
  have hBe : B < we.heap.size := Nat.lt_of_lt_of_le hBc kb.size
  obtain ⟨W, hW⟩ : ∃ W, W = we.setCell ⟨B, 0, .none⟩ (.slice .none 0 0) := ⟨_, rfl⟩
  have hk : Kept (fun k => k = B) we W := by rw [hW]; exact (Kept.refl (fun k => k = B) we).setCell (p := ⟨B, 0, .none⟩) rfl _
  have hBS : S B := by rcases h.st.blk with e | e; exact e; omega
  have hs2 := h.st.keep kb (fun _ _ hh => hh)
  have e1 : jNext bs f D = [] := by simp [jNext, he]
  have e2 : jDrop bs d f D = G := by simp [jDrop, hn, hl, ← hG]
  have e3 : jWhole bs f D = some (Y.flatten ++ D) := by simp [jWhole, he, hn, hl, hY]
  rw [← hW]
  refine ⟨_, _, .slice .none 0 0, [], rfl, (h.kept.trans (kb.mono fun _ hh => hh.elim)).trans (kept_one hk hBS), ?_, ?_⟩
  · rw [e1, e2]
    exact ⟨.inl hBS, Nat.lt_of_lt_of_le hBe hk.size, by rw [hW]; exact cell_set2 hs2.c0, by rw [hW, cell_set0 (by simp)]; exact hs2.c1, fun i => by rw [hW, fz_set]; exact hs2.fz i, rfl, World.ownsRow_nil _ _ _ _, (fun k hk => by cases hk), (fun i v b h1 _ => by simp at h1)⟩
  · rw [e3]
    refine ⟨rfl, ?_⟩
    have := ownsRow_keep ho hk (fun j hj => by have := (ho.lt j hj).1; omega)
    have e4 : (Y ++ [D]).flatten = Y.flatten ++ D := by simp
    rw [e4] at this
    exact this.mono h.kept.size

end Go.Proofs.Ytfahnjicinpahaa
