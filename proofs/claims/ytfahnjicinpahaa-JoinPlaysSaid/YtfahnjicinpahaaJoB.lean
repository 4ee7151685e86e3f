/- Contracts: Push of the program. -/
import Derived.Test.YtfahnjicinpahaaJoA
namespace Go.Proofs.Ytfahnjicinpahaa
open Go.RowKit
set_option linter.unusedVariables false

theorem and128 (f : Int) (h0 : 0 ≤ f) (h1 : f ≤ 255) : (bits .and .u8 f 128 != 0) = jbegin f := by
  obtain ⟨n, rfl⟩ := Int.eq_ofNat_of_zero_le h0
  have hn : n < 256 := by omega
  have : ∀ n : Fin 256, (bits .and .u8 ((n.val : Nat) : Int) 128 != 0) = jbegin ((n.val : Nat) : Int) := by decide +kernel
  exact this ⟨n, hn⟩
theorem and64 (f : Int) (h0 : 0 ≤ f) (h1 : f ≤ 255) : (bits .and .u8 f 64 != 0) = jend f := by
  obtain ⟨n, rfl⟩ := Int.eq_ofNat_of_zero_le h0
  have hn : n < 256 := by omega
  have : ∀ n : Fin 256, (bits .and .u8 ((n.val : Nat) : Int) 64 != 0) = jend ((n.val : Nat) : Int) := by decide +kernel
  exact this ⟨n, hn⟩

/-- What Push leaves. -/
def JPost (w : World) (S : Nat → Prop) (B : Nat) (bs : List (List Int)) (d f : Int) (D : List Int) (en : Ending) (w' : World) : Prop :=
  ∃ v ok s', en = .returned (.tuple #[v, .bool ok]) ∧ Kept S w w' ∧ JSt w' (fun k => S k ∨ (w.heap.size ≤ k ∧ k < w'.heap.size)) B s' (jNext bs f D) (jDrop bs d f D) ∧
    match jWhole bs f D with
    | none => ok = false ∧ v = .slice none 0 0
    | some W => ok = true ∧ w'.ownsRow 0 5 1 v W.length (bcells W) ∧ ∀ k, v.ownBlock = some k → (S k ∨ (w.heap.size ≤ k ∧ k < w'.heap.size)) ∧ k ≠ B

/-- A world that is as it was but for S, and new blocks. -/
structure Mid (w wx : World) (S : Nat → Prop) (B : Nat) (s : Value) (bs : List (List Int)) (d : Int) (ad : Option Addr) (dcap : Nat) (D : List Int) : Prop where
  st : JSt wx S B s bs d
  kept : Kept S w wx
  size : w.heap.size + 1 ≤ wx.heap.size
  box : wx.cell? ⟨w.heap.size, 2, none⟩ = some (.slice ad D.length dcap)
  data : Ints .u8 wx (.slice ad D.length dcap) D

theorem ints_keep {S : Nat → Prop} {k : IntKind} {w w' : World} {ad : Option Addr} {cap : Nat} {l : List Int} (h : Ints k w (.slice ad l.length cap) l) (hk : Kept S w w') (hs : ∀ x, ad = some x → l ≠ [] → ¬ S x.block) : Ints k w' (.slice ad l.length cap) l := by
  obtain ⟨a', cap', e, h⟩ := h
  cases e
  refine ⟨ad, cap, rfl, h.imp_right ?_⟩
  rintro ⟨b, off, rfl, hc⟩
  refine ⟨b, off, rfl, fun i hi => ?_⟩
  have hlt := World.block_lt_of_cell? w _ (hc i hi)
  rw [hk.cell (p := ⟨b, off + i, none⟩) hlt (hs ⟨b, off, none⟩ rfl (by intro e; subst e; simp at hi))]
  exact hc i hi
theorem kept_one {S : Nat → Prop} {w w' : World} {B : Nat} (h : Kept (fun k => k = B) w w') (hB : S B) : Kept S w w' := h.mono fun k hk => by subst hk; exact hB

theorem row_form {w : World} {base : Nat} {e : TypeId} {m : Nat} {s : Value} {n : Nat} {xs : List Value} (h : w.ownsRow base e m s n xs) : ∃ ao cap, s = .slice ao n cap ∧ n ≤ cap := by
  rcases h.2 with ⟨hv, hn⟩ | ⟨g, cap, cur, hv, hb, hg, hnc, hcm, hcs, htk⟩
  · exact ⟨none, 0, by rw [hv, hn], by omega⟩
  · exact ⟨_, cap, hv, hnc⟩

/-- As Mid, one part more. -/
structure Half (w wb : World) (S : Nat → Prop) (B : Nat) (s : Value) (Y : List (List Int)) (G : Int) (ad : Option Addr) (dcap : Nat) (D : List Int) : Prop where
  blk : S B
  lt : B < w.heap.size
  c0 : wb.cell? ⟨B, 0, none⟩ = some s
  c1 : wb.cell? ⟨B, 1, none⟩ = some (.int .i64 ((Y.length + 1 : Nat) : Int))
  c2 : wb.cell? ⟨B, 2, none⟩ = some (.int .i64 G)
  fz : ∀ i, wb.frozen? ⟨B, i, none⟩ = false
  own : wb.ownsRow 0 5 1 s Y.flatten.length (bcells Y.flatten)
  sep : ∀ k, s.ownBlock = some k → S k ∧ k ≠ B
  none : Y = [] → s = .slice none 0 0
  kept : Kept S w wb
  size : w.heap.size + 1 ≤ wb.heap.size
  box : wb.cell? ⟨w.heap.size, 2, .none⟩ = some (.slice ad D.length dcap)
  data : Ints .u8 wb (.slice ad D.length dcap) D

theorem Mid.half {w wx : World} {S : Nat → Prop} {B : Nat} {s : Value} {Y : List (List Int)} {G : Int} {ad : Option Addr} {dcap : Nat} {D : List Int} (h : Mid w wx S B s Y G ad dcap D) (hB : B < w.heap.size) (hs : ∀ x, ad = some x → D ≠ [] → ¬ S x.block) :
    Half w (wx.setCell ⟨B, 1, .none⟩ (.int .i64 ((Y.length : Int) + 1))) S B s Y G ad dcap D := by
  have hk : Kept (fun k => k = B) wx (wx.setCell ⟨B, 1, .none⟩ (.int .i64 ((Y.length : Int) + 1))) := (Kept.refl (fun k => k = B) wx).setCell (p := ⟨B, 1, .none⟩) rfl _
  refine ⟨h.st.blk, hB, (cell_set0 (by simp)).trans h.st.c0, ?_, (cell_set0 (by simp)).trans h.st.c2, fun i => fz_set.trans (h.st.fz i), ownsRow_keep h.st.own hk (fun j hj => (h.st.sep j hj).2), h.st.sep, h.st.none, h.kept.trans (kept_one hk h.st.blk), Nat.le_trans h.size hk.size, ?_, ints_keep h.data hk (fun x hx hne hh => hs x hx hne (by rw [hh]; exact h.st.blk))⟩
  · rw [cell_set2 h.st.c1]; rfl
  · rw [cell_set0 (by simp)]; exact h.box

theorem Half.drewN {w wb : World} {S : Nat → Prop} {B : Nat} {s : Value} {Y : List (List Int)} {G : Int} {ad : Option Addr} {dcap : Nat} {D : List Int} (h : Half w wb S B s Y G ad dcap D) (n : Nat) : Half w (wb.drewN n) S B s Y G ad dcap D :=
  ⟨h.blk, h.lt, h.c0, h.c1, h.c2, h.fz, h.own, h.sep, h.none, h.kept.drewN n, h.size, h.box, h.data⟩

theorem post_long {w wb wy : World} {S : Nat → Prop} {B : Nat} {s : Value} {bs Y : List (List Int)} {d f G : Int} {ad : Option Addr} {dcap : Nat} {D : List Int} (h : Half w wb S B s Y G ad dcap D) (hY : Y = jBegun bs f) (hG : G = jGone bs d f) (hn : jNone bs f = false) (hl : 131072 < Y.flatten.length + D.length)
    (hk : Kept (fun k => k = B) wb wy) (hj : JSt wy S B (.slice .none 0 0) [] (G + ((Y.length + 1 : Nat) : Int))) (wz : World) (hz : ∃ n, wz = wy.drewN n) : JPost w S B bs d f D (.returned (.tuple #[.slice .none 0 0, .bool false])) wz := by
  obtain ⟨n, rfl⟩ := hz
  have h1 : jLong bs f D = true := by simp [jLong, ← hY]; simpa using hl
  refine ⟨_, _, .slice .none 0 0, rfl, (h.kept.trans (kept_one hk h.blk)).drewN n, ?_, ?_⟩
  · have e1 : jNext bs f D = [] := by simp [jNext, h1]
    have e2 : jDrop bs d f D = G + ((Y.length + 1 : Nat) : Int) := by simp [jDrop, hn, h1, ← hY, ← hG]; omega
    rw [e1, e2]
    have := (hj.keep (S := S) (T := fun _ => False) ((Kept.refl _ wy).drewN n) (fun _ _ hh => hh)).wider (T := fun k => S k ∨ (w.heap.size ≤ k ∧ k < (wy.drewN n).heap.size)) (fun _ hh => .inl hh)
    exact this
  · have e3 : jWhole bs f D = .none := by simp [jWhole, h1]
    rw [e3]
    exact ⟨rfl, rfl⟩

/-- What is begun has the new bytes too. -/
structure Aft (w wc : World) (S : Nat → Prop) (B : Nat) (v : Value) (Y : List (List Int)) (G : Int) (D : List Int) : Prop where
  st : JSt wc (fun k => S k ∨ (w.heap.size ≤ k ∧ k < wc.heap.size)) B v (Y ++ [D]) G
  kept : Kept S w wc

theorem Half.lies {w wb w4 : World} {S : Nat → Prop} {B : Nat} {s : Value} {Y : List (List Int)} {G : Int} {ad : Option Addr} {dcap : Nat} {D : List Int} (h : Half w wb S B s Y G ad dcap D) {g c : Nat}
    (ho : w4.ownsRow 0 5 1 (.slice (some ⟨g, 0, .none⟩) (Y.flatten.length + D.length) c) (Y.flatten.length + D.length) (bcells Y.flatten ++ bcells D)) (hg : wb.grownBy w4 s.ownBlock) (hat : s.ownBlock = some g ∨ g = wb.heap.size) (hlt : g < w4.heap.size) :
    Aft w (w4.setCell ⟨B, 0, .none⟩ (.slice (some ⟨g, 0, .none⟩) (Y.flatten.length + D.length) c)) S B (.slice (some ⟨g, 0, .none⟩) (Y.flatten.length + D.length) c) Y G D := by
  obtain ⟨V, hV⟩ : ∃ V, V = Value.slice (some ⟨g, 0, .none⟩) (Y.flatten.length + D.length) c := ⟨_, rfl⟩
  rw [← hV] at ho ⊢
  have hBb : B < wb.heap.size := by have := h.size; have := h.lt; omega
  have hne : some B ≠ s.ownBlock := fun e => (h.sep B e.symm).2 rfl
  have hgB : g ≠ B := by
    rcases hat with e | e
    · exact (h.sep g e).2
    · omega
  have hgS : S g ∨ (w.heap.size ≤ g ∧ g < w4.heap.size) := by
    rcases hat with e | e
    · exact .inl (h.sep g e).1
    · have := h.size; exact .inr ⟨by omega, hlt⟩
  have k1 : Kept S w w4 := h.kept.trans ⟨hg.os, hg.tape, hg.output, hg.size, fun k hk hS => hg.block k hk fun e => hS (h.sep k e.symm).1⟩
  have hk : Kept (fun k => k = B) w4 (w4.setCell ⟨B, 0, .none⟩ V) := (Kept.refl (fun k => k = B) w4).setCell (p := ⟨B, 0, .none⟩) rfl _
  have hc : ∀ i, w4.cell? ⟨B, i, .none⟩ = wb.cell? ⟨B, i, .none⟩ := fun i => World.cell?_of_block (hg.block B hBb hne)
  have hf : ∀ i, w4.frozen? ⟨B, i, .none⟩ = wb.frozen? ⟨B, i, .none⟩ := fun i => World.frozen?_of_block (hg.block B hBb hne)
  refine ⟨⟨.inl h.blk, Nat.lt_of_lt_of_le hBb (Nat.le_trans hg.size hk.size), cell_set2 ((hc 0).trans h.c0), ?_, (cell_set0 (by simp)).trans ((hc 2).trans h.c2), fun i => fz_set.trans ((hf i).trans (h.fz i)), ?_, ?_, fun e => absurd e (by simp)⟩, k1.trans (kept_one hk h.blk)⟩
  · rw [cell_set0 (by simp), hc 1, h.c1]; simp
  · have e1 : (Y ++ [D]).flatten = Y.flatten ++ D := by simp
    rw [e1, List.length_append, show bcells (Y.flatten ++ D) = bcells Y.flatten ++ bcells D by simp [bcells]]
    exact ownsRow_keep ho hk (fun j hj => by rw [hV] at hj; cases hj; exact hgB)
  · intro k hk2
    rw [hV] at hk2
    cases hk2
    refine ⟨?_, hgB⟩
    rcases hgS with e | e
    · exact .inl e
    · exact .inr ⟨e.1, Nat.lt_of_lt_of_le e.2 hk.size⟩

theorem Half.lies0 {w wb : World} {S : Nat → Prop} {B : Nat} {s : Value} {Y : List (List Int)} {G : Int} {ad : Option Addr} {dcap : Nat} (h : Half w wb S B s Y G ad dcap []) :
    Aft w (wb.setCell ⟨B, 0, .none⟩ s) S B s Y G [] := by
  have hk : Kept (fun k => k = B) wb (wb.setCell ⟨B, 0, .none⟩ s) := (Kept.refl (fun k => k = B) wb).setCell (p := ⟨B, 0, .none⟩) rfl _
  have hBb : B < wb.heap.size := by have := h.size; have := h.lt; omega
  refine ⟨⟨.inl h.blk, Nat.lt_of_lt_of_le hBb hk.size, cell_set2 h.c0, ?_, (cell_set0 (by simp)).trans h.c2, fun i => fz_set.trans (h.fz i), ?_, ?_, fun e => absurd e (by simp)⟩, h.kept.trans (kept_one hk h.blk)⟩
  · rw [cell_set0 (by simp), h.c1]; simp
  · have e1 : (Y ++ [([] : List Int)]).flatten = Y.flatten := by simp
    rw [e1]
    exact ownsRow_keep h.own hk (fun j hj => (h.sep j hj).2)
  · intro k hk2
    exact ⟨.inl (h.sep k hk2).1, (h.sep k hk2).2⟩

theorem Aft.drewN {w wc : World} {S : Nat → Prop} {B : Nat} {v : Value} {Y : List (List Int)} {G : Int} {D : List Int} (h : Aft w wc S B v Y G D) (n : Nat) : Aft w (wc.drewN n) S B v Y G D :=
  ⟨h.st.keep ((Kept.refl (fun _ => False) wc).drewN n) (fun _ _ hh => hh), h.kept.drewN n⟩

theorem post_go {w wc : World} {S : Nat → Prop} {B : Nat} {v : Value} {bs Y : List (List Int)} {d f G : Int} {D : List Int} (h : Aft w wc S B v Y G D) (hY : Y = jBegun bs f) (hG : G = jGone bs d f) (hn : jNone bs f = false) (hl : ¬ 131072 < Y.flatten.length + D.length) (he : jend f = false) : JPost w S B bs d f D (.returned (.tuple #[.slice .none 0 0, .bool false])) wc := by
  have h1 : jLong bs f D = false := by simp only [jLong, ← hY]; simpa using hl
  refine ⟨_, _, v, rfl, h.kept, ?_, ?_⟩
  · have e1 : jNext bs f D = Y ++ [D] := by simp [jNext, h1, hn, he, hY]
    have e2 : jDrop bs d f D = G := by simp [jDrop, hn, h1, ← hG]
    rw [e1, e2]
    exact h.st
  · have e3 : jWhole bs f D = .none := by simp [jWhole, he]
    rw [e3]
    exact ⟨rfl, rfl⟩

theorem post_end {w wc : World} {S : Nat → Prop} {B : Nat} {v : Value} {bs Y : List (List Int)} {d f G : Int} {D : List Int} (h : Aft w wc S B v Y G D) (hY : Y = jBegun bs f) (hG : G = jGone bs d f) (hn : jNone bs f = false) (hl : ¬ 131072 < Y.flatten.length + D.length) (he : jend f = true) :
    JPost w S B bs d f D (.returned (.tuple #[v, .bool true])) ((wc.setCell ⟨B, 0, .none⟩ (.slice .none 0 0)).setCell ⟨B, 1, .none⟩ (.int .i64 0)) := by
  have h1 : jLong bs f D = false := by simp only [jLong, ← hY]; simpa using hl
  have hk : Kept (fun k => k = B) wc ((wc.setCell ⟨B, 0, .none⟩ (.slice .none 0 0)).setCell ⟨B, 1, .none⟩ (.int .i64 0)) := ((Kept.refl (fun k => k = B) wc).setCell (p := ⟨B, 0, .none⟩) rfl _).setCell (p := ⟨B, 1, .none⟩) rfl _
  have hBS : S B ∨ (w.heap.size ≤ B ∧ B < wc.heap.size) := h.st.blk
  have hsz : ((wc.setCell ⟨B, 0, .none⟩ (.slice .none 0 0)).setCell ⟨B, 1, .none⟩ (.int .i64 0)).heap.size = wc.heap.size := by simp [World.setCell]
  obtain ⟨W, hW⟩ : ∃ W, W = (wc.setCell ⟨B, 0, .none⟩ (.slice .none 0 0)).setCell ⟨B, 1, .none⟩ (.int .i64 0) := ⟨_, rfl⟩
  have hks : Kept S w W := by
    rw [hW]
    exact ⟨h.kept.os, h.kept.tape, h.kept.output, by rw [hsz]; exact h.kept.size, fun k hk2 hS => by
      rw [← h.kept.block k hk2 hS]
      exact hk.block k (Nat.lt_of_lt_of_le hk2 h.kept.size) (fun e => by subst e; rcases hBS with e | e; exact hS e; omega)⟩
  rw [← hW] at hk hsz ⊢
  refine ⟨_, _, .slice .none 0 0, rfl, hks, ?_, ?_⟩
  · have e1 : jNext bs f D = [] := by simp [jNext, he]
    have e2 : jDrop bs d f D = G := by simp [jDrop, hn, h1, ← hG]
    rw [e1, e2]
    refine ⟨by rw [hsz]; exact hBS, by rw [hsz]; exact h.st.lt, by rw [hW, cell_set0 (by simp)]; exact cell_set2 h.st.c0, by rw [hW]; exact cell_set2 (by rw [cell_set0 (by simp)]; exact h.st.c1), by rw [hW, cell_set0 (by simp), cell_set0 (by simp)]; exact h.st.c2, fun i => by rw [hW, fz_set, fz_set]; exact h.st.fz i, World.ownsRow_nil _ _ _ _, (fun k hk => by cases hk), fun _ => rfl⟩
  · have e3 : jWhole bs f D = some (Y.flatten ++ D) := by simp [jWhole, he, hn, h1, hY]
    rw [e3]
    refine ⟨rfl, ?_, fun k hk2 => by rw [hsz]; exact h.st.sep k hk2⟩
    have := ownsRow_keep h.st.own hk (fun j hj => (h.st.sep j hj).2)
    simpa using this

set_option maxRecDepth 100000 in
set_option maxHeartbeats 4000000 in
theorem jpush_any (w : World) (S : Nat → Prop) (B : Nat) (s : Value) (bs : List (List Int)) (d e f : Int) (ad : Option Addr) (dcap : Nat) (D : List Int) (h : JSt w S B s bs d) (hS : ∀ k, S k → k < w.heap.size)
    (hD : Ints .u8 w (.slice ad D.length dcap) D) (hDc : D.length ≤ dcap) (hDs : ∀ x, ad = some x → D ≠ [] → ¬ S x.block) (hf0 : 0 ≤ f) (hf1 : f ≤ 255) (hfl : bs.flatten.length ≤ 131072) (hDl : D.length ≤ 40000) (hd0 : 0 ≤ d) (hd : d + bs.length ≤ 900000) :
    Calls Try.prog 12 #[.pointer (some ⟨B, 0, none⟩), .agg #[.int .i64 e, .int .u8 f, .slice ad D.length dcap]] w (JPost w S B bs d f D) := by
  obtain ⟨i0, hi, hz0, hz1, hz2⟩ := info_parts Try.info5
  have hA := and128 f hf0 hf1
  have hE := and64 f hf0 hf1
  have hN0 : ¬ S w.heap.size := fun hh => Nat.lt_irrefl _ (hS _ hh)
  have hBlt := h.lt
  have HM0 : Hid (∀ n, Mid w ((w.alloc (.cells #[.int .i64 e, .int .u8 f, .slice ad D.length dcap] 33)).drewN n) S B s bs d ad dcap D) := Lib.hid fun n => by
    have hk : Kept S w ((w.alloc (.cells #[.int .i64 e, .int .u8 f, .slice ad D.length dcap] 33)).drewN n) := ((Kept.refl S w).alloc _).drewN n
    have hk0 : Kept (fun _ => False) w ((w.alloc (.cells #[.int .i64 e, .int .u8 f, .slice ad D.length dcap] 33)).drewN n) := ((Kept.refl _ w).alloc _).drewN n
    refine ⟨h.keep hk0 (fun _ _ hh => hh), hk, by simp, ?_, ints_keep hD hk hDs⟩
    show (w.alloc _).cell? _ = _
    simp
  have HDS := Lib.hid hDs
  have HS := Lib.hid hS
  clear h hD hDs hS
  go_enter Try.func12, Try.ntmps12
  go_wp2_with fail
  go_region
  obtain ⟨wa, hwa⟩ : ∃ wa, wa = (w.alloc (.cells #[.int .i64 e, .int .u8 f, .slice ad D.length dcap] 33)).drew := ⟨_, rfl⟩
  rw [← hwa]
  have HM : Hid (Mid w wa S B s bs d ad dcap D) := Lib.hid (by rw [hwa]; exact HM0.out 1)
  clear hwa HM0 hA hE
  cases hb : jbegin f with
  | true =>
    have hJN : Hid (jNone bs f = false) := Lib.hid (by simp [jNone, hb])
    have hJB : Hid (jBegun bs f = []) := Lib.hid (by simp [jBegun, hb])
    have hJG : Hid (jGone bs d f = d + bs.length) := Lib.hid (by simp [jGone, hb])
    have HDR := Lib.hid (jdrop_any wa S B s bs.length d HM.out.st.blk HM.out.st.lt HM.out.st.c0 HM.out.st.c1 HM.out.st.c2 HM.out.st.fz hd0 (by omega))
    go_wp2_with (go_at_call 32; refine HDR.out.mono ?_; rintro en wx ⟨rfl, hk1, hj1⟩; (obtain ⟨p1, hp1⟩ : ∃ p1 : Int, Hid (p1 = 0) := ⟨0, Lib.hid rfl⟩); have c1 : wx.cell? ⟨B, 1, none⟩ = some (.int .i64 p1) := (by rw [hp1.out]; exact hj1.c1); have f1 := hj1.fz 1; have hw1 : IntKind.i64.wrap (p1 + 1) = p1 + 1 := (by rw [hp1.out]; rfl))
    have HP1 : Hid (p1 = (([] : List (List Int)).length : Int)) := Lib.hid (by rw [hp1.out]; rfl)
    have HX : Hid (Mid w wx S B (.slice none 0 0) [] (d + bs.length) ad dcap D) := Lib.hid ⟨hj1, HM.out.kept.trans (kept_one hk1 HM.out.st.blk), Nat.le_trans HM.out.size hk1.size, (hk1.cell (p := ⟨w.heap.size, 2, none⟩) (by have := HM.out.size; show w.heap.size < _; omega) (by show ¬ w.heap.size = B; omega)).trans HM.out.box, ints_keep HM.out.data hk1 (fun x hx hne hh => HDS.out x hx hne (by subst hh; exact HM.out.st.blk))⟩
    clear hk1 hj1 HDR HM
    obtain ⟨YY, GG, SS, HYd, HGd, HX2⟩ : ∃ YY GG SS, Hid (YY = jBegun bs f) ∧ Hid (GG = jGone bs d f) ∧ Hid (Mid w wx S B SS YY GG ad dcap D) := ⟨_, _, _, Lib.hid hJB.out.symm, Lib.hid hJG.out.symm, HX⟩
    have hYp : (YY.length : Int) ≤ 900000 := by have e1 := HYd.out; have e2 := hJB.out; rw [e1, e2]; first | (simp; done) | (simp; omega) | omega
    have hYl : YY.flatten.length ≤ 131072 := by have e1 := HYd.out; have e2 := hJB.out; rw [e1, e2]; first | (simp; done) | exact hfl
    have hGp : 0 ≤ GG ∧ GG + YY.length ≤ 900000 := by have e1 := HYd.out; have e2 := hJB.out; have e3 := HGd.out; have e4 := hJG.out; rw [e1, e2, e3, e4]; constructor <;> first | omega | (simp; omega)
    have hJBo := hJB.out
    clear HX hJB hJG
    have HP2 : Hid (p1 = (YY.length : Int)) := Lib.hid (by rw [HP1.out, HYd.out, hJBo])
    clear c1 f1 hw1
    obtain ⟨wb, hwb⟩ : ∃ wb, wb = wx.setCell ⟨B, 1, none⟩ (.int .i64 (p1 + 1)) := ⟨_, rfl⟩
    rw [← hwb]
    have HB : Hid (Half w wb S B SS YY GG ad dcap D) := Lib.hid (by rw [hwb, HP2.out]; exact HX2.out.half hBlt HDS.out)
    clear hwb HX2 HP1 HP2 hJBo
    obtain ⟨ao, cp, hSS, hcp⟩ := row_form HB.out.own
    obtain ⟨Ln, HLn⟩ : ∃ Ln, Hid (Ln = YY.flatten.length) := ⟨_, Lib.hid rfl⟩
    rw [← HLn.out] at hSS hcp hYl
    subst hSS
    have c0 := HB.out.c0
    have bx := HB.out.box
    have hw2 : IntKind.i64.wrap ((Ln : Int) + (D.length : Int)) = (Ln : Int) + (D.length : Int) := IntWalk.i64_in _ (by omega)
    by_cases hl : (131072 : Int) < (Ln : Int) + (D.length : Int)
    · go_quiet (fail)
      obtain ⟨wc, hwc⟩ : ∃ wc, wc = wb.drewN nq := ⟨_, rfl⟩
      rw [← hwc]
      have HC : Hid (Half w wc S B (.slice ao Ln cp) YY GG ad dcap D) := Lib.hid (by rw [hwc]; exact HB.out.drewN _)
      clear hwc HB c0 bx
      have HDR := Lib.hid (jdrop_any wc S B (.slice ao Ln cp) (YY.length + 1) GG HC.out.blk (by have := HC.out.size; omega) HC.out.c0 HC.out.c1 HC.out.c2 HC.out.fz hGp.1 (by omega))
      go_wp2_with (go_at_call 32; refine HDR.out.mono ?_; rintro en wy ⟨rfl, hk1, hj1⟩)
      have HP := Lib.hid (post_long HC.out HYd.out HGd.out hJN.out (by rw [← HLn.out]; omega) hk1 hj1 wy ⟨0, rfl⟩)
      go_ret2
      exact HP.out
    · go_quiet (fail)
      obtain ⟨wc, hwc⟩ : ∃ wc, wc = wb.drewN nq := ⟨_, rfl⟩
      rw [← hwc]
      have HC : Hid (Half w wc S B (.slice ao Ln cp) YY GG ad dcap D) := Lib.hid (by rw [hwc]; exact HB.out.drewN _)
      clear hwc HB c0 bx
      have c0 := HC.out.c0
      have f0 := HC.out.fz 0
      have bx := HC.out.box
      by_cases hD0 : D = []
      · subst hD0
        have HA : Hid (Aft w (wc.setCell ⟨B, 0, none⟩ (.slice ao Ln cp)) S B (.slice ao Ln cp) YY GG []) := Lib.hid HC.out.lies0
        go_wp2_with fail
        go_region_law (first | (refine step_append_none rfl (.tmp 59) (.tmp 61) 31 rfl 5 i0 Try.underlying31 hi _ _ _ (by rfl) hcp _ _ (by rfl) ?_))
        all_goals
          clear c0 f0 bx
          obtain ⟨wd, hwd⟩ : ∃ wd, wd = (wc.setCell ⟨B, 0, none⟩ (.slice ao Ln cp)).drew := ⟨_, rfl⟩
          rw [← hwd]
          have HQ : Hid (Aft w wd S B (.slice ao Ln cp) YY GG []) := Lib.hid (by rw [hwd]; exact HA.out.drewN 1)
          clear hwd
        all_goals
          clear HA
          cases he : jend f with
          | false =>
            have HP := Lib.hid (post_go HQ.out HYd.out HGd.out hJN.out (by rw [← HLn.out]; omega) he)
            clear HQ
            go_wp2_with fail
            go_ret2
            exact HP.out
          | true =>
            have HP := Lib.hid (post_end HQ.out HYd.out HGd.out hJN.out (by rw [← HLn.out]; omega) he)
            have c0 := HQ.out.st.c0
            have c1 := HQ.out.st.c1
            have f0 := HQ.out.st.fz 0
            have f1 := HQ.out.st.fz 1
            clear HQ
            go_wp2_with fail
            go_ret2
            exact HP.out
      · obtain ⟨ad1, off1, hc, had⟩ : ∃ b off, Hid (∀ i, i < D.length → wc.cell? ⟨b, off + i, none⟩ = some (.int .u8 (D.getD i 0))) ∧ ad = some ⟨b, off, none⟩ := by
          obtain ⟨a', cap', e1, h1⟩ := HC.out.data
          cases e1
          rcases h1 with h1 | ⟨b, off, h1, h2⟩
          · exact absurd h1 hD0
          · exact ⟨b, off, Lib.hid h2, h1⟩
        subst had
        have HN : Hid (∀ j u, (bcells D)[j]? = some u → wc.cell? ((⟨ad1, off1, none⟩ : Addr).add j) = some u) := Lib.hid fun j u hj => by
          have hjl : j < D.length := by have := (List.getElem?_eq_some_iff.1 hj).1; simpa [bcells] using this
          have hadd : (⟨ad1, off1, none⟩ : Addr).add j = ⟨ad1, off1 + j, none⟩ := by unfold Addr.add; split <;> simp_all
          rw [hadd, hc.out j hjl, ← hj]
          simp [bcells, List.getD_eq_getElem?_getD, hjl]
        have hpos : Hid (0 < D.length) := Lib.hid (List.length_pos_iff.2 hD0)
        have hone : Hid (∀ u ∈ bcells D, u.oneCell' = true) := Lib.hid fun u hu => by obtain ⟨x, _, rfl⟩ := List.mem_map.1 hu; rfl
        have hml : Hid (Ln + D.length ≤ maxLen) := Lib.hid (by unfold maxLen; omega)
        have hown : Hid (wc.ownsRow 0 5 1 (.slice ao Ln cp) Ln (bcells YY.flatten)) := Lib.hid (by have := HC.out.own; rw [← HLn.out] at this; exact this)
        have hnl : Hid ((bcells D).length = D.length * 1) := Lib.hid (by simp [bcells])
        clear hc hD0
        have HL : Hid (∀ n w4 g c, w4.ownsRow 0 5 1 (.slice (some ⟨g, 0, none⟩) (Ln + D.length) c) (Ln + D.length) (bcells YY.flatten ++ bcells D) → (wc.drewN n).grownBy w4 (Value.slice ao Ln cp).ownBlock → ((Value.slice ao Ln cp).ownBlock = some g ∨ g = wc.heap.size) → g < w4.heap.size → Aft w (w4.setCell ⟨B, 0, none⟩ (.slice (some ⟨g, 0, none⟩) (Ln + D.length) c)) S B (.slice (some ⟨g, 0, none⟩) (Ln + D.length) c) YY GG D) := Lib.hid fun n w4 g c h1 h2 h3 h4 => by
          have e1 := HLn.out
          subst e1
          exact (HC.out.drewN n).lies h1 h2 h3 h4
        have HK : Hid (∀ n w4, (wc.drewN n).grownBy w4 (Value.slice ao Ln cp).ownBlock → w4.cell? ⟨B, 0, none⟩ = some (.slice ao Ln cp) ∧ w4.frozen? ⟨B, 0, none⟩ = false) := Lib.hid fun n w4 h2 => by
          have hBb : B < wc.heap.size := by have := HC.out.size; omega
          have hne : some B ≠ (Value.slice ao Ln cp).ownBlock := fun e => (HC.out.sep B e.symm).2 rfl
          exact ⟨(World.cell?_of_block (a := ⟨B, 0, none⟩) (h2.block B hBb hne)).trans HC.out.c0, (World.frozen?_of_block (a := ⟨B, 0, none⟩) (h2.block B hBb hne)).trans (HC.out.fz 0)⟩
        go_wp2_with fail
        go_region_law (first | (refine step_append_lies _ rfl (.tmp 59) (.tmp 61) 31 rfl 0 5 i0 (.int .u8 0) 1 1 Try.underlying31 hi hz0 hz1 hz2 rfl (by decide) (.slice ao Ln cp) Ln (bcells YY.flatten) (by rfl) hown.out ⟨ad1, off1, none⟩ D.length dcap (bcells D) (by rfl) hnl.out HN.out hone.out hpos.out hml.out (by omega) (Nat.zero_le _) wc.heap.size rfl ?_; intro g4 c4 w4 ho4 hg4 hat4 hlt4; obtain ⟨k4, kf4⟩ : w4.cell? ⟨B, 0, none⟩ = some (.slice ao Ln cp) ∧ w4.frozen? ⟨B, 0, none⟩ = false := (by first | exact HK.out 0 w4 hg4 | exact HK.out 1 w4 hg4)))
        all_goals
          have HQ0 : Hid (Aft w (w4.setCell ⟨B, 0, none⟩ (.slice (some ⟨g4, 0, none⟩) (Ln + D.length) c4)) S B (.slice (some ⟨g4, 0, none⟩) (Ln + D.length) c4) YY GG D) := Lib.hid (by first | exact HL.out 0 w4 g4 c4 ho4 hg4 hat4 hlt4 | exact HL.out 1 w4 g4 c4 ho4 hg4 hat4 hlt4)
          clear c0 f0 bx ho4 hg4 hat4 hlt4 k4 kf4 HL HK HN hown hone hml hnl
          obtain ⟨V5, hV5⟩ : ∃ V5, V5 = Value.slice (some ⟨g4, 0, none⟩) (Ln + D.length) c4 := ⟨_, rfl⟩
          obtain ⟨wd, hwd⟩ : ∃ wd, wd = w4.setCell ⟨B, 0, none⟩ V5 := ⟨_, rfl⟩
          rw [← hV5, ← hwd]
          have HQ : Hid (Aft w wd S B V5 YY GG D) := Lib.hid (by rw [hwd, hV5]; exact HQ0.out)
          clear hwd hV5 HQ0
          cases he : jend f with
          | false =>
            have HP := Lib.hid (post_go HQ.out HYd.out HGd.out hJN.out (by rw [← HLn.out]; omega) he)
            clear HQ
            go_wp2_with fail
            go_ret2
            exact HP.out
          | true =>
            have HP := Lib.hid (post_end HQ.out HYd.out HGd.out hJN.out (by rw [← HLn.out]; omega) he)
            have c0 := HQ.out.st.c0
            have c1 := HQ.out.st.c1
            have f0 := HQ.out.st.fz 0
            have f1 := HQ.out.st.fz 1
            clear HQ
            go_wp2_with fail
            go_ret2
            exact HP.out
  | false =>
    cases bs with
    | nil =>
      have hJN : Hid (jNone [] f = true) := Lib.hid (by simp [jNone, hb])
      have c1 := HM.out.st.c1
      have c2 := HM.out.st.c2
      have f2 := HM.out.st.fz 2
      have hw : IntKind.i64.wrap (d + 1) = d + 1 := IntWalk.i64_in _ (by simp at hd; omega)
      have HP : Hid (JPost w S B [] d f D (.returned (.tuple #[.slice none 0 0, .bool false])) (wa.setCell ⟨B, 2, none⟩ (.int .i64 (d + 1)))) := Lib.hid (by
        have hk : Kept (fun k => k = B) wa (wa.setCell ⟨B, 2, none⟩ (.int .i64 (d + 1))) := (Kept.refl (fun k => k = B) wa).setCell (p := ⟨B, 2, none⟩) rfl _
        have hs0 := HM.out.st.none rfl
        refine ⟨_, _, s, rfl, HM.out.kept.trans (kept_one hk HM.out.st.blk), ?_, ?_⟩
        · have e1 : jNext [] f D = [] := by simp [jNext, hJN.out]
          have e2 : jDrop [] d f D = d + 1 := by simp [jDrop, hJN.out]
          rw [e1, e2]
          refine ⟨.inl HM.out.st.blk, Nat.lt_of_lt_of_le HM.out.st.lt hk.size, (cell_set0 (by simp)).trans HM.out.st.c0, (cell_set0 (by simp)).trans HM.out.st.c1, cell_set2 HM.out.st.c2, fun i => fz_set.trans (HM.out.st.fz i), ?_, fun k hk => ⟨.inl (HM.out.st.sep k hk).1, (HM.out.st.sep k hk).2⟩, fun _ => hs0⟩
          rw [hs0]; exact World.ownsRow_nil _ _ _ _
        · have e3 : jWhole [] f D = none := by simp [jWhole, hJN.out]
          rw [e3]
          exact ⟨rfl, rfl⟩)
      go_wp2_with fail
      go_ret2
      exact HP.out
    | cons b0 bt =>
      have hJN : Hid (jNone (b0 :: bt) f = false) := Lib.hid (by simp [jNone, hb])
      have hJB : Hid (jBegun (b0 :: bt) f = b0 :: bt) := Lib.hid (by simp [jBegun, hb])
      have hJG : Hid (jGone (b0 :: bt) d f = d) := Lib.hid (by simp [jGone, hb])
      have c1 := HM.out.st.c1
      have f1 := HM.out.st.fz 1
      have hbl : (b0 :: bt).length ≠ 0 := by simp
      generalize hbs : b0 :: bt = bs at *
      obtain ⟨p1, HP1⟩ : ∃ p1 : Int, Hid (p1 = (bs.length : Int)) := ⟨_, Lib.hid rfl⟩
      have hbl2 : ¬ p1 = 0 := by rw [HP1.out]; omega
      have hbl3 : (p1 == 0) = false := by simpa using hbl2
      have hw1 : IntKind.i64.wrap (p1 + 1) = p1 + 1 := IntWalk.i64_in _ (by rw [HP1.out]; omega)
      rw [← HP1.out] at c1
      go_wp2_with fail
      clear hbl2 hbl3
      have HX : Hid (Mid w wa S B s bs d ad dcap D) := HM
      obtain ⟨YY, GG, SS, HYd, HGd, HX2⟩ : ∃ YY GG SS, Hid (YY = jBegun bs f) ∧ Hid (GG = jGone bs d f) ∧ Hid (Mid w wa S B SS YY GG ad dcap D) := ⟨_, _, _, Lib.hid hJB.out.symm, Lib.hid hJG.out.symm, HX⟩
      have hYp : (YY.length : Int) ≤ 900000 := by have e1 := HYd.out; have e2 := hJB.out; rw [e1, e2]; first | (simp; done) | (simp; omega) | omega
      have hYl : YY.flatten.length ≤ 131072 := by have e1 := HYd.out; have e2 := hJB.out; rw [e1, e2]; first | (simp; done) | exact hfl
      have hGp : 0 ≤ GG ∧ GG + YY.length ≤ 900000 := by have e1 := HYd.out; have e2 := hJB.out; have e3 := HGd.out; have e4 := hJG.out; rw [e1, e2, e3, e4]; constructor <;> first | omega | (simp; omega)
      have hJBo := hJB.out
      clear HX hJB hJG
      have HP2 : Hid (p1 = (YY.length : Int)) := Lib.hid (by rw [HP1.out, HYd.out, hJBo])
      clear c1 f1 hw1
      obtain ⟨wb, hwb⟩ : ∃ wb, wb = wa.setCell ⟨B, 1, none⟩ (.int .i64 (p1 + 1)) := ⟨_, rfl⟩
      rw [← hwb]
      have HB : Hid (Half w wb S B SS YY GG ad dcap D) := Lib.hid (by rw [hwb, HP2.out]; exact HX2.out.half hBlt HDS.out)
      clear hwb HX2 HP1 HP2 hJBo
      obtain ⟨ao, cp, hSS, hcp⟩ := row_form HB.out.own
      obtain ⟨Ln, HLn⟩ : ∃ Ln, Hid (Ln = YY.flatten.length) := ⟨_, Lib.hid rfl⟩
      rw [← HLn.out] at hSS hcp hYl
      subst hSS
      have c0 := HB.out.c0
      have bx := HB.out.box
      have hw2 : IntKind.i64.wrap ((Ln : Int) + (D.length : Int)) = (Ln : Int) + (D.length : Int) := IntWalk.i64_in _ (by omega)
      by_cases hl : (131072 : Int) < (Ln : Int) + (D.length : Int)
      · go_quiet (fail)
        obtain ⟨wc, hwc⟩ : ∃ wc, wc = wb.drewN nq := ⟨_, rfl⟩
        rw [← hwc]
        have HC : Hid (Half w wc S B (.slice ao Ln cp) YY GG ad dcap D) := Lib.hid (by rw [hwc]; exact HB.out.drewN _)
        clear hwc HB c0 bx
        have HDR := Lib.hid (jdrop_any wc S B (.slice ao Ln cp) (YY.length + 1) GG HC.out.blk (by have := HC.out.size; omega) HC.out.c0 HC.out.c1 HC.out.c2 HC.out.fz hGp.1 (by omega))
        go_wp2_with (go_at_call 32; refine HDR.out.mono ?_; rintro en wy ⟨rfl, hk1, hj1⟩)
        have HP := Lib.hid (post_long HC.out HYd.out HGd.out hJN.out (by rw [← HLn.out]; omega) hk1 hj1 wy ⟨0, rfl⟩)
        go_ret2
        exact HP.out
      · go_quiet (fail)
        obtain ⟨wc, hwc⟩ : ∃ wc, wc = wb.drewN nq := ⟨_, rfl⟩
        rw [← hwc]
        have HC : Hid (Half w wc S B (.slice ao Ln cp) YY GG ad dcap D) := Lib.hid (by rw [hwc]; exact HB.out.drewN _)
        clear hwc HB c0 bx
        have c0 := HC.out.c0
        have f0 := HC.out.fz 0
        have bx := HC.out.box
        by_cases hD0 : D = []
        · subst hD0
          have HA : Hid (Aft w (wc.setCell ⟨B, 0, none⟩ (.slice ao Ln cp)) S B (.slice ao Ln cp) YY GG []) := Lib.hid HC.out.lies0
          go_wp2_with fail
          go_region_law (first | (refine step_append_none rfl (.tmp 59) (.tmp 61) 31 rfl 5 i0 Try.underlying31 hi _ _ _ (by rfl) hcp _ _ (by rfl) ?_))
          all_goals
            clear c0 f0 bx
            obtain ⟨wd, hwd⟩ : ∃ wd, wd = (wc.setCell ⟨B, 0, none⟩ (.slice ao Ln cp)).drew := ⟨_, rfl⟩
            rw [← hwd]
            have HQ : Hid (Aft w wd S B (.slice ao Ln cp) YY GG []) := Lib.hid (by rw [hwd]; exact HA.out.drewN 1)
            clear hwd
          all_goals
            clear HA
            cases he : jend f with
            | false =>
              have HP := Lib.hid (post_go HQ.out HYd.out HGd.out hJN.out (by rw [← HLn.out]; omega) he)
              clear HQ
              go_wp2_with fail
              go_ret2
              exact HP.out
            | true =>
              have HP := Lib.hid (post_end HQ.out HYd.out HGd.out hJN.out (by rw [← HLn.out]; omega) he)
              have c0 := HQ.out.st.c0
              have c1 := HQ.out.st.c1
              have f0 := HQ.out.st.fz 0
              have f1 := HQ.out.st.fz 1
              clear HQ
              go_wp2_with fail
              go_ret2
              exact HP.out
        · obtain ⟨ad1, off1, hc, had⟩ : ∃ b off, Hid (∀ i, i < D.length → wc.cell? ⟨b, off + i, none⟩ = some (.int .u8 (D.getD i 0))) ∧ ad = some ⟨b, off, none⟩ := by
            obtain ⟨a', cap', e1, h1⟩ := HC.out.data
            cases e1
            rcases h1 with h1 | ⟨b, off, h1, h2⟩
            · exact absurd h1 hD0
            · exact ⟨b, off, Lib.hid h2, h1⟩
          subst had
          have HN : Hid (∀ j u, (bcells D)[j]? = some u → wc.cell? ((⟨ad1, off1, none⟩ : Addr).add j) = some u) := Lib.hid fun j u hj => by
            have hjl : j < D.length := by have := (List.getElem?_eq_some_iff.1 hj).1; simpa [bcells] using this
            have hadd : (⟨ad1, off1, none⟩ : Addr).add j = ⟨ad1, off1 + j, none⟩ := by unfold Addr.add; split <;> simp_all
            rw [hadd, hc.out j hjl, ← hj]
            simp [bcells, List.getD_eq_getElem?_getD, hjl]
          have hpos : Hid (0 < D.length) := Lib.hid (List.length_pos_iff.2 hD0)
          have hone : Hid (∀ u ∈ bcells D, u.oneCell' = true) := Lib.hid fun u hu => by obtain ⟨x, _, rfl⟩ := List.mem_map.1 hu; rfl
          have hml : Hid (Ln + D.length ≤ maxLen) := Lib.hid (by unfold maxLen; omega)
          have hown : Hid (wc.ownsRow 0 5 1 (.slice ao Ln cp) Ln (bcells YY.flatten)) := Lib.hid (by have := HC.out.own; rw [← HLn.out] at this; exact this)
          have hnl : Hid ((bcells D).length = D.length * 1) := Lib.hid (by simp [bcells])
          clear hc hD0
          have HL : Hid (∀ n w4 g c, w4.ownsRow 0 5 1 (.slice (some ⟨g, 0, none⟩) (Ln + D.length) c) (Ln + D.length) (bcells YY.flatten ++ bcells D) → (wc.drewN n).grownBy w4 (Value.slice ao Ln cp).ownBlock → ((Value.slice ao Ln cp).ownBlock = some g ∨ g = wc.heap.size) → g < w4.heap.size → Aft w (w4.setCell ⟨B, 0, none⟩ (.slice (some ⟨g, 0, none⟩) (Ln + D.length) c)) S B (.slice (some ⟨g, 0, none⟩) (Ln + D.length) c) YY GG D) := Lib.hid fun n w4 g c h1 h2 h3 h4 => by
            have e1 := HLn.out
            subst e1
            exact (HC.out.drewN n).lies h1 h2 h3 h4
          have HK : Hid (∀ n w4, (wc.drewN n).grownBy w4 (Value.slice ao Ln cp).ownBlock → w4.cell? ⟨B, 0, none⟩ = some (.slice ao Ln cp) ∧ w4.frozen? ⟨B, 0, none⟩ = false) := Lib.hid fun n w4 h2 => by
            have hBb : B < wc.heap.size := by have := HC.out.size; omega
            have hne : some B ≠ (Value.slice ao Ln cp).ownBlock := fun e => (HC.out.sep B e.symm).2 rfl
            exact ⟨(World.cell?_of_block (a := ⟨B, 0, none⟩) (h2.block B hBb hne)).trans HC.out.c0, (World.frozen?_of_block (a := ⟨B, 0, none⟩) (h2.block B hBb hne)).trans (HC.out.fz 0)⟩
          go_wp2_with fail
          go_region_law (first | (refine step_append_lies _ rfl (.tmp 59) (.tmp 61) 31 rfl 0 5 i0 (.int .u8 0) 1 1 Try.underlying31 hi hz0 hz1 hz2 rfl (by decide) (.slice ao Ln cp) Ln (bcells YY.flatten) (by rfl) hown.out ⟨ad1, off1, none⟩ D.length dcap (bcells D) (by rfl) hnl.out HN.out hone.out hpos.out hml.out (by omega) (Nat.zero_le _) wc.heap.size rfl ?_; intro g4 c4 w4 ho4 hg4 hat4 hlt4; obtain ⟨k4, kf4⟩ : w4.cell? ⟨B, 0, none⟩ = some (.slice ao Ln cp) ∧ w4.frozen? ⟨B, 0, none⟩ = false := (by first | exact HK.out 0 w4 hg4 | exact HK.out 1 w4 hg4)))
          all_goals
            have HQ0 : Hid (Aft w (w4.setCell ⟨B, 0, none⟩ (.slice (some ⟨g4, 0, none⟩) (Ln + D.length) c4)) S B (.slice (some ⟨g4, 0, none⟩) (Ln + D.length) c4) YY GG D) := Lib.hid (by first | exact HL.out 0 w4 g4 c4 ho4 hg4 hat4 hlt4 | exact HL.out 1 w4 g4 c4 ho4 hg4 hat4 hlt4)
            clear c0 f0 bx ho4 hg4 hat4 hlt4 k4 kf4 HL HK HN hown hone hml hnl
            obtain ⟨V5, hV5⟩ : ∃ V5, V5 = Value.slice (some ⟨g4, 0, none⟩) (Ln + D.length) c4 := ⟨_, rfl⟩
            obtain ⟨wd, hwd⟩ : ∃ wd, wd = w4.setCell ⟨B, 0, none⟩ V5 := ⟨_, rfl⟩
            rw [← hV5, ← hwd]
            have HQ : Hid (Aft w wd S B V5 YY GG D) := Lib.hid (by rw [hwd, hV5]; exact HQ0.out)
            clear hwd hV5 HQ0
            cases he : jend f with
            | false =>
              have HP := Lib.hid (post_go HQ.out HYd.out HGd.out hJN.out (by rw [← HLn.out]; omega) he)
              clear HQ
              go_wp2_with fail
              go_ret2
              exact HP.out
            | true =>
              have HP := Lib.hid (post_end HQ.out HYd.out HGd.out hJN.out (by rw [← HLn.out]; omega) he)
              have c0 := HQ.out.st.c0
              have c1 := HQ.out.st.c1
              have f0 := HQ.out.st.fz 0
              have f1 := HQ.out.st.fz 1
              clear HQ
              go_wp2_with fail
              go_ret2
              exact HP.out

end Go.Proofs.Ytfahnjicinpahaa
