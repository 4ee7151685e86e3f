/- Both joiners side by side. -/
import Derived.Test.YtfahnjicinpahaaJoE
namespace Go.Proofs.Ytfahnjicinpahaa
open Go.RowKit
set_option linter.unusedVariables false

set_option maxRecDepth 100000 in
theorem ropen_any (w : World) (S : Nat → Prop) (B : Nat) (s : Value) (vs : List Value) (bs : List (List Int)) (d : Int) (h : RSt w S B s vs bs d) (hbl : bs.length ≤ 900000) (hfl : bs.flatten.length ≤ 131072) :
    Calls Try.prog 15 #[.pointer (some ⟨B, 0, none⟩)] w fun e w' => e = .returned (.int .i64 (if bs.length = 0 then -1 else (bs.flatten.length : Int))) ∧ w' = w := by
  have c0 := h.c0
  obtain ⟨ao, cp, hs, hcp⟩ := row_form h.own
  have HBY := Lib.hid (rbytes_any w S B s vs bs d h hbl hfl)
  obtain ⟨Ln, hLn⟩ : ∃ n, n = bs.flatten.length := ⟨_, rfl⟩
  rw [← hLn] at HBY ⊢
  obtain ⟨q, hq⟩ : ∃ q : Nat, Hid (q = bs.length) := ⟨_, Lib.hid rfl⟩
  rw [hs] at c0
  rw [← hq.out] at c0 ⊢
  clear h hs hcp hLn
  by_cases hb : q = 0
  · rw [if_pos hb]
    subst hb
    go_enter Try.func15, Try.ntmps15
    go_wp2_with fail
    go_ret
    exact ⟨rfl, rfl⟩
  · rw [if_neg hb]
    have hq0 : ¬ (q : Int) = 0 := by omega
    have hq1 : ((q : Int) == 0) = false := by simpa using hb
    go_enter Try.func15, Try.ntmps15
    go_wp2_with (go_at_call 34; refine HBY.out.mono ?_; rintro en wx ⟨rfl, rfl⟩)
    go_ret
    exact ⟨rfl, rfl⟩

structure Two (w0 w : World) (O SJ SR : Nat → Prop) (B R : Nat) (bJ : List (List Int)) (dJ : Int) (bR : List (List Int)) (dR : Int) : Prop where
  j : ∃ s, JSt w SJ B s bJ dJ
  r : ∃ s vs, RSt w SR R s vs bR dR
  dis : ∀ k, SJ k → ¬ SR k
  ltJ : ∀ k, SJ k → w0.heap.size ≤ k ∧ k < w.heap.size
  ltR : ∀ k, SR k → w0.heap.size ≤ k ∧ k < w.heap.size
  out : ∀ k, O k → ¬ SJ k ∧ ¬ SR k ∧ k < w.heap.size
  bel : Below w0.heap.size w0 w

def newS (S : Nat → Prop) (w w' : World) : Nat → Prop := fun k => S k ∨ (w.heap.size ≤ k ∧ k < w'.heap.size)

theorem below_kept {w0 w w' : World} {S : Nat → Prop} (h : Below w0.heap.size w0 w) (k : Kept S w w') (hs : ∀ j, S j → w0.heap.size ≤ j) : Below w0.heap.size w0 w' :=
  ⟨k.os.trans h.os, k.tape.trans h.tape, k.output.trans h.output, Nat.le_trans h.size k.size, fun i hi => (k.block i (Nat.lt_of_lt_of_le hi h.size) (fun hh => by have := hs i hh; omega)).trans (h.block i hi)⟩

theorem jpush_two (w0 w : World) (O SJ SR : Nat → Prop) (B R : Nat) (bJ : List (List Int)) (dJ : Int) (bR : List (List Int)) (dR e f : Int) (G cap : Nat) (D : List Int) (h : Two w0 w O SJ SR B R bJ dJ bR dR) (hG : O G)
    (hD : Ints .u8 w (.slice (some ⟨G, 0, none⟩) D.length cap) D) (hDc : D.length ≤ cap) (hf0 : 0 ≤ f) (hf1 : f ≤ 255) (hfl : bJ.flatten.length ≤ 131072) (hDl : D.length ≤ 40000) (hd0 : 0 ≤ dJ) (hd : dJ + bJ.length ≤ 900000) :
    Calls Try.prog 12 #[.pointer (some ⟨B, 0, none⟩), .agg #[.int .i64 e, .int .u8 f, .slice (some ⟨G, 0, none⟩) D.length cap]] w fun en w' =>
      ∃ a c, en = .returned (.tuple #[.slice a ((jWhole bJ f D).getD []).length c, .bool (jWhole bJ f D).isSome]) ∧ ∃ SJ', Two w0 w' O SJ' SR B R (jNext bJ f D) (jDrop bJ dJ f D) bR dR ∧ (∀ k, k < w.heap.size → ¬ SJ k → w'.heap[k]? = w.heap[k]?) ∧ w.heap.size ≤ w'.heap.size := by
  obtain ⟨s, hj⟩ := h.j
  refine (jpush_any w SJ B s bJ dJ e f (some ⟨G, 0, none⟩) cap D hj (fun k hk => (h.ltJ k hk).2) hD hDc (fun x hx _ => by cases hx; exact (h.out G hG).1) hf0 hf1 hfl hDl hd0 hd).mono ?_
  rintro en w' ⟨v, ok, s', rfl, hk, hst, hm⟩
  have hT : Two w0 w' O (newS SJ w w') SR B R (jNext bJ f D) (jDrop bJ dJ f D) bR dR := by
    obtain ⟨s2, vs2, hr⟩ := h.r
    refine ⟨⟨s', hst⟩, ⟨s2, vs2, hr.keep hk (fun k hk2 hk3 => h.dis k hk3 hk2)⟩, ?_, ?_, ?_, ?_, below_kept h.bel hk fun k hk2 => (h.ltJ k hk2).1⟩
    · rintro k (hk2 | hk2) hk3
      · exact h.dis k hk2 hk3
      · have := (h.ltR k hk3).2; omega
    · rintro k (hk2 | hk2)
      · exact ⟨(h.ltJ k hk2).1, Nat.lt_of_lt_of_le (h.ltJ k hk2).2 hk.size⟩
      · have := h.bel.size; exact ⟨by omega, hk2.2⟩
    · intro k hk2
      exact ⟨(h.ltR k hk2).1, Nat.lt_of_lt_of_le (h.ltR k hk2).2 hk.size⟩
    · intro k hk2
      obtain ⟨h1, h2, h3⟩ := h.out k hk2
      refine ⟨?_, h2, Nat.lt_of_lt_of_le h3 hk.size⟩
      rintro (h4 | h4)
      · exact h1 h4
      · omega
  cases hw : jWhole bJ f D with
  | none =>
    rw [hw] at hm
    obtain ⟨rfl, rfl⟩ := hm
    exact ⟨none, 0, rfl, _, hT, fun k h1 h2 => hk.block k h1 h2, hk.size⟩
  | some W =>
    rw [hw] at hm
    obtain ⟨rfl, h1, _⟩ := hm
    obtain ⟨a, c, rfl, _⟩ := row_form h1
    exact ⟨a, c, rfl, _, hT, fun k h1 h2 => hk.block k h1 h2, hk.size⟩

theorem rpush_two (w0 w : World) (O SJ SR : Nat → Prop) (B R : Nat) (bJ : List (List Int)) (dJ : Int) (bR : List (List Int)) (dR e f : Int) (G cap : Nat) (D : List Int) (h : Two w0 w O SJ SR B R bJ dJ bR dR) (hG : O G)
    (hD : Ints .u8 w (.slice (some ⟨G, 0, none⟩) D.length cap) D) (hDc : D.length ≤ cap) (hf0 : 0 ≤ f) (hf1 : f ≤ 255) (hfl : bR.flatten.length ≤ 131072) (hDl : D.length ≤ 40000) (hd0 : 0 ≤ dR) (hd : dR + bR.length ≤ 900000) :
    Calls Try.prog 13 #[.pointer (some ⟨R, 0, none⟩), .agg #[.int .i64 e, .int .u8 f, .slice (some ⟨G, 0, none⟩) D.length cap]] w fun en w' =>
      ∃ a c, en = .returned (.tuple #[.slice a ((jWhole bR f D).getD []).length c, .bool (jWhole bR f D).isSome]) ∧ ∃ SR', Two w0 w' O SJ SR' B R bJ dJ (jNext bR f D) (jDrop bR dR f D) ∧ (∀ k, k < w.heap.size → ¬ SR k → w'.heap[k]? = w.heap[k]?) ∧ w.heap.size ≤ w'.heap.size := by
  obtain ⟨s, vs, hr⟩ := h.r
  refine (rpush_any w SR R s vs bR dR e f (some ⟨G, 0, none⟩) cap D hr (fun k hk => (h.ltR k hk).2) hD hDc (fun x hx _ => by cases hx; exact (h.out G hG).2.1) hf0 hf1 hfl hDl hd0 hd).mono ?_
  rintro en w' ⟨v, ok, s', vs', rfl, hk, hst, hm⟩
  have hT : Two w0 w' O SJ (newS SR w w') B R bJ dJ (jNext bR f D) (jDrop bR dR f D) := by
    obtain ⟨s2, hj⟩ := h.j
    refine ⟨⟨s2, hj.keep hk (fun k hk2 hk3 => h.dis k hk2 hk3)⟩, ⟨s', vs', hst⟩, ?_, ?_, ?_, ?_, below_kept h.bel hk fun k hk2 => (h.ltR k hk2).1⟩
    · rintro k hk3 (hk2 | hk2)
      · exact h.dis k hk3 hk2
      · have := (h.ltJ k hk3).2; omega
    · intro k hk2
      exact ⟨(h.ltJ k hk2).1, Nat.lt_of_lt_of_le (h.ltJ k hk2).2 hk.size⟩
    · rintro k (hk2 | hk2)
      · exact ⟨(h.ltR k hk2).1, Nat.lt_of_lt_of_le (h.ltR k hk2).2 hk.size⟩
      · have := h.bel.size; exact ⟨by omega, hk2.2⟩
    · intro k hk2
      obtain ⟨h1, h2, h3⟩ := h.out k hk2
      refine ⟨h1, ?_, Nat.lt_of_lt_of_le h3 hk.size⟩
      rintro (h4 | h4)
      · exact h2 h4
      · omega
  cases hw : jWhole bR f D with
  | none =>
    rw [hw] at hm
    obtain ⟨rfl, rfl⟩ := hm
    exact ⟨none, 0, rfl, _, hT, fun k h1 h2 => hk.block k h1 h2, hk.size⟩
  | some W =>
    rw [hw] at hm
    obtain ⟨rfl, h1⟩ := hm
    obtain ⟨a, c, rfl, _⟩ := row_form h1
    exact ⟨a, c, rfl, _, hT, fun k h1 h2 => hk.block k h1 h2, hk.size⟩

theorem jNext_flat (bs : List (List Int)) (f : Int) (D : List Int) : (jNext bs f D).flatten.length ≤ 131072 := by
  unfold jNext
  split
  · simp
  · rename_i h
    simp only [Bool.or_eq_true, not_or] at h
    have h2 := h.1.2
    simp only [jLong, decide_eq_true_eq] at h2
    simp only [List.flatten_append, List.length_append, List.flatten_cons, List.flatten_nil, List.append_nil]; omega
theorem jDrop_le (bs : List (List Int)) (d f : Int) (D : List Int) (h : 0 ≤ d) : 0 ≤ jDrop bs d f D ∧ jDrop bs d f D + (jNext bs f D).length ≤ d + bs.length + 1 := by
  unfold jDrop jNext
  have hG : jGone bs d f + (jBegun bs f).length = d + bs.length := by unfold jGone jBegun; cases jbegin f <;> simp
  have hG0 : 0 ≤ jGone bs d f := by unfold jGone; cases jbegin f <;> simp <;> omega
  cases hn : jNone bs f <;> cases hl : jLong bs f D <;> cases he : jend f <;> simp <;> (try constructor) <;> omega

/-- What a block holds, outside. -/
structure Frag (w : World) (F G : Nat) (f : Int) (n : Nat) (D : List Int) : Prop where
  c0 : w.cell? ⟨F, 0, none⟩ = some (.int .i64 0)
  c1 : w.cell? ⟨F, 1, none⟩ = some (.int .u8 f)
  c2 : w.cell? ⟨F, 2, none⟩ = some (.slice (some ⟨G, 0, none⟩) n n)
  f1 : w.frozen? ⟨F, 1, none⟩ = false
  len : D.length = n
  data : Ints .u8 w (.slice (some ⟨G, 0, none⟩) n n) D
theorem Frag.keep {w w' : World} {F G : Nat} {f : Int} {n : Nat} {D : List Int} (h : Frag w F G f n D) (hF : w'.heap[F]? = w.heap[F]?) (hG : w'.heap[G]? = w.heap[G]?) : Frag w' F G f n D := by
  refine ⟨(World.cell?_of_block (a := ⟨F, 0, .none⟩) hF).trans h.c0, (World.cell?_of_block (a := ⟨F, 1, .none⟩) hF).trans h.c1, (World.cell?_of_block (a := ⟨F, 2, .none⟩) hF).trans h.c2, (World.frozen?_of_block (a := ⟨F, 1, .none⟩) hF).trans h.f1, h.len, ?_⟩
  obtain ⟨a, c, e, hd⟩ := h.data
  refine ⟨a, c, e, hd.imp_right ?_⟩
  rintro ⟨b, off, e1, hc⟩
  subst e1
  cases e
  exact ⟨G, 0, rfl, fun i hi => (World.cell?_of_block (a := ⟨G, 0 + i, .none⟩) hG).trans (hc i hi)⟩

/-- Both joiners, and a fragment outside. -/
structure St (w0 w : World) (F G : Nat) (f : Int) (n : Nat) (D : List Int) (B R : Nat) (bJ : List (List Int)) (dJ : Int) (bR : List (List Int)) (dR : Int) : Prop where
  two : ∃ SJ SR, Two w0 w (fun k => k = F ∨ k = G) SJ SR B R bJ dJ bR dR
  frag : Frag w F G f n D
  ne : F ≠ G
  lo : w0.heap.size ≤ F
  flJ : bJ.flatten.length ≤ 131072
  flR : bR.flatten.length ≤ 131072
  dJ0 : 0 ≤ dJ
  dR0 : 0 ≤ dR

theorem St.jpush {w0 w : World} {F G : Nat} {f : Int} {n : Nat} {D : List Int} {B R : Nat} {bJ : List (List Int)} {dJ : Int} {bR : List (List Int)} {dR : Int} (h : St w0 w F G f n D B R bJ dJ bR dR) (hf0 : 0 ≤ f) (hf1 : f ≤ 255) (hn : n ≤ 40000) (hd : dJ + bJ.length ≤ 900000) :
    Calls Try.prog 12 #[.pointer (some ⟨B, 0, none⟩), .agg #[.int .i64 0, .int .u8 f, .slice (some ⟨G, 0, none⟩) n n]] w fun en w' =>
      ∃ a c, en = .returned (.tuple #[.slice a ((jWhole bJ f D).getD []).length c, .bool (jWhole bJ f D).isSome]) ∧ St w0 w' F G f n D B R (jNext bJ f D) (jDrop bJ dJ f D) bR dR := by
  obtain ⟨SJ, SR, hT⟩ := h.two
  have hl := h.frag.len
  have hdt := h.frag.data
  subst hl
  refine (jpush_two w0 w _ SJ SR B R bJ dJ bR dR 0 f G D.length D hT (.inr rfl) hdt (Nat.le_refl _) hf0 hf1 h.flJ hn h.dJ0 hd).mono ?_
  rintro en w' ⟨a, c, rfl, SJ', hT', hk, _⟩
  obtain ⟨o1, _, o3⟩ := hT.out F (.inl rfl)
  obtain ⟨p1, _, p3⟩ := hT.out G (.inr rfl)
  exact ⟨a, c, rfl, ⟨SJ', SR, hT'⟩, h.frag.keep (hk F o3 o1) (hk G p3 p1), h.ne, h.lo, jNext_flat _ _ _, h.flR, (jDrop_le _ _ _ _ h.dJ0).1, h.dR0⟩

theorem St.rpush {w0 w : World} {F G : Nat} {f : Int} {n : Nat} {D : List Int} {B R : Nat} {bJ : List (List Int)} {dJ : Int} {bR : List (List Int)} {dR : Int} (h : St w0 w F G f n D B R bJ dJ bR dR) (hf0 : 0 ≤ f) (hf1 : f ≤ 255) (hn : n ≤ 40000) (hd : dR + bR.length ≤ 900000) :
    Calls Try.prog 13 #[.pointer (some ⟨R, 0, none⟩), .agg #[.int .i64 0, .int .u8 f, .slice (some ⟨G, 0, none⟩) n n]] w fun en w' =>
      ∃ a c, en = .returned (.tuple #[.slice a ((jWhole bR f D).getD []).length c, .bool (jWhole bR f D).isSome]) ∧ St w0 w' F G f n D B R bJ dJ (jNext bR f D) (jDrop bR dR f D) := by
  obtain ⟨SJ, SR, hT⟩ := h.two
  have hl := h.frag.len
  have hdt := h.frag.data
  subst hl
  refine (rpush_two w0 w _ SJ SR B R bJ dJ bR dR 0 f G D.length D hT (.inr rfl) hdt (Nat.le_refl _) hf0 hf1 h.flR hn h.dR0 hd).mono ?_
  rintro en w' ⟨a, c, rfl, SR', hT', hk, _⟩
  obtain ⟨_, o1, o3⟩ := hT.out F (.inl rfl)
  obtain ⟨_, p1, p3⟩ := hT.out G (.inr rfl)
  exact ⟨a, c, rfl, ⟨SJ, SR', hT'⟩, h.frag.keep (hk F o3 o1) (hk G p3 p1), h.ne, h.lo, h.flJ, jNext_flat _ _ _, h.dJ0, (jDrop_le _ _ _ _ h.dR0).1⟩

theorem Two.kept {w0 w w' : World} {O O' T SJ SR : Nat → Prop} {B R : Nat} {bJ : List (List Int)} {dJ : Int} {bR : List (List Int)} {dR : Int} (h : Two w0 w O SJ SR B R bJ dJ bR dR) (k : Kept T w w') (hT : ∀ j, T j → ¬ SJ j ∧ ¬ SR j ∧ w0.heap.size ≤ j) (ho : ∀ j, O' j → ¬ SJ j ∧ ¬ SR j ∧ j < w'.heap.size) : Two w0 w' O' SJ SR B R bJ dJ bR dR := by
  obtain ⟨s, hj⟩ := h.j
  obtain ⟨s2, vs, hr⟩ := h.r
  exact ⟨⟨s, hj.keep k fun j h1 h2 => (hT j h2).1 h1⟩, ⟨s2, vs, hr.keep k fun j h1 h2 => (hT j h2).2.1 h1⟩, h.dis, fun j h1 => ⟨(h.ltJ j h1).1, Nat.lt_of_lt_of_le (h.ltJ j h1).2 k.size⟩, fun j h1 => ⟨(h.ltR j h1).1, Nat.lt_of_lt_of_le (h.ltR j h1).2 k.size⟩, ho, below_kept h.bel k fun j h1 => (hT j h1).2.2⟩

theorem St.flag {w0 w : World} {F G : Nat} {f : Int} {n : Nat} {D : List Int} {B R : Nat} {bJ : List (List Int)} {dJ : Int} {bR : List (List Int)} {dR : Int} (h : St w0 w F G f n D B R bJ dJ bR dR) (f' : Int) : St w0 (w.setCell ⟨F, 1, none⟩ (.int .u8 f')) F G f' n D B R bJ dJ bR dR := by
  obtain ⟨SJ, SR, hT⟩ := h.two
  obtain ⟨o1, o2, o3⟩ := hT.out F (.inl rfl)
  obtain ⟨W, hW⟩ : ∃ W, W = w.setCell ⟨F, 1, none⟩ (.int .u8 f') := ⟨_, rfl⟩
  have k : Kept (fun k => k = F) w W := by rw [hW]; exact (Kept.refl (fun k => k = F) w).setCell (p := ⟨F, 1, none⟩) rfl _
  have hg := h.frag
  have hGb : W.heap[G]? = w.heap[G]? := k.block G (hT.out G (.inr rfl)).2.2 fun e => h.ne e.symm
  rw [← hW]
  refine ⟨⟨SJ, SR, hT.kept k (fun j hj => by subst hj; exact ⟨o1, o2, h.lo⟩) fun j hj => ⟨(hT.out j hj).1, (hT.out j hj).2.1, Nat.lt_of_lt_of_le (hT.out j hj).2.2 k.size⟩⟩, ?_, h.ne, h.lo, h.flJ, h.flR, h.dJ0, h.dR0⟩
  refine ⟨by rw [hW, cell_set0 (by simp)]; exact hg.c0, by rw [hW]; exact cell_set2 hg.c1, by rw [hW, cell_set0 (by simp)]; exact hg.c2, by rw [hW, fz_set]; exact hg.f1, hg.len, ?_⟩
  obtain ⟨a, c, e, hd⟩ := hg.data
  refine ⟨a, c, e, hd.imp_right ?_⟩
  rintro ⟨b, off, e1, hc⟩
  subst e1
  cases e
  exact ⟨G, 0, rfl, fun i hi => (World.cell?_of_block (a := ⟨G, 0 + i, .none⟩) hGb).trans (hc i hi)⟩

theorem made_ints (n : Nat) : (madeCells (Value.int .u8 0).cells (n * 1)).toList = (List.replicate n (0 : Int)).map (Value.int .u8) := by
  have e : (Value.int .u8 0).cells = #[Value.int .u8 0] := rfl
  rw [e, Nat.mul_one, toList_madeCells_one]; simp

/-- A fragment laid by 'make' and a box. -/
theorem frag_new {w2 w3 : World} {base G n : Nat} {f : Int} (ho : w3.ownsRow base 5 1 (.slice (some ⟨G, 0, none⟩) n n) n (madeCells (Value.int .u8 0).cells (n * 1)).toList) :
    Frag (w3.alloc (.cells #[.int .i64 0, .int .u8 f, .slice (some ⟨G, 0, none⟩) n n] 33)) w3.heap.size G f n (List.replicate n 0) := by
  have hG : G < w3.heap.size := (ho.lt G rfl).2
  refine ⟨by simp, by simp, by simp, by unfold World.frozen?; rw [heap_alloc_new]; simp, by simp, ?_⟩
  rw [made_ints] at ho
  have h1 := Ints.of_owned (k := .u8) (l := List.replicate n 0) (by simpa using ho)
  obtain ⟨a, c, e, hd⟩ := h1
  refine ⟨a, c, e, hd.imp_right ?_⟩
  rintro ⟨b, off, e1, hc⟩
  subst e1
  have e' := e
  rw [List.length_replicate] at e'
  cases e'
  exact ⟨G, 0, rfl, fun i hi => (World.cell?_of_block (a := ⟨G, 0 + i, .none⟩) (heap_alloc_old w3 _ hG)).trans (hc i hi)⟩

theorem St.more {w0 w w3 : World} {F G : Nat} {f : Int} {n : Nat} {D : List Int} {B R : Nat} {bJ : List (List Int)} {dJ : Int} {bR : List (List Int)} {dR : Int} (h : St w0 w F G f n D B R bJ dJ bR dR) {m : Nat} {f' : Int} (hg : w.grownBy w3 none)
    (ho : w3.ownsRow w.heap.size 5 1 (.slice (some ⟨w.heap.size, 0, none⟩) m m) m (madeCells (Value.int .u8 0).cells (m * 1)).toList) :
    St w0 (w3.alloc (.cells #[.int .i64 0, .int .u8 f', .slice (some ⟨w.heap.size, 0, none⟩) m m] 33)) w3.heap.size w.heap.size f' m (List.replicate m 0) B R bJ dJ bR dR := by
  obtain ⟨SJ, SR, hT⟩ := h.two
  have hlt := (ho.lt w.heap.size rfl).2
  have k : Kept (fun _ => False) w (w3.alloc (.cells #[.int .i64 0, .int .u8 f', .slice (some ⟨w.heap.size, 0, none⟩) m m] 33)) := (kept_grown (Kept.refl _ w) hg (fun k hk => by cases hk)).alloc _
  refine ⟨⟨SJ, SR, hT.kept k (fun j hj => hj.elim) ?_⟩, frag_new (w2 := w) ho, by omega, ?_, h.flJ, h.flR, h.dJ0, h.dR0⟩
  · rintro j (rfl | rfl)
    · exact ⟨fun hh => by have := (hT.ltJ _ hh).2; omega, fun hh => by have := (hT.ltR _ hh).2; omega, by simp⟩
    · exact ⟨fun hh => by have := (hT.ltJ _ hh).2; omega, fun hh => by have := (hT.ltR _ hh).2; omega, by simp; omega⟩
  · have := hT.bel.size; omega

theorem st_start {w w1 w2 w3 : World} {n : Nat} {f : Int} (hb1 : Below w.heap.size w w1) (hk2 : Kept (fun _ => False) w1 w2) (hj2 : JSt w2 (fun k => w1.heap.size ≤ k ∧ k < w2.heap.size) w1.heap.size (.slice none 0 0) [] 0)
    (hg : (w2.alloc (.cells #[.slice none 0 0, .int .i64 0] 30)).grownBy w3 none)
    (ho : w3.ownsRow w2.heap.size 5 1 (.slice (some ⟨w2.heap.size + 1, 0, none⟩) n n) n (madeCells (Value.int .u8 0).cells (n * 1)).toList) :
    St w (w3.alloc (.cells #[.int .i64 0, .int .u8 f, .slice (some ⟨w2.heap.size + 1, 0, none⟩) n n] 33)) w3.heap.size (w2.heap.size + 1) f n (List.replicate n 0) w1.heap.size w2.heap.size [] 0 [] 0 := by
  obtain ⟨wa, hwa⟩ : ∃ wa, wa = w2.alloc (.cells #[.slice none 0 0, .int .i64 0] 30) := ⟨_, rfl⟩
  have hwas : wa.heap.size = w2.heap.size + 1 := by rw [hwa]; simp
  have hka : Kept (fun _ => False) w2 wa := by rw [hwa]; exact (Kept.refl _ w2).alloc _
  have hr : RSt wa (fun k => k = w2.heap.size) w2.heap.size (.slice none 0 0) [] [] 0 :=
    ⟨rfl, by omega, by rw [hwa]; simp, by rw [hwa]; simp, fun i => by rw [hwa]; unfold World.frozen?; rw [heap_alloc_new]; simp, rfl, World.ownsRow_nil _ _ _ _, (fun k hk => by cases hk), (fun i v b h1 _ => by simp at h1)⟩
  rw [← hwa] at hg
  have hlt := (ho.lt (w2.heap.size + 1) rfl).2
  have k3 : Kept (fun _ => False) wa w3 := kept_grown (Kept.refl _ wa) hg (fun k hk => by cases hk)
  have k4 : Kept (fun _ => False) wa (w3.alloc (.cells #[.int .i64 0, .int .u8 f, .slice (some ⟨w2.heap.size + 1, 0, none⟩) n n] 33)) := k3.alloc _
  have s1 := hb1.size
  have s2 := hk2.size
  have s4 := k4.size
  refine ⟨⟨(fun k => w1.heap.size ≤ k ∧ k < w2.heap.size), (fun k => k = w2.heap.size), ⟨_, hj2.keep (hka.trans k4) (fun _ _ hh => hh)⟩, ⟨_, _, hr.keep k4 (fun _ _ hh => hh)⟩, ?_, ?_, ?_, ?_, ?_⟩, frag_new (w2 := w2) ho, by omega, by omega, by simp, by simp, by simp, by simp⟩
  · rintro k ⟨h1, h2⟩ h3; omega
  · rintro k ⟨h1, h2⟩; omega
  · rintro k rfl; omega
  · rintro k (rfl | rfl)
    · exact ⟨fun hh => by omega, fun hh => by omega, by simp⟩
    · exact ⟨fun hh => by omega, fun hh => by omega, by simp; omega⟩
  · exact below_kept (below_kept (below_kept hb1 hk2 (fun _ hh => hh.elim)) hka (fun _ hh => hh.elim)) k4 (fun _ hh => hh.elim)

end Go.Proofs.Ytfahnjicinpahaa
