/- Contracts: New, Open, Dropped of the program; the document's joiner: drop, bytes, Open. -/
import Derived.Test.YtfahnjicinpahaaJoB
namespace Go.Proofs.Ytfahnjicinpahaa
open Go.RowKit
set_option linter.unusedVariables false

theorem row_cells2 {w : World} {base : Nat} {e : TypeId} {m : Nat} {s : Value} {n : Nat} {xs : List Value} (h : w.ownsRow base e m s n xs) : ∃ ao cap, s = .slice ao n cap ∧ n ≤ cap ∧ (0 < n → ∃ g, ao = some ⟨g, 0, none⟩ ∧ base ≤ g ∧ g < w.heap.size ∧ ∀ i, i < n * m → w.cell? ⟨g, i, none⟩ = xs[i]?) := by
  rcases h.2 with ⟨hv, hn⟩ | ⟨g, cap, cur, hv, hb, hg, hnc, hcm, hcs, htk⟩
  · exact ⟨none, 0, by rw [hv, hn], by omega, fun h => by omega⟩
  · refine ⟨_, cap, hv, hnc, fun _ => ⟨g, rfl, hb, (Array.getElem?_eq_some_iff.1 hg).1, fun i hi => ?_⟩⟩
    subst hv
    exact World.ownsRow.cellAt h i (by have := h.1; omega)

set_option maxRecDepth 100000 in
theorem jnew_any (w : World) : Calls Try.prog 11 #[] w fun e w' => e = .returned (.pointer (some ⟨w.heap.size, 0, none⟩)) ∧ Kept (fun _ => False) w w' ∧ JSt w' (fun k => w.heap.size ≤ k ∧ k < w'.heap.size) w.heap.size (.slice none 0 0) [] 0 := by
  have HF : Hid (∀ n, JSt ((w.alloc (.cells #[.slice none 0 0, .int .i64 0, .int .i64 0] 63)).drewN n) (fun k => w.heap.size ≤ k ∧ k < ((w.alloc (.cells #[.slice none 0 0, .int .i64 0, .int .i64 0] 63)).drewN n).heap.size) w.heap.size (.slice none 0 0) [] 0) := Lib.hid fun n => by
    refine ⟨⟨Nat.le_refl _, by simp⟩, by simp, ?_, ?_, ?_, fun i => ?_, World.ownsRow_nil _ _ _ _, (fun k hk => by cases hk), fun _ => rfl⟩
    · show (w.alloc _).cell? _ = _; simp
    · show (w.alloc _).cell? _ = _; simp
    · show (w.alloc _).cell? _ = _; simp
    · show (w.alloc _).frozen? _ = _
      unfold World.frozen?; rw [heap_alloc_new]; simp
  go_enter Try.func11, Try.ntmps11
  go_wp2_with fail
  go_ret
  exact ⟨rfl, (Kept.refl _ w).alloc _, HF.out 0⟩

set_option maxRecDepth 100000 in
theorem jopen_any (w : World) (S : Nat → Prop) (B : Nat) (s : Value) (bs : List (List Int)) (d : Int) (h : JSt w S B s bs d) :
    Calls Try.prog 14 #[.pointer (some ⟨B, 0, none⟩)] w fun e w' => e = .returned (.int .i64 (if bs.length = 0 then -1 else (bs.flatten.length : Int))) ∧ w' = w := by
  have c1 := h.c1
  obtain ⟨ao, cp, hs, hcp⟩ := row_form h.own
  have c0 := h.c0
  obtain ⟨Ln, hLn⟩ : ∃ n, n = bs.flatten.length := ⟨_, rfl⟩
  rw [← hLn] at hs ⊢
  obtain ⟨q, hq⟩ : ∃ q : Int, Hid (q = (bs.length : Int)) := ⟨_, Lib.hid rfl⟩
  rw [hs] at c0
  rw [← hq.out] at c1
  clear h hs hcp hLn
  by_cases hb : bs.length = 0
  · rw [if_pos hb]
    have hq0 : q = 0 := by rw [hq.out, hb]; rfl
    clear hq hb
    subst hq0
    go_enter Try.func14, Try.ntmps14
    go_wp2_with fail
    go_ret
    exact ⟨rfl, rfl⟩
  · rw [if_neg hb]
    have hq0 : ¬ q = 0 := by rw [hq.out]; omega
    have hq1 : (q == 0) = false := by simpa using hq0
    clear hq hb
    go_enter Try.func14, Try.ntmps14
    go_wp2_with fail
    go_ret
    exact ⟨rfl, rfl⟩

set_option maxRecDepth 100000 in
theorem jdropped_any (w : World) (S : Nat → Prop) (B : Nat) (s : Value) (bs : List (List Int)) (d : Int) (h : JSt w S B s bs d) :
    Calls Try.prog 16 #[.pointer (some ⟨B, 0, none⟩)] w fun e w' => e = .returned (.int .i64 d) ∧ w' = w := by
  have c2 := h.c2
  clear h
  go_enter Try.func16, Try.ntmps16
  go_wp2_with fail
  go_ret
  exact ⟨rfl, rfl⟩

/-- The document's joiner at block B. -/
structure RSt (w : World) (S : Nat → Prop) (B : Nat) (s : Value) (vs : List Value) (bs : List (List Int)) (d : Int) : Prop where
  blk : S B
  lt : B < w.heap.size
  c0 : w.cell? ⟨B, 0, none⟩ = some s
  c1 : w.cell? ⟨B, 1, none⟩ = some (.int .i64 d)
  fz : ∀ i, w.frozen? ⟨B, i, none⟩ = false
  len : vs.length = bs.length
  own : w.ownsRow 0 31 1 s bs.length vs
  sep : ∀ k, s.ownBlock = some k → S k ∧ k ≠ B
  dat : ∀ (i : Nat) (v : Value) (b : List Int), vs[i]? = some v → bs[i]? = some b → w.ownsRow 0 5 1 v b.length (bcells b) ∧ (∀ k, v.ownBlock = some k → S k ∧ k ≠ B ∧ some k ≠ s.ownBlock) ∧ ∃ g c, v = .slice (some ⟨g, 0, .none⟩) b.length c

theorem RSt.keep {S T : Nat → Prop} {w w' : World} {B : Nat} {s : Value} {vs : List Value} {bs : List (List Int)} {d : Int} (h : RSt w S B s vs bs d) (k : Kept T w w') (hs : ∀ j, S j → ¬ T j) : RSt w' S B s vs bs d :=
  ⟨h.blk, Nat.lt_of_lt_of_le h.lt k.size, (k.cell (p := ⟨B, 0, .none⟩) h.lt (hs B h.blk)).trans h.c0, (k.cell (p := ⟨B, 1, .none⟩) h.lt (hs B h.blk)).trans h.c1,
    fun i => (k.frozen (p := ⟨B, i, .none⟩) h.lt (hs B h.blk)).trans (h.fz i), h.len, ownsRow_keep h.own k (fun j hj => hs j (h.sep j hj).1), h.sep,
    fun i v b h1 h2 => ⟨ownsRow_keep (h.dat i v b h1 h2).1 k (fun j hj => hs j ((h.dat i v b h1 h2).2.1 j hj).1), (h.dat i v b h1 h2).2⟩⟩
theorem RSt.wider {S T : Nat → Prop} {w : World} {B : Nat} {s : Value} {vs : List Value} {bs : List (List Int)} {d : Int} (h : RSt w S B s vs bs d) (hs : ∀ j, S j → T j) : RSt w T B s vs bs d :=
  ⟨hs _ h.blk, h.lt, h.c0, h.c1, h.fz, h.len, h.own, fun k hk => ⟨hs _ (h.sep k hk).1, (h.sep k hk).2⟩, fun i v b h1 h2 => ⟨(h.dat i v b h1 h2).1, (fun k hk => ⟨hs _ ((h.dat i v b h1 h2).2.1 k hk).1, ((h.dat i v b h1 h2).2.1 k hk).2⟩), (h.dat i v b h1 h2).2.2⟩⟩

set_option maxRecDepth 100000 in
theorem rdrop_any (w : World) (S : Nat → Prop) (B : Nat) (s : Value) (vs : List Value) (bs : List (List Int)) (d : Int) (h : RSt w S B s vs bs d) (hd0 : 0 ≤ d) (hd : d + bs.length ≤ 1000000) :
    Calls Try.prog 33 #[.pointer (some ⟨B, 0, none⟩)] w fun e w' => e = .returned (.tuple #[]) ∧ Kept (fun k => k = B) w w' ∧ RSt w' S B (.slice none 0 0) [] [] (d + bs.length) := by
  have f0 := h.fz 0
  have f1 := h.fz 1
  have c0 := h.c0
  have c1 := h.c1
  obtain ⟨ao, cp, hs, hcp⟩ := row_form h.own
  subst hs
  obtain ⟨W, hW⟩ : ∃ W, W = (w.setCell ⟨B, 1, none⟩ (.int .i64 (d + bs.length))).setCell ⟨B, 0, none⟩ (.slice none 0 0) := ⟨_, rfl⟩
  have hk : Kept (fun k => k = B) w W := by rw [hW]; exact ((Kept.refl (fun k => k = B) w).setCell (p := ⟨B, 1, none⟩) rfl _).setCell (p := ⟨B, 0, none⟩) rfl _
  have HF : Hid (∀ n, Kept (fun k => k = B) w (W.drewN n) ∧ RSt (W.drewN n) S B (.slice none 0 0) [] [] (d + bs.length)) := Lib.hid fun n =>
    ⟨hk.drewN n, h.blk, Nat.lt_of_lt_of_le h.lt hk.size,
      (by show W.cell? _ = _; rw [hW]; exact cell_set2 (by rw [cell_set0 (by simp)]; exact c0)),
      (by show W.cell? _ = _; rw [hW, cell_set0 (by simp)]; exact cell_set2 c1), (fun i => by show W.frozen? _ = _; rw [hW, fz_set, fz_set]; exact h.fz i), rfl, World.ownsRow_nil _ _ _ _, (fun k hk => by cases hk), (fun i v b h1 _ => by simp at h1)⟩
  have hw : IntKind.i64.wrap (d + (bs.length : Int)) = d + (bs.length : Int) := IntWalk.i64_in _ (by omega)
  clear hk h
  go_enter Try.func33, Try.ntmps33
  go_wp2_with fail
  go_region
  go_wp2_with fail
  rw [← hW]
  go_end0
  exact ⟨rfl, (HF.out 1).1, (HF.out 1).2⟩

theorem flat_take (bs : List (List Int)) (i : Nat) (b : List Int) (h : bs[i]? = some b) : (bs.take (i + 1)).flatten.length = (bs.take i).flatten.length + b.length := by
  have : bs.take (i + 1) = bs.take i ++ [b] := by rw [List.take_add_one, h]; rfl
  rw [this]; simp
theorem flat_le (bs : List (List Int)) (i : Nat) : (bs.take i).flatten.length ≤ bs.flatten.length := by
  have : bs = bs.take i ++ bs.drop i := by simp
  conv => rhs; rw [this]
  simp only [List.flatten_append, List.length_append]; omega

set_option maxRecDepth 100000 in
theorem rbytes_any (w : World) (S : Nat → Prop) (B : Nat) (s : Value) (vs : List Value) (bs : List (List Int)) (d : Int) (h : RSt w S B s vs bs d) (hbl : bs.length ≤ 900000) (hfl : bs.flatten.length ≤ 131072) :
    Calls Try.prog 34 #[.pointer (some ⟨B, 0, none⟩)] w fun e w' => e = .returned (.int .i64 (bs.flatten.length : Int)) ∧ w' = w := by
  have c0 := h.c0
  obtain ⟨ao, cp, hs, hcp⟩ := row_form h.own
  subst hs
  have HC : Hid (∀ i, i < bs.length → ∃ g b a c, ao = some ⟨g, 0, none⟩ ∧ bs[i]? = some b ∧ w.cell? ⟨g, i, none⟩ = some (.slice a b.length c)) := Lib.hid fun i hi => by
    obtain ⟨ao', cp', e1, _, hcell⟩ := row_cells2 h.own
    cases e1
    obtain ⟨g, rfl, _, _, hg⟩ := hcell (by omega)
    have hv : i < vs.length := by rw [h.len]; exact hi
    obtain ⟨a, c, e3, _⟩ := row_form (h.dat i vs[i] bs[i] (by simp [hv]) (by simp [hi])).1
    refine ⟨g, bs[i], a, c, rfl, by simp [hi], ?_⟩
    rw [hg i (by omega), ← e3]
    simp [hv]
  have HT := Lib.hid (flat_take bs)
  have HLE := Lib.hid (flat_le bs)
  obtain ⟨Ln, hLn⟩ : ∃ n, Hid (n = bs.flatten.length) := ⟨_, Lib.hid rfl⟩
  rw [← hLn.out] at hfl ⊢
  clear h hcp
  go_enter Try.func34, Try.ntmps34
  go_wp2
  go_loopw [3, 11] (fun v i wr => wr = w ∧ ∃ k m : Nat, k ≤ bs.length ∧ i = .int .i64 k ∧ v = .int .i64 m ∧ Hid (m = (bs.take k).flatten.length)) (fun _ i _ => bs.length - (intOf i).toNat)
  case atStart => exact ⟨rfl, 0, 0, by omega, rfl, rfl, Lib.hid (by simp)⟩
  case round =>
    obtain ⟨rfl, k, m, hk, rfl, rfl, hm⟩ := hrel
    by_cases hlt : k < bs.length
    · obtain ⟨g, b, a, c, rfl, hb, hc⟩ := HC.out k hlt
      have HM : Hid (m + b.length = (bs.take (k + 1)).flatten.length) := Lib.hid (by rw [HT.out k b hb, hm.out])
      have hle : m + b.length ≤ Ln := by rw [HM.out, hLn.out]; exact HLE.out _
      clear HT HLE hb hm
      go_wp2
      go_roundw
      case rel => exact ⟨by trivial, k + 1, m + b.length, by omega, by go_num, by go_num, HM⟩
      case measure => simp [intOf]; omega
    · have hkk : k = bs.length := by omega
      have hmm : m = Ln := by rw [hm.out, hLn.out, hkk]; simp
      clear HC HT HLE hm hkk hLn
      subst hmm
      go_wp2
      go_ret
      exact ⟨rfl, rfl⟩

end Go.Proofs.Ytfahnjicinpahaa
