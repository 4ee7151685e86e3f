/- A joiner of the program: what it holds; contracts: drop, Open, Dropped, New. -/
import Derived.Test.YtfahnjicinpahaaProg
import Derived.Test.YtfahnjicinpahaaKit
import Derived.Test.YtfahnjicinpahaaKept
import Derived.Lib.Hide
import Derived.OwnWalk
import Derived.WalkSmall
import Derived.Maps.AppendAt
import Derived.BigRegion
import Derived.BigQuiet
import Derived.Deep.QuietTactic
import Derived.Deep.RegionLaw
import Derived.Deep.AppendLies
import Derived.Deep.Upon
namespace Go.Proofs.Ytfahnjicinpahaa
open Go.RowKit
set_option linter.unusedVariables false

/-- Bytes as cells. -/
def bcells (l : List Int) : List Value := l.map (Value.int .u8)

/-- A joiner at block B; the blocks of S are its own: begun are the fragments bs, d were dropped. -/
structure JSt (w : World) (S : Nat → Prop) (B : Nat) (s : Value) (bs : List (List Int)) (d : Int) : Prop where
  blk : S B
  lt : B < w.heap.size
  c0 : w.cell? ⟨B, 0, none⟩ = some s
  c1 : w.cell? ⟨B, 1, none⟩ = some (.int .i64 (bs.length : Int))
  c2 : w.cell? ⟨B, 2, none⟩ = some (.int .i64 d)
  fz : ∀ i, w.frozen? ⟨B, i, none⟩ = false
  own : w.ownsRow 0 5 1 s bs.flatten.length (bcells bs.flatten)
  sep : ∀ k, s.ownBlock = some k → S k ∧ k ≠ B
  none : bs = [] → s = .slice none 0 0

theorem ownsRow_keep {S : Nat → Prop} {w w' : World} {base : Nat} {e : TypeId} {m : Nat} {v : Value} {n : Nat} {xs : List Value} (h : w.ownsRow base e m v n xs) (k : Kept S w w') (hs : ∀ j, v.ownBlock = some j → ¬ S j) : w'.ownsRow base e m v n xs := by
  refine ⟨h.1, h.2.imp_right ?_⟩
  rintro ⟨g, cap, cur, hv, hg, hgg, r⟩
  refine ⟨g, cap, cur, hv, hg, ?_, r⟩
  rw [k.block g (Array.getElem?_eq_some_iff.1 hgg).1 (hs g (by rw [hv]; rfl))]
  exact hgg
theorem JSt.keep {S T : Nat → Prop} {w w' : World} {B : Nat} {s : Value} {bs : List (List Int)} {d : Int} (h : JSt w S B s bs d) (k : Kept T w w') (hs : ∀ j, S j → ¬ T j) : JSt w' S B s bs d :=
  ⟨h.blk, Nat.lt_of_lt_of_le h.lt k.size, (k.cell (p := ⟨B, 0, .none⟩) h.lt (hs B h.blk)).trans h.c0, (k.cell (p := ⟨B, 1, .none⟩) h.lt (hs B h.blk)).trans h.c1, (k.cell (p := ⟨B, 2, .none⟩) h.lt (hs B h.blk)).trans h.c2,
    fun i => (k.frozen (p := ⟨B, i, .none⟩) h.lt (hs B h.blk)).trans (h.fz i), ownsRow_keep h.own k (fun j hj => hs j (h.sep j hj).1), h.sep, h.none⟩
theorem JSt.wider {S T : Nat → Prop} {w : World} {B : Nat} {s : Value} {bs : List (List Int)} {d : Int} (h : JSt w S B s bs d) (hs : ∀ j, S j → T j) : JSt w T B s bs d :=
  ⟨hs _ h.blk, h.lt, h.c0, h.c1, h.c2, h.fz, h.own, fun k hk => ⟨hs _ (h.sep k hk).1, (h.sep k hk).2⟩, h.none⟩

theorem cell_set0 {w : World} {a b : Addr} {v : Value} (h : a ≠ b) : (w.setCell a v).cell? b = w.cell? b := World.cell?_setCell_other w a b v h
theorem cell_set2 {w : World} {a : Addr} {v u : Value} (h : w.cell? a = some u) : (w.setCell a v).cell? a = some v := World.cell?_setCell_same w a v h
theorem fz_set {w : World} {a b : Addr} {v : Value} : (w.setCell a v).frozen? b = w.frozen? b := by
  unfold World.frozen? World.setCell
  simp only [Array.getElem?_modify]
  by_cases hb : a.block = b.block
  · simp only [hb, if_true]
    cases w.heap[b.block]? with
    | none => rfl
    | some o => cases o <;> rfl
  · simp [hb]

set_option maxRecDepth 100000 in
theorem jdrop_any (w : World) (S : Nat → Prop) (B : Nat) (s : Value) (p : Nat) (d : Int) (blk : S B) (hlt : B < w.heap.size) (c0 : w.cell? ⟨B, 0, none⟩ = some s) (c1 : w.cell? ⟨B, 1, none⟩ = some (.int .i64 (p : Int))) (c2 : w.cell? ⟨B, 2, none⟩ = some (.int .i64 d)) (fz : ∀ i, w.frozen? ⟨B, i, none⟩ = false) (hd0 : 0 ≤ d) (hd : d + p ≤ 1000000) :
    Calls Try.prog 32 #[.pointer (some ⟨B, 0, none⟩)] w fun e w' => e = .returned (.tuple #[]) ∧ Kept (fun k => k = B) w w' ∧ JSt w' S B (.slice none 0 0) [] (d + p) := by
  have f0 := fz 0
  have f1 := fz 1
  have f2 := fz 2
  obtain ⟨W, hW⟩ : ∃ W, W = ((w.setCell ⟨B, 2, none⟩ (.int .i64 (d + p))).setCell ⟨B, 0, none⟩ (.slice none 0 0)).setCell ⟨B, 1, none⟩ (.int .i64 0) := ⟨_, rfl⟩
  have hk : Kept (fun k => k = B) w W := by rw [hW]; exact (((Kept.refl (fun k => k = B) w).setCell (p := ⟨B, 2, none⟩) rfl _).setCell (p := ⟨B, 0, none⟩) rfl _).setCell (p := ⟨B, 1, none⟩) rfl _
  have HF : Hid (∀ n, Kept (fun k => k = B) w (W.drewN n) ∧ JSt (W.drewN n) S B (.slice none 0 0) [] (d + p)) := Lib.hid fun n =>
    ⟨hk.drewN n, blk, Nat.lt_of_lt_of_le hlt hk.size,
      (by show W.cell? _ = _; rw [hW, cell_set0 (by simp), cell_set2 (u := s) (by rw [cell_set0 (by simp)]; exact c0)]),
      (by show W.cell? _ = _; rw [hW, cell_set2 (by rw [cell_set0 (by simp), cell_set0 (by simp)]; exact c1)]; simp),
      (by show W.cell? _ = _; rw [hW, cell_set0 (by simp), cell_set0 (by simp), cell_set2 c2]), (fun i => by show W.frozen? _ = _; rw [hW, fz_set, fz_set, fz_set]; exact fz i), World.ownsRow_nil _ _ _ _, (fun k hk => by cases hk), fun _ => rfl⟩
  have HD : Hid (IntKind.i64.wrap (d + p) = d + p) := Lib.hid (IntWalk.i64_in _ (by omega))
  clear hk fz
  go_enter Try.func32, Try.ntmps32
  go_wp2_with fail
  go_region
  go_wp2_with fail
  rw [← hW]
  go_end0
  exact ⟨rfl, (HF.out 1).1, (HF.out 1).2⟩

/-- Nothing is appended, at a step of a region that draws its order. -/
theorem step_append_none {P : Program} {ops : Array Oper} {o : Oper} {a : Act} {w : World} {K : Act → World → Prop} {Q : Exit → Act → World → Prop} {E : Prop}
    (hg : o.guard = none) (s x : Operand) (t : TypeId) (hop : o.op = Op.call { callee := Callee.builtin Builtin.append, args := #[s, x], argTypes := #[t, t] })
    (e : TypeId) (i : TypeInfo) (h1 : P.underlying t = some (.slice e)) (h2 : P.info? e = some i) (ao : Option Addr) (n cap : Nat) (hs : a.eval s = .slice ao n cap) (hle : n ≤ cap) (xo : Option Addr) (c : Nat) (hx : a.eval x = .slice xo 0 c)
    (hK : K (a.put o.dst (.slice ao n cap)) w) : if Region.wanted o (yielded ops a.tmps) = true then Oper.wp P o a w K Q else E := by
  have hw : Region.wanted o (yielded ops a.tmps) = true := by simp [Region.wanted, hg]
  rw [if_pos hw]
  have hsrc : Src P i.size t (.slice xo 0 c) 0 [] w := by
    cases xo with
    | none => exact Src.ofNil w h1 c
    | some b => exact Src.ofSlice w h1 b 0 c [] (by simp) (fun j u h => by simp at h) (fun u h => by cases h)
  have hrun := run_append_nothing (P := P) w t t o.type e i h1 h2 ao n cap hle _ hsrc
  unfold Oper.wp
  simp [execOp, hop, resolve, invoke, builtin, hs, hx, hrun, Result.andThen]
  exact hK

theorem Try.info5 : (Try.prog.info? 5).map (fun i => (i.zero, i.size, i.bytes)) = some (some (.int .u8 0), 1, 1) := by kernel_rfl

/-- What is pushed: what was begun, and dropped, then; what is whole. -/
def jbegin (f : Int) : Bool := decide (128 ≤ f)
def jend (f : Int) : Bool := decide (f / 64 % 2 = 1)
def jBegun (bs : List (List Int)) (f : Int) : List (List Int) := if jbegin f then [] else bs
def jGone (bs : List (List Int)) (d f : Int) : Int := if jbegin f then d + bs.length else d
def jNone (bs : List (List Int)) (f : Int) : Bool := !jbegin f && bs.isEmpty
def jLong (bs : List (List Int)) (f : Int) (D : List Int) : Bool := decide (131072 < (jBegun bs f).flatten.length + D.length)
def jNext (bs : List (List Int)) (f : Int) (D : List Int) : List (List Int) := if jNone bs f || jLong bs f D || jend f then [] else jBegun bs f ++ [D]
def jDrop (bs : List (List Int)) (d f : Int) (D : List Int) : Int := if jNone bs f then d + 1 else if jLong bs f D then jGone bs d f + (jBegun bs f).length + 1 else jGone bs d f
def jWhole (bs : List (List Int)) (f : Int) (D : List Int) : Option (List Int) := if !jNone bs f && !jLong bs f D && jend f then some ((jBegun bs f).flatten ++ D) else none

end Go.Proofs.Ytfahnjicinpahaa
