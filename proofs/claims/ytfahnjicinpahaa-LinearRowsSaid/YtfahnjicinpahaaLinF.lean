/- Contracts: Does, of the program. -/
import Derived.Test.YtfahnjicinpahaaLinE
namespace Go.Proofs.Ytfahnjicinpahaa
open Go.RowKit
set_option linter.unusedVariables false

def opAt (qs : List QOp) (zs : List Int) (k : Nat) : QOp := qs.getD (rn zs k) q0
/-- How the queue stands behind k calls, if it did them all. -/
def qst (qs : List QOp) (zs : List Int) : Nat → Option (List Int)
  | 0 => some []
  | k + 1 => match qst qs zs k with
    | some q => if qdoes q (opAt qs zs k) = true then some (qnext q (opAt qs zs k)) else none
    | none => none
theorem qst_none {qs : List QOp} {zs : List Int} {k : Nat} (h : qst qs zs k = none) : ∀ n, k ≤ n → qst qs zs n = none := by
  intro n hn
  induction n with
  | zero => rw [show k = 0 by omega] at h; exact h
  | succ n ih =>
    rcases Nat.lt_or_ge n k with hlt | hge
    · rw [show n + 1 = k by omega]; exact h
    · unfold qst; rw [ih hge]
theorem qnext_len (q : List Int) (x : QOp) : (qnext q x).length ≤ q.length + 1 := by
  unfold qnext
  split
  · simp
  · split
    · omega
    · split <;> simp; omega

theorem FitW.on {w wr w2 : World} {b off : Nat} {zs : List Int} {b2 off2 : Nat} {qs : List QOp} (h : FitW w wr b off zs b2 off2 qs) (hb : Below wr.heap.size wr w2) : FitW w w2 b off zs b2 off2 qs :=
  ⟨fun k hk => (hb.cell (p := ⟨b, off + k, none⟩) (World.block_lt_of_cell? wr _ (h.row k hk))).trans (h.row k hk), fun m hm => by
    obtain ⟨h1, h2, h3, h4⟩ := h.op m hm
    have hlt : b2 < wr.heap.size := World.block_lt_of_cell? wr _ h1
    exact ⟨(hb.cell (p := ⟨b2, _, none⟩) hlt).trans h1, (hb.cell (p := ⟨b2, _, none⟩) hlt).trans h2, (hb.cell (p := ⟨b2, _, none⟩) hlt).trans h3, (hb.cell (p := ⟨b2, _, none⟩) hlt).trans h4⟩,
    h.below.trans (hb.mono h.below.size)⟩
theorem FitW.opx {w wr : World} {b off : Nat} {zs : List Int} {b2 off2 : Nat} {qs : List QOp} (h : FitW w wr b off zs b2 off2 qs) {k : Nat} (hk : rn zs k < qs.length) :
    wr.cell? ⟨b2, off2 + rn zs k * 4, none⟩ = some (.bool (opAt qs zs k).put) ∧ wr.cell? ⟨b2, off2 + rn zs k * 4 + 1, none⟩ = some (.int .i64 (opAt qs zs k).v) ∧ wr.cell? ⟨b2, off2 + rn zs k * 4 + 2, none⟩ = some (.int .i64 (opAt qs zs k).f) ∧ wr.cell? ⟨b2, off2 + rn zs k * 4 + 3, none⟩ = some (.int .i64 (opAt qs zs k).t) := h.op _ hk

set_option maxRecDepth 100000 in
set_option maxHeartbeats 2000000 in
theorem runs_any (w : World) (sl s : Value) (qs : List QOp) (zs : List Int) (hq : QOps w sl qs) (hs : IntsC .i64 w s zs) (hz : ∀ x ∈ zs, (Lit.int .i64 x).wf = true) (hn : qs.length ≤ 60) (hlen : zs.length ≤ 60) [Decidable (rowOk qs.length zs)] (B : Bool) (hB : B = true ↔ (zs.length = qs.length ∧ rowOk qs.length zs) ∧ (qst qs zs zs.length).isSome = true) :
    Calls Try.prog 23 #[sl, s] w fun e w' => e = .returned (.bool B) ∧ Below w.heap.size w w' := by
  have hs0 := hs.ints
  obtain ⟨al, capl, rfl, hcl, hql⟩ := hq
  obtain ⟨a, cap, rfl, hcz, hl⟩ := hs
  have HI := Lib.hid (isRow_any w qs.length _ zs hs0 hz hn hlen)
  have HQL := Lib.hid hql
  have HL := Lib.hid hl
  have HB := Lib.hid hB
  clear hs0 hz hql hl hB
  by_cases hrow : zs.length = qs.length ∧ rowOk qs.length zs
  · have HROW := Lib.hid hrow
    clear hrow
    go_enter Try.func23, Try.ntmps23
    go_wp2_with (go_at_call 36; refine HI.out.mono ?_; rintro e w1 ⟨rfl, hb1⟩; rw [decide_eq_true HROW.out])
    by_cases h0 : 0 < zs.length
    rotate_left
    · have HB1 := Lib.hid hb1
      clear hb1
      go_loop [16] (fun c => c = .int .i64 0) (fun c => 0)
      case atStart => rfl
      case round =>
        obtain rfl := hrel
        have hz0 : zs.length = 0 := by omega
        have hyes : Hid (B = true) := Lib.hid (HB.out.2 ⟨HROW.out, by rw [hz0]; rfl⟩)
        go_wp2
        go_ret
        exact ⟨by rw [hyes.out]; rfl, HB1.out⟩
    obtain ⟨b, off, b2, off2, rfl, rfl, hW⟩ := fitW_of (cap := cap) (capl := capl) HL.out HQL.out h0 HROW.out.2 hb1
    have HW0 := Lib.hid hW
    clear hb1 hW HL HQL HI
    go_loopw [5, 16] (fun v c wr => ∃ (k : Nat) (q : List Int), k ≤ zs.length ∧ c = .int .i64 k ∧ Hid (FitW w wr b off zs b2 off2 qs) ∧ Hid (IntsC .i64 wr v q) ∧ Hid (qst qs zs k = some q) ∧ q.length ≤ k) (fun _ c _ => zs.length - (intOf c).toNat)
    case atStart => exact ⟨0, [], by omega, rfl, HW0, Lib.hid ⟨none, 0, rfl, by simp, .inl rfl⟩, Lib.hid rfl, by simp⟩
    case round =>
      clear HW0
      obtain ⟨k, q, hk, rfl, HW, HQ, HST, hql⟩ := hrel
      by_cases hlt : k < zs.length
      · have hx := HW.out.row k hlt
        have hrn := (rn_ok HROW.out.2 hlt).2
        obtain ⟨c1, c2, c3, c4⟩ := HW.out.opx hrn
        have hst2 : qst qs zs (k + 1) = if qdoes q (opAt qs zs k) = true then some (qnext q (opAt qs zs k)) else none := by unfold qst; rw [HST.out]
        have hnl := qnext_len q (opAt qs zs k)
        generalize opAt qs zs k = x at *
        generalize rn zs k = r at *
        cases hd : qdoes q x with
        | true =>
          have HST2 : Hid (qst qs zs (k + 1) = some (qnext q x)) := Lib.hid (by rw [hst2, hd]; rfl)
          clear hst2 HST
          go_wp2_with (go_at_call 38; refine (does_any _ _ q x HQ.out (by omega)).mono ?_; rintro e w2 ⟨s', rfl, hq2, hb2⟩; rw [hd])
          have HW2 := Lib.hid (HW.out.on hb2)
          have HQ2 := Lib.hid hq2
          clear hq2 hb2
          go_roundw
          case rel => exact ⟨k + 1, qnext q x, by omega, by go_num, HW2, HQ2, HST2, by omega⟩
          case measure => simp [intOf]; omega
        | false =>
          have HNO : Hid (B = false) := Lib.hid (Bool.eq_false_iff.2 fun h => by
            have h1 := (HB.out.1 h).2
            rw [qst_none (k := k + 1) (by rw [hst2, hd]; rfl) zs.length (by omega)] at h1
            cases h1)
          clear hst2 HST
          go_wp2_with (go_at_call 38; refine (does_any _ _ q x HQ.out (by omega)).mono ?_; rintro e w2 ⟨s', rfl, hq2, hb2⟩; rw [hd])
          have HW2 := Lib.hid (HW.out.on hb2)
          go_ret
          exact ⟨by rw [HNO.out]; rfl, HW2.out.below⟩
      · obtain rfl : k = zs.length := by omega
        have hyes : Hid (B = true) := Lib.hid (HB.out.2 ⟨HROW.out, by rw [HST.out]; rfl⟩)
        clear HST
        go_wp2
        go_ret
        exact ⟨by rw [hyes.out]; rfl, HW.out.below⟩
  · have HROW := Lib.hid hrow
    clear hrow
    go_enter Try.func23, Try.ntmps23
    go_wp2_with (go_at_call 36; refine HI.out.mono ?_; rintro e w1 ⟨rfl, hb1⟩; rw [decide_eq_false HROW.out])
    go_ret
    exact ⟨by rw [show B = false from Bool.eq_false_iff.2 fun h => HROW.out (HB.out.1 h).1]; rfl, hb1⟩

end Go.Proofs.Ytfahnjicinpahaa
