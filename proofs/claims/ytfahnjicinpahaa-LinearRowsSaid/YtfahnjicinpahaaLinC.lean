/- Contracts: Fits, of the program and of the document. -/
import Derived.Test.YtfahnjicinpahaaLinB
import Derived.Deep.QuietTactic
namespace Go.Proofs.Ytfahnjicinpahaa
open Go.RowKit
set_option linter.unusedVariables false

/-- A call of a queue. -/
structure QOp where
  put : Bool
  v : Int
  f : Int
  t : Int

def QOp.wf (q : QOp) : Prop := (Lit.int .i64 q.v).wf = true ∧ (Lit.int .i64 q.f).wf = true ∧ (Lit.int .i64 q.t).wf = true
def q0 : QOp := ⟨false, 0, 0, 0⟩

/-- A slice of calls that can be read. -/
def QOps (w : World) (s : Value) (l : List QOp) : Prop :=
  ∃ a cap, s = .slice a l.length cap ∧ l.length ≤ cap ∧ (l = [] ∨ ∃ b off, a = some ⟨b, off, none⟩ ∧ ∀ i, i < l.length →
    w.cell? ⟨b, off + i * 4, none⟩ = some (.bool (l.getD i q0).put) ∧ w.cell? ⟨b, off + i * 4 + 1, none⟩ = some (.int .i64 (l.getD i q0).v) ∧ w.cell? ⟨b, off + i * 4 + 2, none⟩ = some (.int .i64 (l.getD i q0).f) ∧ w.cell? ⟨b, off + i * 4 + 3, none⟩ = some (.int .i64 (l.getD i q0).t))

def rn (zs : List Int) (k : Nat) : Nat := (zs.getD k 0).toNat
def qf (l : List QOp) (m : Nat) : Int := (l.getD m q0).f
def qt (l : List QOp) (m : Nat) : Int := (l.getD m q0).t
theorem rn_ok {n : Nat} {zs : List Int} (h : rowOk n zs) {k : Nat} (hk : k < zs.length) : zs.getD k 0 = (rn zs k : Int) ∧ rn zs k < n := by
  have hm : zs.getD k 0 ∈ zs := by simp [List.getD_eq_getElem?_getD, hk]
  have := h.2 _ hm
  unfold rn
  omega

/-- Does a row go with the moments? -/
def fitsAt (l : List QOp) (zs : List Int) (i j : Nat) : Prop := qf l (rn zs i) ≤ qt l (rn zs j)
def fitsOk (l : List QOp) (zs : List Int) : Prop := ∀ i j, i < j → j < zs.length → fitsAt l zs i j

/-- Integers that can be read, in a row that has room for them. -/
def IntsC (k : IntKind) (w : World) (s : Value) (l : List Int) : Prop :=
  ∃ a cap, s = .slice a l.length cap ∧ l.length ≤ cap ∧ (l = [] ∨ ∃ b off, a = some ⟨b, off, none⟩ ∧ ∀ i, i < l.length → w.cell? ⟨b, off + i, none⟩ = some (.int k (l.getD i 0)))
theorem IntsC.ints {k : IntKind} {w : World} {s : Value} {l : List Int} (h : IntsC k w s l) : Ints k w s l := by
  obtain ⟨a, cap, h1, _, h2⟩ := h
  exact ⟨a, cap, h1, h2⟩

/-- What a walk over calls in a row knows of its world. -/
structure FitW (w wr : World) (b off : Nat) (zs : List Int) (b2 off2 : Nat) (qs : List QOp) : Prop where
  row : ∀ k, k < zs.length → wr.cell? ⟨b, off + k, none⟩ = some (.int .i64 (rn zs k))
  op : ∀ m, m < qs.length → wr.cell? ⟨b2, off2 + m * 4, none⟩ = some (.bool (qs.getD m q0).put) ∧ wr.cell? ⟨b2, off2 + m * 4 + 1, none⟩ = some (.int .i64 (qs.getD m q0).v) ∧ wr.cell? ⟨b2, off2 + m * 4 + 2, none⟩ = some (.int .i64 (qf qs m)) ∧ wr.cell? ⟨b2, off2 + m * 4 + 3, none⟩ = some (.int .i64 (qt qs m))
  below : Below w.heap.size w wr

theorem FitW.drewN {w wr : World} {b off : Nat} {zs : List Int} {b2 off2 : Nat} {qs : List QOp} (h : FitW w wr b off zs b2 off2 qs) (n : Nat) : FitW w (wr.drewN n) b off zs b2 off2 qs :=
  ⟨h.row, h.op, below_drewN h.below n⟩

theorem fitW_of {w w1 : World} {a al : Option Addr} {cap capl : Nat} {zs : List Int} {qs : List QOp} (hl : zs = [] ∨ ∃ b off, a = some ⟨b, off, none⟩ ∧ ∀ i, i < zs.length → w.cell? ⟨b, off + i, none⟩ = some (.int .i64 (zs.getD i 0)))
    (hql : qs = [] ∨ ∃ b off, al = some ⟨b, off, none⟩ ∧ ∀ i, i < qs.length →
      w.cell? ⟨b, off + i * 4, none⟩ = some (.bool (qs.getD i q0).put) ∧ w.cell? ⟨b, off + i * 4 + 1, none⟩ = some (.int .i64 (qs.getD i q0).v) ∧ w.cell? ⟨b, off + i * 4 + 2, none⟩ = some (.int .i64 (qs.getD i q0).f) ∧ w.cell? ⟨b, off + i * 4 + 3, none⟩ = some (.int .i64 (qs.getD i q0).t))
    (h0 : 0 < zs.length) (hr : rowOk qs.length zs) (hb : Below w.heap.size w w1) : ∃ b off b2 off2, a = some ⟨b, off, none⟩ ∧ al = some ⟨b2, off2, none⟩ ∧ FitW w w1 b off zs b2 off2 qs := by
  obtain ⟨b, off, rfl, hc⟩ : ∃ b off, a = some ⟨b, off, none⟩ ∧ ∀ i, i < zs.length → w.cell? ⟨b, off + i, none⟩ = some (.int .i64 (zs.getD i 0)) := by
    rcases hl with hl | h
    · subst hl; simp at h0
    · exact h
  have hblt : b < w.heap.size := World.block_lt_of_cell? w _ (hc 0 (by omega))
  obtain ⟨b2, off2, rfl, hd⟩ : ∃ b off, al = some ⟨b, off, none⟩ ∧ ∀ i, i < qs.length → 
      w.cell? ⟨b, off + i * 4, none⟩ = some (.bool (qs.getD i q0).put) ∧ w.cell? ⟨b, off + i * 4 + 1, none⟩ = some (.int .i64 (qs.getD i q0).v) ∧ w.cell? ⟨b, off + i * 4 + 2, none⟩ = some (.int .i64 (qs.getD i q0).f) ∧ w.cell? ⟨b, off + i * 4 + 3, none⟩ = some (.int .i64 (qs.getD i q0).t) := by
    rcases hql with hl | h
    · subst hl; have := (rn_ok hr h0).2; simp at this
    · exact h
  refine ⟨b, off, b2, off2, rfl, rfl, ⟨fun k hk => ?_, fun m hm => ?_, hb⟩⟩
  · rw [(hb.cell (p := ⟨b, off + k, none⟩) hblt), hc k hk, (rn_ok hr hk).1]
  · obtain ⟨h1, h2, h3, h4⟩ := hd m hm
    have hlt : b2 < w.heap.size := World.block_lt_of_cell? w _ h1
    exact ⟨(hb.cell (p := ⟨b2, _, none⟩) hlt).trans h1, (hb.cell (p := ⟨b2, _, none⟩) hlt).trans h2, (hb.cell (p := ⟨b2, _, none⟩) hlt).trans h3, (hb.cell (p := ⟨b2, _, none⟩) hlt).trans h4⟩

set_option maxRecDepth 100000 in
theorem fits_any (w : World) (sl s : Value) (qs : List QOp) (zs : List Int) (hq : QOps w sl qs) (hs : IntsC .i64 w s zs) (hqw : ∀ q ∈ qs, q.wf) (hz : ∀ x ∈ zs, (Lit.int .i64 x).wf = true) (hn : qs.length ≤ 60) (hlen : zs.length ≤ 60) [Decidable (rowOk qs.length zs)] (B : Bool) (hB : B = true ↔ (zs.length = qs.length ∧ rowOk qs.length zs) ∧ fitsOk qs zs) :
    Calls Try.prog 21 #[sl, s] w fun e w' => e = .returned (.bool B) ∧ Below w.heap.size w w' := by
  have hs0 := hs.ints
  obtain ⟨al, capl, rfl, hcl, hql⟩ := hq
  obtain ⟨a, cap, rfl, hcz, hl⟩ := hs
  have HI := Lib.hid (isRow_any w qs.length _ zs hs0 hz hn hlen)
  have HQL := Lib.hid hql
  have HL := Lib.hid hl
  have HB := Lib.hid hB
  clear hs0 hz hql hl hqw hB
  by_cases hrow : zs.length = qs.length ∧ rowOk qs.length zs
  · have HROW := Lib.hid hrow
    clear hrow
    go_enter Try.func21, Try.ntmps21
    go_wp2_with (go_at_call 36; refine HI.out.mono ?_; rintro e w1 ⟨rfl, hb1⟩; rw [decide_eq_true HROW.out])
    by_cases h0 : 0 < zs.length
    rotate_left
    · have HB1 := Lib.hid hb1
      clear hb1
      go_loop [16] (fun c => c = .int .i64 0) (fun c => 0)
      case atStart => rfl
      case round =>
        obtain rfl := hrel
        have hyes : Hid (fitsOk qs zs) := Lib.hid fun i j h1 h2 => by omega
        have hz0 : zs.length = 0 := by omega
        go_wp2
        go_ret
        exact ⟨by rw [HB.out.2 ⟨HROW.out, hyes.out⟩]; rfl, HB1.out⟩
    obtain ⟨b, off, b2, off2, rfl, rfl, hW⟩ := fitW_of (cap := cap) (capl := capl) HL.out HQL.out h0 HROW.out.2 hb1
    have HW0 := Lib.hid hW
    clear hb1 hW HL HQL HI
    go_loopw [16] (fun c wr => ∃ i : Nat, i ≤ zs.length ∧ c = .int .i64 i ∧ Hid (FitW w wr b off zs b2 off2 qs) ∧ Hid (∀ i', i' < i → ∀ j, i' < j → j < zs.length → fitsAt qs zs i' j)) (fun c _ => zs.length - (intOf c).toNat)
    case atStart => exact ⟨0, by omega, rfl, HW0, Lib.hid fun j hj => by omega⟩
    case round =>
      clear HW0
      obtain ⟨i, hi, rfl, HW, HC⟩ := hrel
      by_cases hlt : i < zs.length
      · have hx := HW.out.row i hlt
        have hrn := (rn_ok HROW.out.2 hlt).2
        obtain ⟨r1, hr1⟩ : ∃ r1, r1 = rn zs i := ⟨_, rfl⟩
        rw [← hr1] at hx hrn
        have HR1 := Lib.hid hr1
        clear hr1
        go_wp2
        · have hz1 : zs.length = i + 1 := by omega
          have hok : Hid (∀ i', i' < i + 1 → ∀ j, i' < j → j < zs.length → fitsAt qs zs i' j) := Lib.hid fun i' hi' j h1 h2 => HC.out i' (by omega) j h1 h2
          clear HC hx
          go_loop [26] (fun c => c = .int .i64 0) (fun c => 0)
          case atStart => rfl
          case round =>
            obtain rfl := hrel
            go_wp2
            go_roundw
            case rel => exact ⟨_, _, _, _, _, ⟨i + 1, by omega, by go_num, by simpa [hz1] using hok⟩, rfl, rfl, rfl, rfl, rfl⟩
            case measure => simp [intOf]
        · go_loopw [26] (fun c wr => ∃ j : Nat, j ≤ zs.length - (i + 1) ∧ c = .int .i64 j ∧ Hid (FitW w wr b off zs b2 off2 qs) ∧ Hid (∀ j', j' < j → fitsAt qs zs i (i + 1 + j'))) (fun c _ => zs.length - (i + 1) - (intOf c).toNat)
          case atStart => exact ⟨0, by omega, rfl, HW, Lib.hid fun j hj => by omega⟩
          case round =>
            clear hx HW
            obtain ⟨j, hj, rfl, HW, HJ⟩ := hrel
            by_cases hlj : j < zs.length - (i + 1)
            · have hy := HW.out.row (i + 1 + j) (by omega)
              have hry := (rn_ok (k := i + 1 + j) HROW.out.2 (by omega)).2
              obtain ⟨_, _, _, htj⟩ := HW.out.op _ hry
              obtain ⟨_, _, hfi, _⟩ := HW.out.op _ hrn
              obtain ⟨r2, hr2⟩ : ∃ r2, r2 = rn zs (i + 1 + j) := ⟨_, rfl⟩
              rw [← hr2] at hy htj hry
              rw [show off + (i + 1 + j) = off + (i + 1) + j by omega] at hy
              have HR2 := Lib.hid hr2
              clear hr2
              by_cases hbad : qt qs r2 < qf qs r1
              · have hno : Hid (¬ fitsOk qs zs) := Lib.hid fun h => by
                  have := h i (i + 1 + j) (by omega) (by omega)
                  unfold fitsAt at this
                  rw [← HR1.out, ← HR2.out] at this
                  omega
                go_wp2
                go_quiet (fail)
                go_wp2
                go_ret
                exact ⟨by rw [show B = false from Bool.eq_false_iff.2 fun h => hno.out (HB.out.1 h).2]; rfl, below_drewN HW.out.below _⟩
              · have hok : Hid (∀ j', j' < j + 1 → fitsAt qs zs i (i + 1 + j')) := Lib.hid fun j' hj' => by
                  rcases Nat.lt_or_ge j' j with h | h
                  · exact HJ.out j' h
                  · obtain rfl : j' = j := by omega
                    unfold fitsAt
                    rw [← HR1.out, ← HR2.out]
                    omega
                clear HJ
                go_wp2
                go_quiet (fail)
                go_wp2
                go_roundw
                case rel => exact ⟨j + 1, by omega, by go_num, Lib.hid (HW.out.drewN _), hok⟩
                case measure => simp [intOf]; omega
            · obtain rfl : j = zs.length - (i + 1) := by omega
              have hok : Hid (∀ i', i' < i + 1 → ∀ j, i' < j → j < zs.length → fitsAt qs zs i' j) := Lib.hid fun i' hi' j h1 h2 => by
                rcases Nat.lt_or_ge i' i with h | h
                · exact HC.out i' h j h1 h2
                · obtain rfl : i' = i := by omega
                  have := HJ.out (j - (i' + 1)) (by omega)
                  rw [show i' + 1 + (j - (i' + 1)) = j by omega] at this
                  exact this
              clear HJ HC
              go_wp2
              go_roundw
              case rel => exact ⟨i + 1, by omega, by go_num, HW, hok⟩
              case measure => simp [intOf]; omega
      · obtain rfl : i = zs.length := by omega
        have hyes : Hid (fitsOk qs zs) := Lib.hid fun i j h1 h2 => HC.out i (by omega) j h1 h2
        clear HC
        go_wp2
        go_ret
        exact ⟨by rw [HB.out.2 ⟨HROW.out, hyes.out⟩]; rfl, HW.out.below⟩
  · have HROW := Lib.hid hrow
    clear hrow
    go_enter Try.func21, Try.ntmps21
    go_wp2_with (go_at_call 36; refine HI.out.mono ?_; rintro e w1 ⟨rfl, hb1⟩; rw [decide_eq_false HROW.out])
    go_ret
    exact ⟨by rw [show B = false from Bool.eq_false_iff.2 fun h => HROW.out (HB.out.1 h).1]; rfl, hb1⟩

end Go.Proofs.Ytfahnjicinpahaa
