/- Contracts: the document's Fits. -/
import Derived.Test.YtfahnjicinpahaaLinC
namespace Go.Proofs.Ytfahnjicinpahaa
open Go.RowKit
set_option linter.unusedVariables false

set_option maxRecDepth 100000 in
theorem rfits_any (w : World) (sl s : Value) (qs : List QOp) (zs : List Int) (hq : QOps w sl qs) (hs : IntsC .i64 w s zs) (hqw : ∀ q ∈ qs, q.wf) (hz : ∀ x ∈ zs, (Lit.int .i64 x).wf = true) (hn : qs.length ≤ 60) (hlen : zs.length ≤ 60) [Decidable (onceOk qs.length zs)] (B : Bool) (hB : B = true ↔ (zs.length = qs.length ∧ rowOk qs.length zs) ∧ fitsOk qs zs) :
    Calls Try.prog 22 #[sl, s] w fun e w' => e = .returned (.bool B) ∧ Below w.heap.size w w' := by
  have hs0 := hs.ints
  obtain ⟨al, capl, rfl, hcl, hql⟩ := hq
  obtain ⟨a, cap, rfl, hcz, hl⟩ := hs
  have HI := Lib.hid (once_any w qs.length _ zs hs0 hz hn hlen)
  have HQL := Lib.hid hql
  have HL := Lib.hid hl
  have HB := Lib.hid hB
  have hsame : (zs.length = qs.length ∧ onceOk qs.length zs) ↔ (zs.length = qs.length ∧ rowOk qs.length zs) := by
    constructor
    · rintro ⟨h1, h2⟩; rw [← h1] at h2; exact ⟨h1, h1 ▸ rows_same.2 h2⟩
    · rintro ⟨h1, h2⟩; rw [← h1] at h2; exact ⟨h1, h1 ▸ rows_same.1 h2⟩
  have HS := Lib.hid hsame
  clear hs0 hz hql hl hqw hB hsame
  by_cases hrow : zs.length = qs.length ∧ rowOk qs.length zs
  · have HROW := Lib.hid hrow
    clear hrow
    go_enter Try.func22, Try.ntmps22
    go_wp2_with (go_at_call 37; refine HI.out.mono ?_; rintro e w1 ⟨rfl, rfl⟩; rw [decide_eq_true (HS.out.2 HROW.out)])
    by_cases h0 : 0 < zs.length
    rotate_left
    · go_loop [16] (fun c => c = .int .i64 0) (fun c => 0)
      case atStart => rfl
      case round =>
        obtain rfl := hrel
        have hyes : Hid (fitsOk qs zs) := Lib.hid fun i j h1 h2 => by omega
        have hz0 : zs.length = 0 := by omega
        go_wp2
        go_ret
        exact ⟨by rw [HB.out.2 ⟨HROW.out, hyes.out⟩]; rfl, Below.refl _ _⟩
    obtain ⟨b, off, b2, off2, rfl, rfl, hW⟩ := fitW_of (cap := cap) (capl := capl) HL.out HQL.out h0 HROW.out.2 (Below.refl _ _)
    have HW0 := Lib.hid hW
    clear hW HL HQL HI
    go_loopw [16] (fun c wr => ∃ i : Nat, i ≤ zs.length ∧ c = .int .i64 i ∧ Hid (FitW w wr b off zs b2 off2 qs) ∧ Hid (∀ i', i' < i → ∀ j, j < i' → fitsAt qs zs j i')) (fun c _ => zs.length - (intOf c).toNat)
    case atStart => exact ⟨0, by omega, rfl, HW0, Lib.hid fun j hj => by omega⟩
    case round =>
      clear HW0
      obtain ⟨i, hi, rfl, HW, HC⟩ := hrel
      by_cases hlt : i < zs.length
      · have hx := HW.out.row i hlt
        have hrn := (rn_ok HROW.out.2 hlt).2
        obtain ⟨r1, hr1⟩ : ∃ r1, r1 = rn zs i := ⟨_, rfl⟩
        rw [← hr1] at hx hrn
        have HR1 := Lib.hid hr1
        clear hr1
        go_wp2
        go_loopw [25] (fun c wr => ∃ j : Nat, j ≤ i ∧ c = .int .i64 j ∧ Hid (FitW w wr b off zs b2 off2 qs) ∧ Hid (∀ j', j' < j → fitsAt qs zs j' i)) (fun c _ => i - (intOf c).toNat)
        case atStart => exact ⟨0, by omega, rfl, HW, Lib.hid fun j hj => by omega⟩
        case round =>
          clear hx HW
          obtain ⟨j, hj, rfl, HW, HJ⟩ := hrel
          by_cases hlj : j < i
          · have hy := HW.out.row j (by omega)
            have hry := (rn_ok (k := j) HROW.out.2 (by omega)).2
            obtain ⟨_, _, htj, _⟩ := HW.out.op _ hry
            obtain ⟨_, _, _, hfi⟩ := HW.out.op _ hrn
            obtain ⟨r2, hr2⟩ : ∃ r2, r2 = rn zs j := ⟨_, rfl⟩
            rw [← hr2] at hy htj hry
            have HR2 := Lib.hid hr2
            clear hr2
            by_cases hbad : qt qs r1 < qf qs r2
            · have hno : Hid (¬ fitsOk qs zs) := Lib.hid fun h => by
                have := h j i (by omega) (by omega)
                unfold fitsAt at this
                rw [← HR1.out, ← HR2.out] at this
                omega
              go_wp2
              go_quiet (fail)
              go_wp2
              go_ret
              exact ⟨by rw [show B = false from Bool.eq_false_iff.2 fun h => hno.out (HB.out.1 h).2]; rfl, below_drewN HW.out.below _⟩
            · have hok : Hid (∀ j', j' < j + 1 → fitsAt qs zs j' i) := Lib.hid fun j' hj' => by
                rcases Nat.lt_or_ge j' j with h | h
                · exact HJ.out j' h
                · obtain rfl : j' = j := by omega
                  unfold fitsAt
                  rw [← HR1.out, ← HR2.out]
                  omega
              clear HJ
              go_wp2
              go_quiet (fail)
              go_wp2
              go_roundw
              case rel => exact ⟨j + 1, by omega, by go_num, Lib.hid (HW.out.drewN _), hok⟩
              case measure => simp [intOf]; omega
          · obtain rfl : j = i := by omega
            have hok : Hid (∀ i', i' < j + 1 → ∀ k, k < i' → fitsAt qs zs k i') := Lib.hid fun i' hi' k h1 => by
              rcases Nat.lt_or_ge i' j with h | h
              · exact HC.out i' h k h1
              · obtain rfl : i' = j := by omega
                exact HJ.out k h1
            clear HJ HC
            go_wp2
            go_roundw
            case rel => exact ⟨j + 1, by omega, by go_num, HW, hok⟩
            case measure => simp [intOf]; omega
      · obtain rfl : i = zs.length := by omega
        have hyes : Hid (fitsOk qs zs) := Lib.hid fun i j h1 h2 => HC.out j h2 i h1
        clear HC
        go_wp2
        go_ret
        exact ⟨by rw [HB.out.2 ⟨HROW.out, hyes.out⟩]; rfl, HW.out.below⟩
  · have HROW := Lib.hid hrow
    clear hrow
    go_enter Try.func22, Try.ntmps22
    go_wp2_with (go_at_call 37; refine HI.out.mono ?_; rintro e w1 ⟨rfl, rfl⟩; rw [decide_eq_false fun h => HROW.out (HS.out.1 h)])
    go_ret
    exact ⟨by rw [show B = false from Bool.eq_false_iff.2 fun h => HROW.out (HB.out.1 h).1]; rfl, Below.refl _ _⟩

end Go.Proofs.Ytfahnjicinpahaa
