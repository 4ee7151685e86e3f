/- The statement's loops: events of picks. -/
import Derived.Test.YtfahnjicinpahaaExT
namespace Go.Proofs.Ytfahnjicinpahaa
open Go.RowKit
set_option linter.unusedVariables false

theorem Try.infoEvent : (Try.prog.info? 60).map (fun i => (i.zero, i.size, i.bytes)) = some (some (.agg #[.int .i64 0, .int .i64 0, .int .i64 0, .int .i64 0, .int .i64 0, .int .i64 0, .int .u64 0, .int .u64 0, .slice none 0 0, .int .u64 0, .bool false, .slice none 0 0]), 12, 128) := by kernel_rfl

/-- A row's cells. -/
theorem row_cells {w : World} {base : Nat} {e : TypeId} {m : Nat} {s : Value} {n : Nat} {xs : List Value} (h : w.ownsRow base e m s n xs) : ∃ ao cap, s = .slice ao n cap ∧ n ≤ cap ∧ (0 < n → ∃ g, ao = some ⟨g, 0, none⟩ ∧ base ≤ g ∧ g < w.heap.size ∧ ∀ i, i < n * m → w.cell? ⟨g, i, none⟩ = xs[i]?) := by
  rcases h.2 with ⟨hv, hn⟩ | ⟨g, cap, cur, hv, hb, hg, hnc, hcm, hcs, htk⟩
  · exact ⟨none, 0, by rw [hv, hn], by omega, fun h => by omega⟩
  · refine ⟨_, cap, hv, hnc, fun _ => ⟨g, rfl, hb, (Array.getElem?_eq_some_iff.1 hg).1, fun i hi => ?_⟩⟩
    subst hv
    exact World.ownsRow.cellAt h i (by have := h.1; omega)

set_option maxRecDepth 100000 in
set_option maxHeartbeats 1000000 in
theorem law_any (w : World) (s : Value) (zs : List Int) (hs : Ints .i64 w s zs) (hlen : zs.length ≤ 200) (hf : Calls Try.prog 25 #[] w fun e w' => e = .returned (.bool true) ∧ Below w.heap.size w w') :
    Calls Try.prog 8 #[s] w fun e w' => e = .returned (.bool true) ∧ Below w.heap.size w w' := by
  obtain ⟨i0, hi, hz0, hz1, hz2⟩ := info_parts Try.infoEvent
  have HP := Lib.hid (fun w2 (hb : Below w.heap.size w w2) => picks_any w2 s zs (hs.kept hb) hlen)
  have HR := Lib.hid (fun w2 (hb : Below w.heap.size w w2) => rpicks_any w2 s zs (hs.kept hb) hlen)
  obtain ⟨a, cap, rfl, hl⟩ := hs
  have HF := Lib.hid hf
  clear hl hf
  go_enter Try.func8, Try.ntmps8
  go_wp2_with (first
    | (go_at_call 25; refine HF.out.mono ?_; rintro e w1 ⟨rfl, hb1⟩)
    | (go_at_call 29; refine (HP.out _ hb1).mono ?_; rintro e w2 ⟨s1, rfl, ho2, hb2⟩; obtain ⟨ao1, cap1, rfl, hle1, hcell1⟩ := row_cells ho2))
  have HO1 := Lib.hid hcell1
  have HB2 := Lib.hid (hb1.trans (hb2.mono hb1.size))
  clear hcell1 ho2 hb2 hb1
  go_loopw [4, 19] (fun v c wr => ∃ k : Nat, k ≤ zs.length ∧ c = .int .i64 k ∧ wr.ownsRow w2.heap.size 60 12 v k (evC (zs.take k)) ∧ Below w2.heap.size w2 wr) (fun _ c _ => zs.length - (intOf c).toNat)
  case atStart => exact ⟨0, by omega, rfl, World.ownsRow_nil _ _ _ _, Below.refl _ _⟩
  case round =>
    obtain ⟨k, hk, rfl, ho, hb⟩ := hrel
    by_cases hlt : k < zs.length
    · obtain ⟨g, rfl, hg0, hg1, hc⟩ := HO1.out (by omega)
      have hzk : zs[k]? = some (zs.getD k 0) := by simp [List.getD_eq_getElem?_getD, hlt]
      have hp : ∀ j, j < 3 → wr.cell? ⟨g, k * 3 + j, none⟩ = [Value.int .i64 0, .int .i64 (zs.getD k 0), .int .i64 0][j]? := fun j hj => by
        rw [hb.cell (p := ⟨g, k * 3 + j, none⟩) hg1, hc _ (by omega)]
        exact flat_at (fun x => [Value.int .i64 0, .int .i64 x, .int .i64 0]) 3 (fun _ => rfl) zs k j _ hzk hj
      have hx0 : wr.cell? ⟨g, k * 3, none⟩ = some (.int .i64 0) := hp 0 (by omega)
      have hx1 : wr.cell? ⟨g, k * 3 + 1, none⟩ = some (.int .i64 (zs.getD k 0)) := hp 1 (by omega)
      have hx2 : wr.cell? ⟨g, k * 3 + 2, none⟩ = some (.int .i64 0) := hp 2 (by omega)
      have htk : zs.take (k + 1) = zs.take k ++ [zs.getD k 0] := by rw [List.take_succ_eq_append_getElem hlt]; simp [List.getD_eq_getElem?_getD, hlt]
      clear hp hzk hc
      generalize zs.getD k 0 = x at *
      have HT := Lib.hid htk
      have hsz := hb.size
      have HM1 := Lib.hid (show k + 1 ≤ maxLen by unfold maxLen; omega)
      clear htk
      go_wp2_with (at_builtin; refine wpList_append_own _ rfl _ _ 51 rfl w2.heap.size 60 i0 (.agg #[.int .i64 0, .int .i64 0, .int .i64 0, .int .i64 0, .int .i64 0, .int .i64 0, .int .u64 0, .int .u64 0, .slice none 0 0, .int .u64 0, .bool false, .slice none 0 0]) 12 128 Try.underlying51 hi hz0 hz1 hz2 rfl (by decide) _ _ _ rfl ((ho.alloc _).alloc _) ⟨wr.heap.size + 1, 0, none⟩ 1 1 (evOf x) rfl rfl ?c1 ?c2 HM1.out (by omega) ?c5 ?_)
      case c1 =>
        intro j u hu
        have hj : j = 0 ∨ j = 1 ∨ j = 2 ∨ j = 3 ∨ j = 4 ∨ j = 5 ∨ j = 6 ∨ j = 7 ∨ j = 8 ∨ j = 9 ∨ j = 10 ∨ j = 11 := by have := (List.getElem?_eq_some_iff.1 hu).1; simp [evOf] at this; omega
        rcases hj with rfl | rfl | rfl | rfl | rfl | rfl | rfl | rfl | rfl | rfl | rfl | rfl <;> simp [evOf] at hu <;> subst hu <;> simp [Addr.add]
      case c2 => simp [evOf, Value.oneCell']
      case c5 => simp; omega
      intro s' wN hown2 hg2 _
      have hbN : Below w2.heap.size w2 wN := ((hb.alloc hsz _).alloc (by simp; omega) _).grown hg2 (by simp; omega) (fun j hj => (ho.lt j hj).1)
      have hoN : wN.ownsRow w2.heap.size 60 12 s' (k + 1) (evC (zs.take (k + 1))) := by rw [HT.out, evC_snoc]; exact hown2
      clear hown2 hg2 ho hb
      go_wp2
      go_roundw
      case rel => exact ⟨k + 1, by omega, by go_num, hoN, hbN⟩
      case measure => simp [intOf]; omega
    · obtain rfl : k = zs.length := by omega
      rw [List.take_length] at ho
      have hbw : Below w.heap.size w wr := HB2.out.trans (hb.mono HB2.out.size)
      obtain ⟨aoA, capA, rfl, hleA, hcellA⟩ := row_cells ho
      go_wp2_with (first
        | (go_at_call 30; refine (HR.out _ hbw).mono ?_; rintro e w3 ⟨s3, rfl, ho3, hb3⟩; obtain ⟨ao3, cap3, rfl, hle3, hcell3⟩ := row_cells ho3))
      have HO3 := Lib.hid hcell3
      have HOA := Lib.hid hcellA
      have HB3 := Lib.hid hb3
      have HBW := Lib.hid hbw
      clear hcell3 hcellA ho3 hb3 hbw ho hb
      go_loopw [5, 32] (fun v c wr => ∃ k : Nat, k ≤ zs.length ∧ c = .int .i64 k ∧ wr.ownsRow w3.heap.size 60 12 v k (evC (zs.take k)) ∧ Below w3.heap.size w3 wr) (fun _ c _ => zs.length - (intOf c).toNat)
      case atStart => exact ⟨0, by omega, rfl, World.ownsRow_nil _ _ _ _, Below.refl _ _⟩
      case round =>
        obtain ⟨k, hk, rfl, ho, hb⟩ := hrel
        by_cases hlt : k < zs.length
        · obtain ⟨g, rfl, hg0, hg1, hc⟩ := HO3.out (by omega)
          have hzk : zs[k]? = some (zs.getD k 0) := by simp [List.getD_eq_getElem?_getD, hlt]
          have hp : ∀ j, j < 3 → wr.cell? ⟨g, k * 3 + j, none⟩ = [Value.int .i64 0, .int .i64 (zs.getD k 0), .int .i64 0][j]? := fun j hj => by
            rw [hb.cell (p := ⟨g, k * 3 + j, none⟩) hg1, hc _ (by omega)]
            exact flat_at (fun x => [Value.int .i64 0, .int .i64 x, .int .i64 0]) 3 (fun _ => rfl) zs k j _ hzk hj
          have hx0 : wr.cell? ⟨g, k * 3, none⟩ = some (.int .i64 0) := hp 0 (by omega)
          have hx1 : wr.cell? ⟨g, k * 3 + 1, none⟩ = some (.int .i64 (zs.getD k 0)) := hp 1 (by omega)
          have hx2 : wr.cell? ⟨g, k * 3 + 2, none⟩ = some (.int .i64 0) := hp 2 (by omega)
          have htk : zs.take (k + 1) = zs.take k ++ [zs.getD k 0] := by rw [List.take_succ_eq_append_getElem hlt]; simp [List.getD_eq_getElem?_getD, hlt]
          clear hp hzk hc
          generalize zs.getD k 0 = x at *
          have HT := Lib.hid htk
          have hsz := hb.size
          have HM1 := Lib.hid (show k + 1 ≤ maxLen by unfold maxLen; omega)
          clear htk
          go_wp2_with (at_builtin; refine wpList_append_own _ rfl _ _ 51 rfl w3.heap.size 60 i0 (.agg #[.int .i64 0, .int .i64 0, .int .i64 0, .int .i64 0, .int .i64 0, .int .i64 0, .int .u64 0, .int .u64 0, .slice none 0 0, .int .u64 0, .bool false, .slice none 0 0]) 12 128 Try.underlying51 hi hz0 hz1 hz2 rfl (by decide) _ _ _ rfl ((ho.alloc _).alloc _) ⟨wr.heap.size + 1, 0, none⟩ 1 1 (evOf x) rfl rfl ?c1 ?c2 HM1.out (by omega) ?c5 ?_)
          case c1 =>
            intro j u hu
            have hj : j = 0 ∨ j = 1 ∨ j = 2 ∨ j = 3 ∨ j = 4 ∨ j = 5 ∨ j = 6 ∨ j = 7 ∨ j = 8 ∨ j = 9 ∨ j = 10 ∨ j = 11 := by have := (List.getElem?_eq_some_iff.1 hu).1; simp [evOf] at this; omega
            rcases hj with rfl | rfl | rfl | rfl | rfl | rfl | rfl | rfl | rfl | rfl | rfl | rfl <;> simp [evOf] at hu <;> subst hu <;> simp [Addr.add]
          case c2 => simp [evOf, Value.oneCell']
          case c5 => simp; omega
          intro s' wN hown2 hg2 _
          have hbN : Below w3.heap.size w3 wN := ((hb.alloc hsz _).alloc (by simp; omega) _).grown hg2 (by simp; omega) (fun j hj => (ho.lt j hj).1)
          have hoN : wN.ownsRow w3.heap.size 60 12 s' (k + 1) (evC (zs.take (k + 1))) := by rw [HT.out, evC_snoc]; exact hown2
          clear hown2 hg2 ho hb
          go_wp2
          go_roundw
          case rel => exact ⟨k + 1, by omega, by go_num, hoN, hbN⟩
          case measure => simp [intOf]; omega
        · obtain rfl : k = zs.length := by omega
          rw [List.take_length] at ho
          obtain ⟨aoB, capB, rfl, hleB, hcellB⟩ := row_cells ho
          have HOB := Lib.hid hcellB
          have HB4 := Lib.hid hb
          clear hcellB ho hb
          have hS := same_any wr aoA capA aoB capB zs hlen hleA hleB (fun h => by
            obtain ⟨g, h1, _, h2, h3⟩ := HOA.out h
            exact ⟨g, h1, by have := HB3.out.size; have := HB4.out.size; omega, fun i hi => by
              rw [HB4.out.cell (p := ⟨g, i, none⟩) (by have := HB3.out.size; show g < _; omega), HB3.out.cell (p := ⟨g, i, none⟩) h2]
              exact h3 i hi⟩) (fun h => by
            obtain ⟨g, h1, _, h2, h3⟩ := HOB.out h
            exact ⟨g, h1, h2, h3⟩)
          have HS := Lib.hid hS
          clear hS
          go_wp2_with (go_at_call 31; refine HS.out.mono ?_; rintro e w5 ⟨rfl, hb5⟩)
          go_ret
          exact ⟨rfl, ((HBW.out.trans (HB3.out.mono HBW.out.size)).trans (HB4.out.mono (Nat.le_trans HBW.out.size HB3.out.size))).trans (hb5.mono (Nat.le_trans (Nat.le_trans HBW.out.size HB3.out.size) HB4.out.size))⟩

end Go.Proofs.Ytfahnjicinpahaa
