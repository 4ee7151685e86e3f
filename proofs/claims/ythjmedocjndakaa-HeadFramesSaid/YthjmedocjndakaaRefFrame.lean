/- What the document says a frame's header tells. -/
import Derived.Test.YthjmedocjndakaaRefRecord
import Derived.Test.YthjmedocjndakaaFrameHead
namespace Go.Proofs.Ythjmedocjndakaa
open Go.RowKit
set_option linter.unusedVariables false

theorem rbytes_eight (v : Int) (w : World) (h0 : 0 ≤ v) (h1 : v ≤ 18446744073709551615) :
    Calls Try.prog 41 #[.int .u64 v, .int .i64 8] w fun e w' => ∃ g cap, e = .returned (.slice (some ⟨g, 0, none⟩) 8 cap) ∧ w.heap.size ≤ g ∧ Hid (∀ i, i < 8 → w'.cell? ⟨g, i, none⟩ = some (.int .u8 ((byteL v 8).getD i 0))) ∧ Below w.heap.size w w' := by
  refine (rbytes_any v 8 w h0 h1).mono ?_
  rintro e w' ⟨s, rfl, ho, hb⟩
  unfold ownsBytes at ho
  obtain ⟨g, cap, rfl, hg, _, _, _, hc⟩ := owns_open ho (by simp [byteL_eight])
  exact ⟨g, cap, rfl, hg, Lib.hid hc, hb⟩

/-- The bytes of the first k words. -/
def frB (a0 a1 a2 a3 : Int) (k : Nat) : List Int := ([a0, a1, a2, a3].take k).flatMap fun v => byteL v 8
def frV (a0 a1 a2 a3 : Int) (k : Nat) : Int := [a0, a1, a2, a3].getD k 0

theorem frB_succ (a0 a1 a2 a3 : Int) (k : Nat) (h : k < 4) : frB a0 a1 a2 a3 (k + 1) = frB a0 a1 a2 a3 k ++ byteL (frV a0 a1 a2 a3 k) 8 := by
  have hk : k = 0 ∨ k = 1 ∨ k = 2 ∨ k = 3 := by omega
  rcases hk with rfl | rfl | rfl | rfl <;> simp [frB, frV]
theorem frB_length (a0 a1 a2 a3 : Int) (k : Nat) (h : k ≤ 4) : (frB a0 a1 a2 a3 k).length = 8 * k := by
  have hk : k = 0 ∨ k = 1 ∨ k = 2 ∨ k = 3 ∨ k = 4 := by omega
  rcases hk with rfl | rfl | rfl | rfl | rfl <;> simp [frB, byteL_eight]

/-- Four of the bytes of a slice. -/
theorem rsigned_at (W : World) (g o cap : Nat) (l : List Int) (hc : ∀ i, i < 4 → W.cell? ⟨g, o + i, none⟩ = some (.int .u8 (l.getD i 0))) (hl : l.length = 4) (hr : ∀ x ∈ l, 0 ≤ x ∧ x < 256) :
    Calls Try.prog 42 #[.slice (some ⟨g, o, none⟩) 4 cap] W fun e w' => e = .returned (.int .i32 (wrap32 (num l))) ∧ w' = W := by
  refine (rsigned_any W _ l ⟨_, _, by rw [hl], .inr ⟨g, o, rfl, fun i hi => hc i (by omega)⟩⟩ hr hl).mono ?_
  rintro e w' ⟨rfl, rfl⟩
  exact ⟨rfl, rfl⟩
theorem rnumber_at8 (W : World) (g o cap : Nat) (l : List Int) (hc : ∀ i, i < 8 → W.cell? ⟨g, o + i, none⟩ = some (.int .u8 (l.getD i 0))) (hl : l.length = 8) (hr : ∀ x ∈ l, 0 ≤ x ∧ x < 256) :
    Calls Try.prog 43 #[.slice (some ⟨g, o, none⟩) 8 cap] W fun e w' => e = .returned (.int .u64 (num l)) ∧ w' = W := by
  refine (rnumber_any W _ l ⟨_, _, by rw [hl], .inr ⟨g, o, rfl, fun i hi => hc i (by omega)⟩⟩ hr (by unfold maxLen; omega)).mono ?_
  rintro e w' ⟨rfl, rfl⟩
  exact ⟨by rw [List.take_of_length_le (by omega)], rfl⟩

theorem frB_get (a0 a1 a2 a3 : Int) : frB a0 a1 a2 a3 4 = [byteI a0 0, byteI a0 1, byteI a0 2, byteI a0 3, byteI a0 4, byteI a0 5, byteI a0 6, byteI a0 7, byteI a1 0, byteI a1 1, byteI a1 2, byteI a1 3, byteI a1 4, byteI a1 5, byteI a1 6, byteI a1 7, byteI a2 0, byteI a2 1, byteI a2 2, byteI a2 3, byteI a2 4, byteI a2 5, byteI a2 6, byteI a2 7, byteI a3 0, byteI a3 1, byteI a3 2, byteI a3 3, byteI a3 4, byteI a3 5, byteI a3 6, byteI a3 7] := rfl

set_option maxHeartbeats 2000000 in
theorem rframe_any (a0 a1 a2 a3 : Int) (w : World) (h00 : 0 ≤ a0) (h01 : a0 ≤ 18446744073709551615) (h10 : 0 ≤ a1) (h11 : a1 ≤ 18446744073709551615) (h20 : 0 ≤ a2) (h21 : a2 ≤ 18446744073709551615) (h30 : 0 ≤ a3) (h31 : a3 ≤ 18446744073709551615) :
    Calls Try.prog 17 #[.agg #[.int .u64 a0, .int .u64 a1, .int .u64 a2, .int .u64 a3]] w fun e w' => e = .returned (.agg #[.int .i32 (wrap32 a0), .int .u8 (a0 / 4294967296 % 256), .int .u8 (a0 / 1099511627776 % 256), .int .u16 (a0 / 281474976710656), .int .i32 (spL a1), .int .i32 (spT a1), .int .i32 (spL a2), .int .i32 (spT a2), .int .u64 a3]) ∧ Below w.heap.size w w' := by
  obtain ⟨ti, hi, hz0, hz1, hz2⟩ := info_parts Try.info5
  have hv : ∀ k, k < 4 → 0 ≤ frV a0 a1 a2 a3 k ∧ frV a0 a1 a2 a3 k ≤ 18446744073709551615 := by
    intro k hk
    have hk : k = 0 ∨ k = 1 ∨ k = 2 ∨ k = 3 := by omega
    rcases hk with rfl | rfl | rfl | rfl <;> simp [frV] <;> omega
  have HV := Lib.hid hv
  clear hv
  have i0 : ∀ w, (Instr.index 31 (Value.agg #[Value.int .u64 a0, Value.int .u64 a1, Value.int .u64 a2, Value.int .u64 a3]) (.int .i64 0)).run Try.prog w = .ok (.int .u64 a0) w := fun _ => by kernel_rfl
  have i1 : ∀ w, (Instr.index 31 (Value.agg #[Value.int .u64 a0, Value.int .u64 a1, Value.int .u64 a2, Value.int .u64 a3]) (.int .i64 1)).run Try.prog w = .ok (.int .u64 a1) w := fun _ => by kernel_rfl
  have i2 : ∀ w, (Instr.index 31 (Value.agg #[Value.int .u64 a0, Value.int .u64 a1, Value.int .u64 a2, Value.int .u64 a3]) (.int .i64 2)).run Try.prog w = .ok (.int .u64 a2) w := fun _ => by kernel_rfl
  have i3 : ∀ w, (Instr.index 31 (Value.agg #[Value.int .u64 a0, Value.int .u64 a1, Value.int .u64 a2, Value.int .u64 a3]) (.int .i64 3)).run Try.prog w = .ok (.int .u64 a3) w := fun _ => by kernel_rfl
  have hrun : ∀ (k : Nat), k < 4 → ∀ w, (Instr.index 31 (Value.agg #[Value.int .u64 a0, Value.int .u64 a1, Value.int .u64 a2, Value.int .u64 a3]) (.int .i64 k)).run Try.prog w = .ok (.int .u64 (frV a0 a1 a2 a3 k)) w := by
    intro k hk
    have hk : k = 0 ∨ k = 1 ∨ k = 2 ∨ k = 3 := by omega
    rcases hk with rfl | rfl | rfl | rfl
    · exact i0
    · exact i1
    · exact i2
    · exact i3
  have HRUN := Lib.hid hrun
  clear hrun i0 i1 i2 i3
  go_enter Try.func17, Try.ntmps17
  go_wp2_with fail
  go_loopw [3, 5, 7] (fun s x c wr => ∃ k : Nat, k ≤ 4 ∧ c = .int .i64 k ∧ wr.ownsRow (w.heap.size + 2) 5 1 s (8 * k) ((frB a0 a1 a2 a3 k).map (Value.int .u8)) ∧ Below (w.heap.size + 2) ((w.alloc (Obj.cells #[.int .u64 a0, .int .u64 a1, .int .u64 a2, .int .u64 a3] 31)).alloc (Obj.cells #[.int .i32 0, .int .u8 0, .int .u8 0, .int .u16 0, .int .i32 0, .int .i32 0, .int .i32 0, .int .i32 0, .int .u64 0] 30)) wr) (fun _ _ c _ => 4 - (intOf c).toNat)
  case atStart => exact ⟨0, by omega, rfl, World.ownsRow_nil _ _ _ _, Below.refl _ _⟩
  case round =>
    obtain ⟨k, hk, rfl, ho, hb⟩ := hrel
    by_cases hlt : k < 4
    · obtain ⟨hv0, hv1⟩ := HV.out k hlt
      have hsz := hb.size
      simp at hsz
      have hfr := frB_succ a0 a1 a2 a3 k hlt
      have hlen := frB_length a0 a1 a2 a3 k hk
      have hrun : (Instr.index 31 (Value.agg #[Value.int .u64 a0, Value.int .u64 a1, Value.int .u64 a2, Value.int .u64 a3]) (.int .i64 k)).run Try.prog wr = .ok (.int .u64 (frV a0 a1 a2 a3 k)) wr := HRUN.out k hlt wr
      generalize frV a0 a1 a2 a3 k = v at *
      have HF := Lib.hid hfr
      have HL := Lib.hid hlen
      clear hfr hlen HV HRUN
      have HO := ho
      go_wp2_with fail
      refine (rbytes_eight _ _ hv0 hv1).mono ?_
      rintro e w2 ⟨g2, c2, rfl, hg2, HC, hB2⟩
      have ho1' := owns_below ho hB2
      have hsz2 := hB2.size
      have hmx : 8 * k + 8 ≤ maxLen := by unfold maxLen; omega
      have HMX := Lib.hid hmx
      have hn : ∀ j u, ((byteL v 8).map (Value.int .u8))[j]? = some u → w2.cell? ((⟨g2, 0, none⟩ : Addr).add j) = some u := by
        intro j u hu
        have hj : j < 8 := by have := (List.getElem?_eq_some_iff.1 hu).1; simpa [byteL_eight] using this
        have hadd : (⟨g2, 0, none⟩ : Addr).add j = ⟨g2, j, none⟩ := by unfold Addr.add; split <;> simp_all
        rw [hadd, HC.out j hj, ← hu]
        simp [List.getD_eq_getElem?_getD, show j < (byteL v 8).length by simpa [byteL_eight] using hj]
      have HN := Lib.hid hn
      clear hn HC hmx
      go_wp2_with (at_builtin; refine wpList_append_own _ rfl _ _ 57 rfl (w.heap.size + 2) 5 ti (.int .u8 0) 1 1 Try.underlying57 hi hz0 hz1 hz2 rfl (by decide) _ _ _ rfl ho1' ⟨g2, 0, none⟩ 8 c2 ((byteL v 8).map (Value.int .u8)) rfl ?c0 HN.out ?c2 HMX.out ?c4 ?c5 ?_)
      case c0 => simp [byteL_eight]
      case c2 => intro u hu; obtain ⟨x, _, rfl⟩ := List.mem_map.1 hu; rfl
      case c4 => omega
      case c5 => omega
      intro s3 w3 ho3 hg3 _
      have hB3 := (hb.trans (hB2.mono hsz)).grown hg3 (by omega) (fun j hj => (ho1'.lt j hj).1)
      have ho3' : w3.ownsRow (w.heap.size + 2) 5 1 s3 (8 * (k + 1)) ((frB a0 a1 a2 a3 (k + 1)).map (Value.int .u8)) := by
        rw [HF.out, List.map_append]; exact ho3
      have HB3 := Lib.hid hB3
      have HO3 := Lib.hid ho3'
      clear ho3 hg3 hB3 ho3' hb hB2 ho1' ho
      go_wp2_with fail
      go_roundw
      case rel => exact ⟨k + 1, by omega, by go_num, HO3.out, HB3.out⟩
      case measure => simp [intOf]; omega
    · obtain rfl : k = 4 := by omega
      clear HV HRUN
      have hlen := frB_length a0 a1 a2 a3 4 (by omega)
      have hlen : (frB a0 a1 a2 a3 4).length = 32 := hlen
      rw [show 8 * 4 = (frB a0 a1 a2 a3 4).length from hlen.symm] at ho
      obtain ⟨g, cap, rfl, hg, hgs, hcap, hcm, hc⟩ := owns_open ho (by rw [frB_get]; simp)
      rw [hlen] at hcap hc ⊢
      have hB : Below w.heap.size w wr := (((Below.refl _ _).alloc (Nat.le_refl _) _).alloc (by simp) _).trans (hb.mono (by omega))
      have hsz := hb.size
      simp at hsz
      have hfz : ∀ i, wr.drew.frozen? ⟨w.heap.size + 1, i, none⟩ = false := fun i => (hb.frozen (p := ⟨w.heap.size + 1, i, none⟩) (by simp)).trans (by simp)
      have d0 : wr.drew.cell? ⟨w.heap.size + 1, 0, none⟩ = some (.int .i32 0) := (hb.cell (p := ⟨w.heap.size + 1, 0, none⟩) (by simp)).trans (by simp)
      have d1 : wr.drew.cell? ⟨w.heap.size + 1, 1, none⟩ = some (.int .u8 0) := (hb.cell (p := ⟨w.heap.size + 1, 1, none⟩) (by simp)).trans (by simp)
      have d2 : wr.drew.cell? ⟨w.heap.size + 1, 2, none⟩ = some (.int .u8 0) := (hb.cell (p := ⟨w.heap.size + 1, 2, none⟩) (by simp)).trans (by simp)
      have d3 : wr.drew.cell? ⟨w.heap.size + 1, 3, none⟩ = some (.int .u16 0) := (hb.cell (p := ⟨w.heap.size + 1, 3, none⟩) (by simp)).trans (by simp)
      have d4 : wr.drew.cell? ⟨w.heap.size + 1, 4, none⟩ = some (.int .i32 0) := (hb.cell (p := ⟨w.heap.size + 1, 4, none⟩) (by simp)).trans (by simp)
      have d5 : wr.drew.cell? ⟨w.heap.size + 1, 5, none⟩ = some (.int .i32 0) := (hb.cell (p := ⟨w.heap.size + 1, 5, none⟩) (by simp)).trans (by simp)
      have d6 : wr.drew.cell? ⟨w.heap.size + 1, 6, none⟩ = some (.int .i32 0) := (hb.cell (p := ⟨w.heap.size + 1, 6, none⟩) (by simp)).trans (by simp)
      have d7 : wr.drew.cell? ⟨w.heap.size + 1, 7, none⟩ = some (.int .i32 0) := (hb.cell (p := ⟨w.heap.size + 1, 7, none⟩) (by simp)).trans (by simp)
      have d8 : wr.drew.cell? ⟨w.heap.size + 1, 8, none⟩ = some (.int .u64 0) := (hb.cell (p := ⟨w.heap.size + 1, 8, none⟩) (by simp)).trans (by simp)
      have hd : ∀ i, wr.drew.cell? ⟨g, i, none⟩ = wr.cell? ⟨g, i, none⟩ := fun i => rfl
      have rg : ∀ v a b c d, ∀ x ∈ [byteI v a, byteI v b, byteI v c, byteI v d], 0 ≤ x ∧ x < 256 := by
        intro v a b c d x hx
        simp at hx
        rcases hx with rfl | rfl | rfl | rfl <;> exact byteI_range v _
      have hc' : ∀ i, i < 32 → wr.drew.cell? ⟨g, i, none⟩ = some (.int .u8 ((frB a0 a1 a2 a3 4).getD i 0)) := fun i hi => hc i (by omega)
      rw [frB_get] at hc'
      have g4 : ∀ o (l : List Int), o + 4 ≤ 32 → (∀ i, i < 4 → [byteI a0 0, byteI a0 1, byteI a0 2, byteI a0 3, byteI a0 4, byteI a0 5, byteI a0 6, byteI a0 7, byteI a1 0, byteI a1 1, byteI a1 2, byteI a1 3, byteI a1 4, byteI a1 5, byteI a1 6, byteI a1 7, byteI a2 0, byteI a2 1, byteI a2 2, byteI a2 3, byteI a2 4, byteI a2 5, byteI a2 6, byteI a2 7, byteI a3 0, byteI a3 1, byteI a3 2, byteI a3 3, byteI a3 4, byteI a3 5, byteI a3 6, byteI a3 7].getD (o + i) 0 = l.getD i 0) → ∀ i, i < 4 → wr.drew.cell? ⟨g, o + i, none⟩ = some (.int .u8 (l.getD i 0)) := fun o l ho h i hi => by rw [hc' (o + i) (by omega), h i hi]
      have four : ∀ i, i < 4 → i = 0 ∨ i = 1 ∨ i = 2 ∨ i = 3 := fun i hi => by omega
      have eight : ∀ i, i < 8 → i = 0 ∨ i = 1 ∨ i = 2 ∨ i = 3 ∨ i = 4 ∨ i = 5 ∨ i = 6 ∨ i = 7 := fun i hi => by omega
      have S0 := fun cap => Lib.hid (rsigned_at wr.drew g 0 cap _ (g4 0 [byteI a0 0, byteI a0 1, byteI a0 2, byteI a0 3] (by omega) (fun i hi => by rcases four i hi with rfl | rfl | rfl | rfl <;> rfl)) rfl (rg a0 0 1 2 3))
      have S1 := fun cap => Lib.hid (rsigned_at wr.drew g 8 cap _ (g4 8 [byteI a1 0, byteI a1 1, byteI a1 2, byteI a1 3] (by omega) (fun i hi => by rcases four i hi with rfl | rfl | rfl | rfl <;> rfl)) rfl (rg a1 0 1 2 3))
      have S2 := fun cap => Lib.hid (rsigned_at wr.drew g 12 cap _ (g4 12 [byteI a1 4, byteI a1 5, byteI a1 6, byteI a1 7] (by omega) (fun i hi => by rcases four i hi with rfl | rfl | rfl | rfl <;> rfl)) rfl (rg a1 4 5 6 7))
      have S3 := fun cap => Lib.hid (rsigned_at wr.drew g 16 cap _ (g4 16 [byteI a2 0, byteI a2 1, byteI a2 2, byteI a2 3] (by omega) (fun i hi => by rcases four i hi with rfl | rfl | rfl | rfl <;> rfl)) rfl (rg a2 0 1 2 3))
      have S4 := fun cap => Lib.hid (rsigned_at wr.drew g 20 cap _ (g4 20 [byteI a2 4, byteI a2 5, byteI a2 6, byteI a2 7] (by omega) (fun i hi => by rcases four i hi with rfl | rfl | rfl | rfl <;> rfl)) rfl (rg a2 4 5 6 7))
      have S5 := fun cap => Lib.hid (rnumber_at8 wr.drew g 24 cap (byteL a3 8) (fun i hi => by rw [hc' (24 + i) (by omega)]; rcases eight i hi with rfl | rfl | rfl | rfl | rfl | rfl | rfl | rfl <;> rfl) rfl (byteL_range a3 8))
      have c4 : wr.drew.cell? ⟨g, 4, none⟩ = some (.int .u8 (byteI a0 4)) := hc' 4 (by omega)
      have c5 : wr.drew.cell? ⟨g, 5, none⟩ = some (.int .u8 (byteI a0 5)) := hc' 5 (by omega)
      have c6 : wr.drew.cell? ⟨g, 6, none⟩ = some (.int .u8 (byteI a0 6)) := hc' 6 (by omega)
      have c7 : wr.drew.cell? ⟨g, 7, none⟩ = some (.int .u8 (byteI a0 7)) := hc' 7 (by omega)
      have f0 : wrap32 (num [byteI a0 0, byteI a0 1, byteI a0 2, byteI a0 3]) = wrap32 a0 := by rw [num_four a0 h00]; unfold wrap32; omega
      have f1 : wrap32 (num [byteI a1 0, byteI a1 1, byteI a1 2, byteI a1 3]) = spL a1 := by rw [num_four a1 h10]; unfold spL wrap32; omega
      have f2 : wrap32 (num [byteI a1 4, byteI a1 5, byteI a1 6, byteI a1 7]) = spT a1 := by rw [num_high a1 h10 h11]; rfl
      have f3 : wrap32 (num [byteI a2 0, byteI a2 1, byteI a2 2, byteI a2 3]) = spL a2 := by rw [num_four a2 h20]; unfold spL wrap32; omega
      have f4 : wrap32 (num [byteI a2 4, byteI a2 5, byteI a2 6, byteI a2 7]) = spT a2 := by rw [num_high a2 h20 h21]; rfl
      have f5 : num (byteL a3 8) = a3 := by have e := num_byteL a3 8 (by omega) h30; rw [show num (byteL a3 8) = a3 % 2 ^ (8 * 8) from e]; omega
      have f6 : byteI a0 4 = a0 / 4294967296 % 256 := rfl
      have f7 : byteI a0 5 = a0 / 1099511627776 % 256 := rfl
      have f8 : byteI a0 6 + 256 * byteI a0 7 = a0 / 281474976710656 := by
        have e1 : byteI a0 6 = a0 / 281474976710656 % 256 := rfl
        have e2 : byteI a0 7 = a0 / 72057594037927936 % 256 := rfl
        omega
      simp only [f0] at S0
      simp only [f1] at S1
      simp only [f2] at S2
      simp only [f3] at S3
      simp only [f4] at S4
      simp only [f5] at S5
      have r6 := byteI_range a0 6
      have r7 := byteI_range a0 7
      rw [f6] at c4
      rw [f7] at c5
      generalize byteI a0 6 = T6 at *
      generalize byteI a0 7 = T7 at *
      have F8 := Lib.hid f8
      clear hc' hc g4 rg four eight f0 f1 f2 f3 f4 f5 f6 f7 f8 hd ho hlen hb
      have z1 : (4 : Int) ≤ (cap : Int) := by omega
      have z2 : (12 : Int) ≤ (cap : Int) := by omega
      have z3 : (16 : Int) ≤ (cap : Int) := by omega
      have z4 : (20 : Int) ≤ (cap : Int) := by omega
      have z5 : (24 : Int) ≤ (cap : Int) := by omega
      have z6 : (32 : Int) ≤ (cap : Int) := by omega
      have y1 : ¬ cap = 8 := by omega
      have y2 : ¬ cap = 12 := by omega
      have y3 : ¬ cap = 16 := by omega
      have y4 : ¬ cap = 20 := by omega
      have y5 : ¬ cap = 24 := by omega
      go_wp2_with fail
      refine still_tail_at 35 (by kernel_rfl) (by kernel_rfl) ?_
      intro W2 hW2
      rw [← hW2] at c4 c5 c6 c7 d0 d1 d2 d3 d4 d5 d6 d7 d8
      simp only [← hW2] at hfz
      simp only [← hW2] at S0 S1 S2 S3 S4 S5
      have hB2 : Below w.heap.size w W2 := by rw [hW2]; exact hB.drew
      clear hW2 hB
      simp only [List.take_succ_cons, List.take_zero, List.drop_succ_cons, List.drop_zero]
      repeat still_step
      still_call (S0 _).out
      repeat still_step
      still_call (S1 _).out
      repeat still_step
      still_call (S2 _).out
      repeat still_step
      still_call (S3 _).out
      repeat still_step
      still_call (S4 _).out
      repeat still_step
      still_call (S5 _).out
      repeat still_step
      try refine wpStill_nil ?_
      go_wp2
      have x6 : IntKind.u16.wrap T6 = T6 := by rw [IntKind.wrap_u16]; omega
      have x7 : IntKind.u16.wrap T7 = T7 := by rw [IntKind.wrap_u16]; omega
      have x8 : IntKind.u16.wrap (256 * T7) = 256 * T7 := by rw [IntKind.wrap_u16]; omega
      have x9 : IntKind.u16.wrap (T6 + 256 * T7) = a0 / 281474976710656 := by have := F8.out; rw [IntKind.wrap_u16]; omega
      refine bodyPost_ret (v := .agg #[.int .i32 (wrap32 a0), .int .u8 (a0 / 4294967296 % 256), .int .u8 (a0 / 1099511627776 % 256), .int .u16 (a0 / 281474976710656), .int .i32 (spL a1), .int .i32 (spT a1), .int .i32 (spL a2), .int .i32 (spT a2), .int .u64 a3]) (by simp [results, Try.results17, go_sem, x6, x7, x8, x9, d0, d1, d2, d3, d4, d5, d6, d7, d8]; exact F8.out) rfl ⟨rfl, ?_⟩
      have st : ∀ (W : World) i u, Below w.heap.size w W → Below w.heap.size w (W.setCell ⟨w.heap.size + 1, i, none⟩ u) := fun W i u h => h.setCell (by simp) u
      exact st _ _ _ (st _ _ _ (st _ _ _ (st _ _ _ (st _ _ _ (st _ _ _ (st _ _ _ (st _ _ _ (st _ _ _ hB2))))))))

end Go.Proofs.Ythjmedocjndakaa
