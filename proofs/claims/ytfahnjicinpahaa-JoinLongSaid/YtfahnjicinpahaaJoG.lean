/- The law JoinLong, walked. -/
import Derived.Test.YtfahnjicinpahaaJoF
import Derived.Test.YtfahnjicinpahaaRk20
namespace Go.Proofs.Ytfahnjicinpahaa
open Go.RowKit
set_option linter.unusedVariables false

open Go.Proofs.Ytfahnjicinpahaa.rk in
set_option maxRecDepth 100000 in
set_option maxHeartbeats 4000000 in
theorem long_any (a0 a1 : Int) (w : World) (h00 : 0 ≤ a0) (h01 : a0 ≤ 255) (h10 : 0 ≤ a1) (h11 : a1 ≤ 65535) :
    Calls Try.prog 5 #[.int .u8 a0, .int .u16 a1] w fun e w' => e = .returned (.bool true) ∧ Below w.heap.size w w' := by
  obtain ⟨i0, hi, hz0, hz1, hz2⟩ := info_parts Try.info5
  have HB := Lib.hid (show i0.bytes * 32768 ≤ 281474976710656 by rw [hz2]; omega)
  have HM := Lib.hid (show 32768 ≤ maxLen by unfold maxLen; omega)
  obtain ⟨m, hm, hm5⟩ : ∃ m : Nat, a0.tmod 5 = (m : Int) ∧ m < 5 := ⟨(a0.tmod 5).toNat, by have := Int.tmod_nonneg 5 h00; omega, by have := Int.tmod_lt_of_pos a0 (show (0:Int) < 5 by omega); have := Int.tmod_nonneg 5 h00; omega⟩
  obtain ⟨q, hq, hq1⟩ : ∃ q : Nat, a1.tmod 1000 = (q : Int) ∧ q < 1000 := ⟨(a1.tmod 1000).toNat, by have := Int.tmod_nonneg 1000 h10; omega, by have := Int.tmod_lt_of_pos a1 (show (0:Int) < 1000 by omega); have := Int.tmod_nonneg 1000 h10; omega⟩
  have hcw : IntKind.i64.wrap a1 = a1 := IntWalk.i64_in _ (by omega)
  have hmw : IntKind.u8.wrap (m : Int) = (m : Int) := Int.emod_eq_of_lt (by omega) (by show (m : Int) < 256; omega)
  have hqw : IntKind.i64.wrap (q : Int) = (q : Int) := IntWalk.i64_in _ (by omega)
  have HB2 := Lib.hid (show i0.bytes * q ≤ 281474976710656 by rw [hz2]; omega)
  have HM2 := Lib.hid (show q ≤ maxLen by unfold maxLen; omega)
  obtain ⟨Z1, hZ1⟩ : ∃ Z : List Int, Hid (Z = List.replicate 32768 0) := ⟨_, Lib.hid rfl⟩
  obtain ⟨Z2, hZ2⟩ : ∃ Z : List Int, Hid (Z = List.replicate q 0) := ⟨_, Lib.hid rfl⟩
  go_enter Try.func5, Try.ntmps5
  go_wp2_with (first
    | (go_at_call 9; refine (fixed20_true _).mono ?_; rintro e w1 ⟨rfl, hb1⟩)
    | (go_at_call 11; refine (jnew_any _).mono ?_; rintro e w2 ⟨rfl, hk2, hj2⟩; have HK2 := Lib.hid hk2; have HJ2 := Lib.hid hj2; clear hk2 hj2)
    | (at_make; refine wpList_make_full _ rfl _ _ 31 rfl w2.heap.size 5 i0 (.int .u8 0) 1 Try.underlying31 hi hz0 hz1 .i64 .i64 32768 32768 32768 rfl rfl rfl rfl HB.out HM.out (by simp) ?_; intro w3 ho3 hg3; have HO3 := Lib.hid ho3; have HG3 := Lib.hid hg3; clear ho3 hg3)
    | (go_at_call 12; have H0 : Hid (St w _ w3.heap.size (w2.heap.size + 1) 128 32768 Z1 w1.heap.size w2.heap.size [] 0 [] 0) := Lib.hid (by rw [hZ1.out]; have h := HO3.out; rw [show (w2.alloc (.cells #[.slice none 0 0, .int .i64 0] 30)).heap.size = w2.heap.size + 1 by simp] at h; exact st_start hb1 HK2.out HJ2.out HG3.out h); refine (H0.out.jpush (by omega) (by omega) (by omega) (by simp)).mono ?_; rintro en w4 ⟨a4, c4, rfl, h4⟩; have H4 := Lib.hid h4; have c0 := h4.frag.c0; have c1 := h4.frag.c1; have c2 := h4.frag.c2; clear h4)
    | (go_at_call 13; refine (H4.out.rpush (by omega) (by omega) (by omega) (by simp)).mono ?_; rintro en w5 ⟨a5, c5, rfl, h5⟩; have H5 := Lib.hid h5; clear c0 c1 c2; have c1 := h5.frag.c1; have f1 := h5.frag.f1; clear h5))
  obtain ⟨F, hF⟩ : ∃ F, F = w3.heap.size := ⟨_, rfl⟩
  obtain ⟨G, hG⟩ : ∃ G, Hid (G = w2.heap.size + 1) := ⟨_, Lib.hid rfl⟩
  obtain ⟨b1, hb1'⟩ : ∃ b, Hid (b = jNext [] 128 Z1) := ⟨_, Lib.hid rfl⟩
  obtain ⟨d1, hd1'⟩ : ∃ d, Hid (d = jDrop [] 0 128 Z1) := ⟨_, Lib.hid rfl⟩
  have H6 : Hid (St w (w5.setCell ⟨F, 1, none⟩ (.int .u8 0)) F G 0 32768 Z1 w1.heap.size w2.heap.size b1 d1 b1 d1) := Lib.hid (by rw [hF, hG.out, hb1'.out, hd1'.out]; exact H5.out.flag 0)
  have HD1 : Hid (d1 + b1.length ≤ 1) := Lib.hid (by rw [hb1'.out, hd1'.out]; have := (jDrop_le [] 0 128 Z1 (by omega)).2; simpa using this)
  subst hF
  clear H0 H4 H5 HK2 HJ2 HO3 HG3 hG hb1' hd1' hZ1 c1 f1
  go_loopw [29] (fun i wr => ∃ (k : Nat) (bs : List (List Int)) (d : Int), k ≤ m ∧ i = .int .u8 k ∧ Hid (St w wr w3.heap.size G 0 32768 Z1 w1.heap.size w2.heap.size bs d bs d) ∧ Hid (d + bs.length ≤ 1 + k)) (fun i _ => m - (intOf i).toNat)
  case atStart => exact ⟨0, b1, d1, by omega, rfl, H6, HD1⟩
  case round =>
    obtain ⟨k, bs, d, hk, rfl, HS, HD⟩ := hrel
    clear H6 HD1
    have hkw : IntKind.u8.wrap ((k : Int) + 1) = (k : Int) + 1 := Int.emod_eq_of_lt (by omega) (by show (k : Int) + 1 < 256; omega)
    have hdb : d + bs.length ≤ 1 + k := HD.out
    have c0 := HS.out.frag.c0
    have c1 := HS.out.frag.c1
    have c2 := HS.out.frag.c2
    by_cases hlt : k < m
    · go_wp2_with (first
        | (go_at_call 12; refine (HS.out.jpush (by omega) (by omega) (by omega) (by omega)).mono ?_; rintro en w4 ⟨a4, c4, rfl, h4⟩; have H4 := Lib.hid h4; clear c0 c1 c2; have c0 := h4.frag.c0; have c1 := h4.frag.c1; have c2 := h4.frag.c2; clear h4)
        | (go_at_call 13; refine (H4.out.rpush (by omega) (by omega) (by omega) (by omega)).mono ?_; rintro en w5 ⟨a5, c5, rfl, h5⟩; have H5 := Lib.hid h5; clear h5 c0 c1 c2))
      go_roundw
      case rel => exact ⟨k + 1, _, _, by omega, by go_num, H5, Lib.hid (by have := (jDrop_le bs d 0 Z1 HS.out.dJ0).2; omega)⟩
      case measure => simp [intOf]; omega
    · obtain ⟨L, hL⟩ : ∃ L, Hid (L = ((jWhole bs 64 Z2).getD []).length) := ⟨_, Lib.hid rfl⟩
      obtain ⟨ok, hok⟩ : ∃ ok, Hid (ok = (jWhole bs 64 Z2).isSome) := ⟨_, Lib.hid rfl⟩
      obtain ⟨b2, hb2⟩ : ∃ b, Hid (b = jNext bs 64 Z2) := ⟨_, Lib.hid rfl⟩
      obtain ⟨d2, hd2⟩ : ∃ d', Hid (d' = jDrop bs d 64 Z2) := ⟨_, Lib.hid rfl⟩
      have HJP : Hid (∀ ww F2 G2, St w ww F2 G2 64 q Z2 w1.heap.size w2.heap.size bs d bs d → Calls Try.prog 12 #[.pointer (some ⟨w1.heap.size, 0, none⟩), .agg #[.int .i64 0, .int .u8 64, .slice (some ⟨G2, 0, none⟩) q q]] ww fun en w' => ∃ a c, en = .returned (.tuple #[.slice a L c, .bool ok]) ∧ St w w' F2 G2 64 q Z2 w1.heap.size w2.heap.size b2 d2 bs d) := Lib.hid fun ww F2 G2 hS => by
        rw [hL.out, hok.out, hb2.out, hd2.out]
        exact hS.jpush (by omega) (by omega) (by omega) (by omega)
      have HRP : Hid (∀ ww F2 G2, St w ww F2 G2 64 q Z2 w1.heap.size w2.heap.size b2 d2 bs d → Calls Try.prog 13 #[.pointer (some ⟨w2.heap.size, 0, none⟩), .agg #[.int .i64 0, .int .u8 64, .slice (some ⟨G2, 0, none⟩) q q]] ww fun en w' => ∃ a c, en = .returned (.tuple #[.slice a L c, .bool ok]) ∧ St w w' F2 G2 64 q Z2 w1.heap.size w2.heap.size b2 d2 b2 d2) := Lib.hid fun ww F2 G2 hS => by
        rw [hL.out, hok.out]
        have h1 := hS.rpush (by omega) (by omega) (by omega) (by omega)
        rw [← hb2.out, ← hd2.out] at h1
        exact h1
      have hbl : Hid (d2 + b2.length ≤ 10) := Lib.hid (by rw [hb2.out, hd2.out]; have := (jDrop_le bs d 64 Z2 HS.out.dJ0).2; omega)
      clear hL hok hb2 hd2 c0 c1 c2 hdb hkw
      go_wp2_with (first
        | (at_make; refine wpList_make_full _ rfl _ _ 31 rfl wr.heap.size 5 i0 (.int .u8 0) 1 Try.underlying31 hi hz0 hz1 .i64 .i64 _ _ q rfl rfl rfl rfl HB2.out HM2.out (Nat.le_refl _) ?_; intro w8 ho8 hg8; have HO8 := Lib.hid ho8; have HG8 := Lib.hid hg8; clear ho8 hg8)
        | (go_at_call 12; have H9 : Hid (St w _ w8.heap.size wr.heap.size 64 q Z2 w1.heap.size w2.heap.size bs d bs d) := Lib.hid (by rw [hZ2.out]; exact HS.out.more HG8.out HO8.out); refine (HJP.out _ _ _ H9.out).mono ?_; rintro en w4 ⟨a4, c4, rfl, h4⟩; have H4 := Lib.hid h4; have c0 := h4.frag.c0; have c1 := h4.frag.c1; have c2 := h4.frag.c2; clear h4)
        | (go_at_call 13; refine (HRP.out _ _ _ H4.out).mono ?_; rintro en w5 ⟨a5, c5, rfl, h5⟩; have H5 := Lib.hid h5; clear h5 c0 c1 c2))
      obtain ⟨SJ, SR, hT⟩ := H5.out.two
      obtain ⟨sj, hj⟩ := hT.j
      obtain ⟨sr, vr, hr⟩ := hT.r
      obtain ⟨V, hV⟩ : ∃ V : Int, Hid (V = if b2.length = 0 then -1 else (b2.flatten.length : Int)) := ⟨_, Lib.hid rfl⟩
      have HOJ : Hid (∀ n, Calls Try.prog 14 #[.pointer (some ⟨w1.heap.size, 0, none⟩)] (w5.drewN n) fun e w' => e = .returned (.int .i64 V) ∧ w' = w5.drewN n) := Lib.hid fun n => by rw [hV.out]; exact jopen_any _ _ _ _ _ _ (hj.keep ((Kept.refl (fun _ => False) w5).drewN n) (fun _ _ hh => hh))
      have HOR : Hid (∀ n, Calls Try.prog 15 #[.pointer (some ⟨w2.heap.size, 0, none⟩)] (w5.drewN n) fun e w' => e = .returned (.int .i64 V) ∧ w' = w5.drewN n) := Lib.hid fun n => by rw [hV.out]; exact ropen_any _ _ _ _ _ _ _ (hr.keep ((Kept.refl (fun _ => False) w5).drewN n) (fun _ _ hh => hh)) (by have := hbl.out; have := H5.out.dR0; omega) H5.out.flR
      have HDJ : Hid (∀ n, Calls Try.prog 16 #[.pointer (some ⟨w1.heap.size, 0, none⟩)] (w5.drewN n) fun e w' => e = .returned (.int .i64 d2) ∧ w' = w5.drewN n) := Lib.hid fun n => jdropped_any _ _ _ _ _ _ (hj.keep ((Kept.refl (fun _ => False) w5).drewN n) (fun _ _ hh => hh))
      have HBel : Hid (∀ n, Below w.heap.size w (w5.drewN n)) := Lib.hid fun n => below_drewN hT.bel n
      have cR := hr.c1
      clear hT hj hr hV hbl HJP HRP H5 H4 H9 HO8 HG8 HS HD
      go_quiet ((first
        | (go_at_call 14; with_reducible exact Calls.quiet_of_same (HOJ.out _))
        | (go_at_call 15; with_reducible exact Calls.quiet_of_same (HOR.out _))
        | (go_at_call 16; with_reducible exact Calls.quiet_of_same (HDJ.out _))))
      go_wp2_with fail
      go_ret
      exact ⟨rfl, HBel.out _⟩

end Go.Proofs.Ytfahnjicinpahaa
