/- Statement WordBytes: for every number v, every n and all bytes b: v's bytes are the document's, so is b's number; eight bytes tell their number.
   No condition: for every input that can be read. -/
import Derived.Test.YtpcmjgjdmlgdjaaRows
import Derived.Test.YtpcmjgjdmlgdjaaKit
import Derived.Test.YtpcmjgjdmlgdjaaFixed
import Derived.Test.YtpcmjgjdmlgdjaaNumber
import Derived.ProofKit
import Derived.Deep.RegionWith
import Derived.OpenShut
import Derived.ShutString
import Derived.ChangeOld
import Derived.Below
namespace Go.Proofs.Ytpcmjgjdmlgdjaa.wordBytes
open Go.ChangeShapes Go.WideShapes Go.ChangeAt Go.RowKit
open Go.ChangeMaps (open_string shut_string)
set_option linter.unusedVariables false

theorem own : ownKnob Try.prog.godebug = none := by kernel_rfl
theorem laidOut : laidOutB Try.prog = true := by kernel_rfl

theorem ownsBytes_below {w w' : World} {base : Nat} {s : Value} {l : List Int} (h : ownsBytes w base s l) (hb : Below w.heap.size w w') : ownsBytes w' base s l := by
  refine ⟨h.1, ?_⟩
  rcases h.2 with hn | ⟨g, cap, cur, hv, hg, hgg, r⟩
  · exact .inl hn
  · exact .inr ⟨g, cap, cur, hv, hg, by rw [hb.block g (Array.getElem?_eq_some_iff.1 hgg).1]; exact hgg, r⟩
theorem byteL_range (v n : Int) : ∀ x ∈ byteL v n, 0 ≤ x ∧ x < 256 := by
  intro x hx
  unfold byteL at hx
  split at hx
  · obtain ⟨i, _, rfl⟩ := List.mem_map.1 hx; exact byteI_range v i
  · simp at hx
theorem byteL_max (v n : Int) : (byteL v n).length ≤ maxLen := by
  unfold byteL maxLen; split <;> simp; omega
theorem num_byteL (v : Int) (n : Nat) (h0 : 0 ≤ v) : num ((List.range n).map (byteI v)) = v % 2 ^ (8 * n) := by
  induction n with
  | zero => simp [num]
  | succ n ih =>
    rw [List.range_succ, List.map_append, List.map_cons, List.map_nil, num_append, ih, List.length_map, List.length_range, pow256, show 8 * (n + 1) = 8 * n + 8 by omega, Int.pow_add]
    unfold byteI
    have hp := pow_pos_i (8 * n)
    generalize (2 : Int) ^ (8 * n) = M at *
    have e1 := Int.mul_ediv_add_emod v M
    have e2 := Int.mul_ediv_add_emod (v / M) 256
    have e3 : v / (M * 256) = v / M / 256 := (Int.ediv_ediv_of_nonneg (by omega)).symm
    have e4 := Int.mul_ediv_add_emod v (M * 256)
    rw [e3] at e4
    have e5 : M * 256 * (v / M / 256) = M * (256 * (v / M / 256)) := Int.mul_assoc _ _ _
    have e6 : M * (v / M) = M * (256 * (v / M / 256)) + M * (v / M % 256) := by rw [← Int.mul_add, e2]
    show v % M + M * (v / M % 256) = v % (M * 256)
    omega

set_option maxHeartbeats 6000000 in
theorem walk (a0 : Int) (a1 : Int) (a2 : Option Addr) (len2 cap2 : Nat) (z2 : List Int) (w : World) (w0 : (Lit.int .u64 a0).wf = true) (w1 : (Lit.int .i64 a1).wf = true) (w2 : IsRow .u8 w a2 len2 cap2 z2) :
    Calls Try.prog 5 #[.int .u64 a0, .int .i64 a1, .slice a2 len2 cap2] w fun e w' => e = .returned (.bool true) ∧ Below w.heap.size w w' := by
  obtain ⟨hv0, hv1⟩ := range_u64 w0
  obtain ⟨hin0, hwf, hlen, hmx⟩ := Ints.of_row w2
  have hrg : ∀ x ∈ z2.take len2, 0 ≤ x ∧ x < 256 := fun x hx => by have := range_u8 (hwf x hx); omega
  have hml : (z2.take len2).length ≤ maxLen := by omega
  generalize z2.take len2 = L at *
  have HRG := Lib.hid hrg
  have HML := Lib.hid hml
  have HIN := Lib.hid hin0
  have h8 : num ((byteL a0 8).take 8) = a0 := by
    rw [List.take_of_length_le (by unfold byteL; split <;> simp), byteL, if_pos (by omega), num_byteL _ _ hv0]
    exact Int.emod_eq_of_lt hv0 (by simp; omega)
  have H8 := Lib.hid h8
  clear hrg hml hwf w0 w1 w2 hlen h8 hin0
  unfold maxLen at hmx
  by_cases hl : 2000 < len2
  · go_enter Try.func5, Try.ntmps5
    go_wp2_with (go_at_call 7; refine (fixed_true _).mono ?_; rintro e w1 ⟨rfl, hb1⟩)
    go_ret
    exact ⟨rfl, by assumption⟩
  · go_enter Try.func5, Try.ntmps5
    go_wp2_with (go_at_call 7; refine (fixed_true _).mono ?_; rintro e w1 ⟨rfl, hb1⟩)
    have hin : Hid (Ints .u8 w1.drew (.slice a2 len2 cap2) L) := Lib.hid ((HIN.out.kept hb1).drew)
    have hB : Hid (Below w.heap.size w w1.drew) := Lib.hid hb1.drew
    clear hb1 HIN
    go_region_with (first | (go_at_call 16; refine (bytes_any _ _ _ hv0 hv1).mono ?_; rintro e wa ⟨sa, rfl, hoa, hba⟩; have hcva := conv_bytes hoa (byteL_range _ _); have hia := Lib.hid (Ints.of_owned hoa); have hin := Lib.hid (hin.out.kept hba); have hB := Lib.hid (hB.out.trans (hba.mono hB.out.size)); have hoa := Lib.hid hoa) | (go_at_call 17; refine (rbytes_any _ _ _ hv0 hv1).mono ?_; rintro e wb ⟨sb, rfl, hob, hbb⟩; have hcvb := conv_bytes hob (byteL_range _ _); have hcva := conv_bytes (ownsBytes_below hoa.out hbb) (byteL_range _ _); have hin := Lib.hid (hin.out.kept hbb); have hB := Lib.hid (hB.out.trans (hbb.mono hB.out.size)); have hob := Lib.hid hob) | (go_at_call 18; (with_reducible refine (number_any _ _ _ hin.out HRG.out HML.out).mono ?_); rintro e w' ⟨rfl, rfl⟩) | (go_at_call 19; (with_reducible refine (rnumber_any _ _ _ hin.out HRG.out HML.out).mono ?_); rintro e w' ⟨rfl, rfl⟩) | (go_at_call 18; (with_reducible refine (number_any _ _ _ hia.out (byteL_range _ _) (byteL_max _ _)).mono ?_); rw [H8.out]; rintro e w' ⟨rfl, rfl⟩))
    all_goals
      go_wp2
      go_ret
      exact ⟨rfl, hB.out⟩


set_option maxRecDepth 100000 in
theorem lifted (os : Os) (started : os.Started) (H : Type) (enc : TypeId × Value → H) :
    ReturnsInHanded {} Try.checked os 5 .any (Rows.wordBytesSpec.pre6 enc Try.prog Try.f5 Rows.wordBytesRow.domain false) (Rows.wordBytesSpec.post enc Try.prog Try.f5 false true false false) := by
  refine returnsInHanded_of_change (C := Try.checked) own started (by kernel_rfl) Try.func5
    (ChangeSpec.witness6 (enc := enc) (C := Try.checked) false ⟨#[], #[.int .u64 0, .int .i64 0, .slice none 0 0], []⟩ 8 (by kernel_rfl) (by kernel_rfl) (by kernel_rfl) (by kernel_rfl)) ?_
  intro W base args ds gs before hval0 hW hcnd _
  have hval : ∀ (j : Nat) t v, Try.f5.params[j]? = some t → args[j]? = some v → Value.okWide Try.prog W .any base t v := hval0
  have hW' := hW
  obtain ⟨p, q, hA0, hV, rfl, hfz, hnd⟩ := hW
  have hA : DataW.TrodAll enc Try.prog W 0 (fun _ => true) true Try.f5.params.toList args.toList ds p := hA0
  rw [Try.params5] at hA hval
  obtain ⟨v0, vs0, d0, ds0, p0, q0, hargs, rfl, rfl, h0, r0⟩ := trodAll_cons hA
  obtain ⟨v1, vs1, d1, ds1, p1, q1, rfl, rfl, rfl, h1, r1⟩ := trodAll_cons r0
  obtain ⟨v2, vs2, d2, ds2, p2, q2, rfl, rfl, rfl, h2, r2⟩ := trodAll_cons r1
  obtain ⟨rfl, rfl, rfl⟩ := trodAll_nil r2
  obtain rfl : args = #[v0, v1, v2] := by cases args; simp_all
  obtain ⟨rfl, rfl⟩ := trodVars_none hV
  obtain ⟨a0, rfl, rfl, rfl, w0⟩ := open_int Try.underlying31 (hval 0 31 v0 rfl rfl) h0
  obtain ⟨a1, rfl, rfl, rfl, w1⟩ := open_int Try.underlying3 (hval 1 3 v1 rfl rfl) h1
  obtain ⟨a2, len2, cap2, rfl⟩ := okWide_slice Try.underlying32 (hval 2 32 v2 rfl rfl)
  have k2 := h2
  have lt2 : ∀ x ∈ p2, x.block < W.heap.size := by obtain ⟨m, hm⟩ := k2; exact DataW.trod_lt m _ _ _ hm
  obtain ⟨z2, w2⟩ : ∃ zs, IsRow .u8 W a2 len2 cap2 zs := by
    obtain ⟨fuel, hf⟩ := h2
    rcases open_ints Try.underlying32 Try.underlying5 (by kernel_rfl) hf with ⟨hcs, _⟩ | ⟨x, l, c, zs, hcs, _, hl, hm, hz, _, hcell, hwz⟩
    · simp [Value.cells] at hcs
      obtain ⟨rfl, rfl, rfl⟩ := hcs
      exact ⟨[], .inl ⟨rfl, rfl, rfl, rfl⟩⟩
    · simp [Value.cells] at hcs
      obtain ⟨rfl, rfl, rfl⟩ := hcs
      exact ⟨zs, .inr ⟨_, rfl, hl, hm, by simpa using hz, hcell, hwz⟩⟩
  clear hA0 hval0
  refine (walk a0 a1 a2 len2 cap2 z2 W w0 w1 w2).mono fun e W' ⟨he, bel⟩ => ?_
  subst he
  exact ⟨_, rfl, _, _, _, [], _, [], hW', trodAll_mk1 (shut_bool Try.underlying4 _), (trodAll_cons_mk (shut_int Try.underlying31 w0) (trodAll_cons_mk (shut_int Try.underlying3 w1) (trodAll_cons_mk (Below.trod laidOut (by kernel_rfl) (of_decide_eq_true (by kernel_rfl)) k2 bel lt2) trodAll_mk0))), rfl, bel.frame _, fun h => by cases h⟩

theorem over : Rows.wordBytesRow.holds Try.pinned (OpenSpec.ofChange Rows.wordBytesSpec) :=
  OpenClaim.holds_of_wide 5 Try.f5 rfl rfl rfl rfl rfl rfl rfl ⟨rfl, rfl, rfl, rfl, rfl⟩ rfl rfl rfl rfl rfl (by kernel_rfl) Try.func5 (by kernel_rfl)
    (of_decide_eq_true (by kernel_rfl)) (by unfold Func.isWrapper; first | (rw [if_pos (by decide +kernel)]; kernel_rfl) | (rw [if_neg (by decide +kernel)]; exact ⟨rfl, rfl⟩))
    (fun os started H enc _ => lifted os started H enc)

theorem proved : Rows.WordBytesSaid := over
#print axioms proved
end Go.Proofs.Ytpcmjgjdmlgdjaa.wordBytes
