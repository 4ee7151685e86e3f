/- For JoinPlays and JoinCuts: few; bytes as strings; nothing appended. -/
import Derived.Test.YtfahnjicinpahaaJoH
import Derived.Laws.IdiomStrings
namespace Go.Proofs.Ytfahnjicinpahaa
open Go.RowKit
set_option linter.unusedVariables false

theorem wpList_append_none {P : Program} {ops : Array Oper} {rest : List Oper} {o : Oper} {a : Act} {w : World} {Q : Exit → Act → World → Prop}
    (hg : o.guard = none) (s x : Operand) (t : TypeId) (hop : o.op = Op.call { callee := Callee.builtin Builtin.append, args := #[s, x], argTypes := #[t, t] })
    (e : TypeId) (i : TypeInfo) (h1 : P.underlying t = some (.slice e)) (h2 : P.info? e = some i) (ao : Option Addr) (n cap : Nat) (hs : a.eval s = .slice ao n cap) (hle : n ≤ cap) (xo : Option Addr) (c : Nat) (hx : a.eval x = .slice xo 0 c)
    (h : wpList P ops Q rest (a.put o.dst (.slice ao n cap)) w) : wpList P ops Q (o :: rest) a w := by
  refine wpList_plain hg fun K hK => ?_
  have hsrc : Src P i.size t (.slice xo 0 c) 0 [] w := by
    cases xo with
    | none => exact Src.ofNil w h1 c
    | some b => exact Src.ofSlice w h1 b 0 c [] (by simp) (fun j u h => by simp at h) (fun u h => by cases h)
  have hrun := run_append_nothing (P := P) w t t o.type e i h1 h2 ao n cap hle _ hsrc
  unfold Oper.wp
  simp [execOp, hop, resolve, invoke, builtin, hs, hx, hrun, Result.andThen]
  exact hK _ _ h

/-- Bytes as a string. -/
def bstr (D : List Int) : ByteArray := ⟨(D.map (fun n => UInt8.ofNat n.toNat)).toArray⟩

theorem conv_str {P : Program} {w : World} {ad : Option Addr} {cap : Nat} {D : List Int} (h : Ints .u8 w (.slice ad D.length cap) D) (hb : ∀ n ∈ D, 0 ≤ n ∧ n ≤ 255) (src dst e : TypeId) (hs : P.underlying src = some (.slice e)) (he : P.underlying e = some (.int .u8)) (hd : P.underlying dst = some .string) :
    (convert src dst (.slice ad D.length cap)).run P w = .ok (.string (bstr D)) w := by
  obtain ⟨a, c, e1, hc⟩ := h
  cases e1
  rcases hc with rfl | ⟨b, off, rfl, hc⟩
  · cases ad with
    | none =>
      rw [show ([] : List Int).length = 0 from rfl, run_convert_bytes_string w src dst e none 0 cap hs he hd]
      simp [bstr]
      try rfl
    | some x => exact run_convert_bytes_back w src dst e x cap [] hs he hd (fun j hj => by simp at hj)
  · have := run_convert_bytes_back (P := P) w src dst e ⟨b, off, none⟩ cap (D.map (fun n => UInt8.ofNat n.toNat)) hs he hd (fun j hj => by
      have hjl : j < D.length := by simpa using hj
      have hadd : (⟨b, off, none⟩ : Addr).add j = ⟨b, off + j, none⟩ := by unfold Addr.add; split <;> simp_all
      rw [hadd, hc j hjl]
      have hm := hb (D.getD j 0) (by simp [List.getD_eq_getElem?_getD, hjl])
      have e2 : D[j] = D.getD j 0 := by simp [List.getD_eq_getElem?_getD, hjl]
      simp only [List.getElem_map, e2]
      generalize D.getD j 0 = v at *
      obtain ⟨m0, m1⟩ := hm
      have h3 : (UInt8.ofNat v.toNat).toNat = v.toNat := by rw [UInt8.toNat_ofNat']; omega
      rw [h3]
      congr 2
      omega)
    rw [List.length_map] at this
    exact this

def fewB (l : List FragV) : Bool := decide ((∀ i, i < l.length → (l.getD i fv0).D.length ≤ 300) ∧ l.length ≤ 80)

theorem FragsC.below {w w' : World} {s : Value} {l : List FragV} (h : FragsC w s l) (hb : Below w.heap.size w w') : FragsC w' s l := by
  obtain ⟨a, cap, h1, h2, h3⟩ := h
  refine ⟨a, cap, h1, h2, h3.imp_right ?_⟩
  rintro ⟨b, off, rfl, hc⟩
  refine ⟨b, off, rfl, fun i hi => ?_⟩
  obtain ⟨e0, e1, e2⟩ := hc i hi
  have hlt : b < w.heap.size := World.block_lt_of_cell? w _ e0
  exact ⟨(hb.cell (p := ⟨b, _, none⟩) hlt).trans e0, (hb.cell (p := ⟨b, _, none⟩) hlt).trans e1, (hb.cell (p := ⟨b, _, none⟩) hlt).trans e2⟩

open Classical in
set_option maxRecDepth 100000 in
set_option maxHeartbeats 1000000 in
theorem few_any (w : World) (s : Value) (l : List FragV) (hs : FragsC w s l) (hmax : l.length ≤ maxLen) (hdm : ∀ i, i < l.length → (l.getD i fv0).D.length ≤ maxLen) :
    Calls Try.prog 10 #[s] w fun e w' => e = .returned (.bool (fewB l)) ∧ Below w.heap.size w w' := by
  obtain ⟨a, cap, rfl, hcap, hl⟩ := hs
  have HD := Lib.hid hdm
  have hm2 : (l.length : Int) ≤ 9223372036854775807 := by unfold maxLen at hmax; omega
  clear hdm
  go_enter Try.func10, Try.ntmps10
  go_wp2
  go_loopw [7] (fun i wr => ∃ k : Nat, k ≤ l.length ∧ i = .int .i64 k ∧ Hid (Below w.heap.size w wr) ∧ Hid (∀ j, j < k → (l.getD j fv0).D.length ≤ 300)) (fun i _ => l.length - (intOf i).toNat)
  case atStart => exact ⟨0, by omega, rfl, Lib.hid (Below.refl _ _), Lib.hid fun j hj => by omega⟩
  case round =>
    obtain ⟨k, hk, rfl, HB, HK⟩ := hrel
    by_cases hlt : k < l.length
    · rcases hl with rfl | ⟨b, off, rfl, hc⟩
      · simp at hlt
      · obtain ⟨e0, e1, e2⟩ := hc k hlt
        have hlt0 : b < w.heap.size := World.block_lt_of_cell? w _ e0
        have c0 := (HB.out.cell (p := ⟨b, off + k * 3, none⟩) hlt0).trans e0
        have c1 := (HB.out.cell (p := ⟨b, off + k * 3 + 1, none⟩) hlt0).trans e1
        have c2 := (HB.out.cell (p := ⟨b, off + k * 3 + 2, none⟩) hlt0).trans e2
        have hdk := HD.out k hlt
        have HX : Hid (∀ j, j < k + 1 → (l.getD k fv0).D.length ≤ 300 → (l.getD j fv0).D.length ≤ 300) := Lib.hid fun j hj h => by
          rcases Nat.lt_or_ge j k with h1 | h1
          · exact HK.out j h1
          · obtain rfl : j = k := by omega
            exact h
        have HF : Hid (¬ (l.getD k fv0).D.length ≤ 300 → fewB l = false) := Lib.hid fun h => by
          unfold fewB
          exact decide_eq_false fun hh => h (hh.1 k hlt)
        have HB2 : Hid (∀ o, Below w.heap.size w (wr.alloc o)) := Lib.hid fun o => HB.out.alloc HB.out.size o
        generalize (l.getD k fv0).D.length = n at *
        generalize (l.getD k fv0).a = pa at *
        generalize (l.getD k fv0).cap = pc at *
        generalize (l.getD k fv0).f = pf at *
        generalize (l.getD k fv0).e = pe at *
        clear hc e0 e1 e2 HD HK HB
        by_cases hn : (300 : Int) < n
        · go_wp2
          go_ret
          exact ⟨by rw [HF.out (by omega)]; rfl, HB2.out _⟩
        · go_wp2
          go_roundw
          case rel => exact ⟨k + 1, by omega, by go_num, Lib.hid (HB2.out _), Lib.hid fun j hj => HX.out j hj (by omega)⟩
          case measure => simp [intOf]; omega
    · have hkk : k = l.length := by omega
      have HF : Hid (fewB l = decide ((l.length : Int) ≤ 80)) := Lib.hid (by
        unfold fewB
        subst hkk
        have h1 := HK.out
        by_cases h80 : l.length ≤ 80
        · rw [decide_eq_true (show (l.length : Int) ≤ 80 by omega)]; exact decide_eq_true ⟨h1, h80⟩
        · rw [decide_eq_false (show ¬ (l.length : Int) ≤ 80 by omega)]; exact decide_eq_false fun h => h80 h.2)
      clear HD HK hkk
      go_wp2
      go_ret
      exact ⟨by rw [HF.out]; try rfl, HB.out⟩

end Go.Proofs.Ytfahnjicinpahaa
