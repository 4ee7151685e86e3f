/- Contracts: once, of the document. -/
import Derived.Test.YtfahnjicinpahaaLinA
namespace Go.Proofs.Ytfahnjicinpahaa
open Go.RowKit
set_option linter.unusedVariables false

/-- Does each number below n stand in a list once? -/
def onceOk (n : Nat) (l : List Int) : Prop := ∀ i : Nat, i < n → l.count (i : Int) = 1

set_option maxRecDepth 100000 in
theorem once_any (w : World) (n : Nat) (s : Value) (zs : List Int) (hs : Ints .i64 w s zs) (hz : ∀ x ∈ zs, (Lit.int .i64 x).wf = true) (hn : n ≤ 60) (hlen : zs.length ≤ 60) [Decidable (onceOk n zs)] :
    Calls Try.prog 37 #[.int .i64 n, s] w fun e w' => e = .returned (.bool (decide (zs.length = n ∧ onceOk n zs))) ∧ w = w' := by
  obtain ⟨a, cap, rfl, hl⟩ := hs
  by_cases hne : zs.length = n
  · subst hne
    have HL := Lib.hid hl
    have HZ := Lib.hid hz
    clear hl hz
    go_enter Try.func37, Try.ntmps37
    go_wp2
    go_loop [5] (fun c => ∃ i : Nat, i ≤ zs.length ∧ c = .int .i64 i ∧ ∀ j : Nat, j < i → zs.count (j : Int) = 1) (fun c => zs.length - (intOf c).toNat)
    case atStart => exact ⟨0, by omega, rfl, fun j hj => by omega⟩
    case round =>
      obtain ⟨i, hi, rfl, hcnt⟩ := hrel
      have HC := Lib.hid hcnt
      clear hcnt
      by_cases hlt : i < zs.length
      · go_wp2
        go_loop [6, 20] (fun v c => ∃ k : Nat, k ≤ zs.length ∧ c = .int .i64 k ∧ v = .int .i64 ((zs.take k).count (i : Int) : Nat)) (fun _ c => zs.length - (intOf c).toNat)
        case atStart => exact ⟨0, by omega, rfl, by simp⟩
        case round =>
          obtain ⟨k, hk, rfl, rfl⟩ := hrel
          by_cases hlk : k < zs.length
          · obtain ⟨b, off, rfl, hc⟩ : ∃ b off, a = some ⟨b, off, none⟩ ∧ ∀ i, i < zs.length → w.cell? ⟨b, off + i, none⟩ = some (.int .i64 (zs.getD i 0)) := by
              rcases HL.out with hl | h
              · subst hl; simp at hlk
              · exact h
            have hx := hc k hlk
            have hxw := HZ.out (zs.getD k 0) (by simp [List.getD_eq_getElem?_getD, hlk])
            have htk : zs.take (k + 1) = zs.take k ++ [zs.getD k 0] := by rw [List.take_succ_eq_append_getElem hlk]; simp [List.getD_eq_getElem?_getD, hlk]
            have hcl : (zs.take k).count (i : Int) ≤ k := Nat.le_trans List.count_le_length (by simp; omega)
            generalize zs.getD k 0 = x at *
            have hcs : (zs.take (k + 1)).count (i : Int) = (zs.take k).count (i : Int) + if x = i then 1 else 0 := by
              rw [htk, List.count_append, List.count_singleton]; simp
            generalize (zs.take k).count (i : Int) = m at *
            have HCS := Lib.hid hcs
            clear hcs htk hc
            by_cases hxi : x = i
            · subst hxi
              go_wp2
              go_round
              case rel => exact ⟨k + 1, by omega, by go_num, by rw [HCS.out]; simp⟩
              case measure => simp [intOf]; omega
            · go_wp2
              go_round
              case rel => exact ⟨k + 1, by omega, by go_num, by rw [HCS.out]; simp [hxi]⟩
              case measure => simp [intOf]; omega
          · obtain rfl : k = zs.length := by omega
            rw [List.take_length]
            have hm1 : zs.count (i : Int) ≤ 60 := Nat.le_trans List.count_le_length hlen
            by_cases h1 : zs.count (i : Int) = 1
            · have HH : Hid (∀ j : Nat, j < i + 1 → zs.count (j : Int) = 1) := Lib.hid fun j hj => by
                rcases Nat.lt_or_ge j i with h | h
                · exact HC.out j h
                · obtain rfl : j = i := by omega
                  exact h1
              rw [h1]
              clear HC hm1
              go_wp2
              go_round
              case rel => exact ⟨i + 1, by omega, by go_num, HH.out⟩
              case measure => simp [intOf]; omega
            · have hno : ¬ onceOk zs.length zs := fun h => h1 (h i hlt)
              have HNO := Lib.hid hno
              generalize zs.count (i : Int) = m at *
              clear HC hno
              go_wp2
              go_ret
              exact ⟨by simp [HNO.out], rfl⟩
      · obtain rfl : i = zs.length := by omega
        have hyes : onceOk zs.length zs := HC.out
        have HY := Lib.hid hyes
        clear HC hyes
        go_wp2
        go_ret
        exact ⟨by simp [HY.out], rfl⟩
  · have hd2 : ¬ ((zs.length : Int) = (n : Int)) := by omega
    go_enter Try.func37, Try.ntmps37
    go_wp2
    go_ret
    exact ⟨by simp [hne], rfl⟩

theorem len_le {α : Type} [DecidableEq α] : ∀ {l S : List α}, l.Nodup → (∀ x ∈ l, x ∈ S) → l.length ≤ S.length
  | [], S, _, _ => Nat.zero_le _
  | a :: l, S, h, hs => by
    have h1 := List.nodup_cons.1 h
    have ha := hs a (by simp)
    have := len_le (l := l) (S := S.erase a) h1.2 (fun x hx => (List.mem_erase_of_ne (show x ≠ a by rintro rfl; exact h1.1 hx)).2 (hs x (by simp [hx])))
    rw [List.length_erase_of_mem ha] at this
    have : 0 < S.length := List.length_pos_of_mem ha
    simp; omega

def below (n : Nat) : List Int := (List.range n).map fun (j : Nat) => (j : Int)
theorem below_mem {n : Nat} {x : Int} : x ∈ below n ↔ 0 ≤ x ∧ x < n := by
  unfold below
  simp
  constructor
  · rintro ⟨a, h, rfl⟩; omega
  · rintro ⟨h0, h1⟩; exact ⟨x.toNat, by omega, by omega⟩
theorem below_nodup (n : Nat) : (below n).Nodup := by
  unfold below
  rw [List.nodup_iff_pairwise_ne, List.pairwise_map]
  exact (List.nodup_iff_pairwise_ne.1 List.nodup_range).imp fun h e => h (by omega)
theorem below_len (n : Nat) : (below n).length = n := by simp [below]

/-- Both ask the same. -/
theorem rows_same {l : List Int} : rowOk l.length l ↔ onceOk l.length l := by
  constructor
  · rintro ⟨hn, hr⟩ i hi
    rw [hn.count]
    split
    · rfl
    · rename_i hni
      have := len_le (l := l) (S := (below l.length).erase (i : Int)) hn fun x hx => (List.mem_erase_of_ne (show x ≠ (i : Int) by rintro rfl; exact hni hx)).2 (below_mem.2 (hr x hx))
      rw [List.length_erase_of_mem (below_mem.2 ⟨by omega, by omega⟩), below_len] at this
      omega
  · intro h
    have hsub : ∀ x ∈ below l.length, x ∈ l := fun x hx => by
      obtain ⟨h0, h1⟩ := below_mem.1 hx
      have := h x.toNat (by omega)
      rw [show ((x.toNat : Nat) : Int) = x by omega] at this
      exact List.count_pos_iff.1 (by omega)
    have hin : ∀ x ∈ l, 0 ≤ x ∧ x < l.length := fun x hx => by
      apply Classical.byContradiction
      intro hno
      have := len_le (l := below l.length) (S := l.erase x) (below_nodup _) fun y hy => (List.mem_erase_of_ne (show y ≠ x by rintro rfl; exact hno (below_mem.1 hy))).2 (hsub y hy)
      rw [List.length_erase_of_mem hx, below_len] at this
      have : 0 < l.length := List.length_pos_of_mem hx
      omega
    refine ⟨List.nodup_iff_count.2 fun a => ?_, hin⟩
    by_cases ha : a ∈ l
    · obtain ⟨h0, h1⟩ := hin a ha
      have := h a.toNat (by omega)
      rw [show ((a.toNat : Nat) : Int) = a by omega] at this
      omega
    · rw [List.count_eq_zero_of_not_mem ha]; omega

end Go.Proofs.Ytfahnjicinpahaa
