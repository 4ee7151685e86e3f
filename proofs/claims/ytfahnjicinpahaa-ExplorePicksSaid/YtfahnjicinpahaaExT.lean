/- Contracts: rows of events that are the same. -/
import Derived.Test.YtfahnjicinpahaaExS
import Derived.Deep.RegionLaw
namespace Go.Proofs.Ytfahnjicinpahaa
open Go.RowKit
set_option linter.unusedVariables false

def evOf (x : Int) : List Value := [.int .i64 0, .int .i64 x, .int .i64 0, .int .i64 0, .int .i64 0, .int .i64 0, .int .u64 0, .int .u64 0, .slice none 0 0, .int .u64 0, .bool false, .slice none 0 0]
def evC (l : List Int) : List Value := l.flatMap evOf
theorem evC_snoc (l : List Int) (x : Int) : evC (l ++ [x]) = evC l ++ evOf x := by simp [evC]
theorem flat_at {α β : Type} (f : α → List β) (m : Nat) (hf : ∀ x, (f x).length = m) : ∀ (l : List α) (k j : Nat) (x : α), l[k]? = some x → j < m → (l.flatMap f)[k * m + j]? = (f x)[j]?
  | [], k, j, x, h, _ => by simp at h
  | y :: l, 0, j, x, h, hj => by
    simp at h
    subst h
    rw [List.flatMap_cons, Nat.zero_mul, Nat.zero_add, List.getElem?_append_left (by rw [hf]; exact hj)]
  | y :: l, k + 1, j, x, h, hj => by
    rw [List.flatMap_cons, List.getElem?_append_right (by rw [hf, Nat.add_mul]; omega), hf, Nat.add_mul]
    rw [show k * m + 1 * m + j - m = k * m + j by omega]
    exact flat_at f m hf l k j x (by simpa using h) hj

/-- Two rows of the same events. -/
structure Ev2 (w wr : World) (gA gB : Nat) (zs : List Int) : Prop where
  a : gA < wr.heap.size
  b : gB < wr.heap.size
  ca : ∀ k x j, zs[k]? = some x → j < 12 → wr.cell? ⟨gA, k * 12 + j, none⟩ = (evOf x)[j]?
  cb : ∀ k x j, zs[k]? = some x → j < 12 → wr.cell? ⟨gB, k * 12 + j, none⟩ = (evOf x)[j]?
  below : Below w.heap.size w wr
theorem Ev2.on {w wr w2 : World} {gA gB : Nat} {zs : List Int} (h : Ev2 w wr gA gB zs) (hb : Below wr.heap.size wr w2) : Ev2 w w2 gA gB zs :=
  ⟨Nat.lt_of_lt_of_le h.a hb.size, Nat.lt_of_lt_of_le h.b hb.size, fun k x j hk hj => (hb.cell (p := ⟨gA, _, none⟩) h.a).trans (h.ca k x j hk hj), fun k x j hk hj => (hb.cell (p := ⟨gB, _, none⟩) h.b).trans (h.cb k x j hk hj), h.below.trans (hb.mono h.below.size)⟩

set_option maxRecDepth 100000 in
set_option maxHeartbeats 4000000 in
theorem same_any (w : World) (aoA : Option Addr) (capA : Nat) (aoB : Option Addr) (capB : Nat) (zs : List Int) (hlen : zs.length ≤ 200) (hcA : zs.length ≤ capA) (hcB : zs.length ≤ capB)
    (hA : 0 < zs.length → ∃ g, aoA = some ⟨g, 0, none⟩ ∧ g < w.heap.size ∧ ∀ i, i < zs.length * 12 → w.cell? ⟨g, i, none⟩ = (evC zs)[i]?) (hB : 0 < zs.length → ∃ g, aoB = some ⟨g, 0, none⟩ ∧ g < w.heap.size ∧ ∀ i, i < zs.length * 12 → w.cell? ⟨g, i, none⟩ = (evC zs)[i]?) :
    Calls Try.prog 31 #[.slice aoA zs.length capA, .slice aoB zs.length capB] w fun e w' => e = .returned (.bool true) ∧ Below w.heap.size w w' := by
  by_cases h0 : zs.length = 0
  · obtain rfl : zs = [] := List.eq_nil_of_length_eq_zero h0
    clear hA hB
    go_enter Try.func31, Try.ntmps31
    go_wp2
    go_loop [13] (fun c => c = .int .i64 0) (fun c => 0)
    case atStart => rfl
    case round =>
      obtain rfl := hrel
      go_wp2
      go_ret
      exact ⟨rfl, Below.refl _ _⟩
  obtain ⟨gA, rfl, hgA, hcAc⟩ := hA (by omega)
  obtain ⟨gB, rfl, hgB, hcBc⟩ := hB (by omega)
  have HE : Hid (Ev2 w w gA gB zs) := Lib.hid ⟨hgA, hgB, fun k x j hk hj => by
    have hkl := (List.getElem?_eq_some_iff.1 hk).1
    rw [hcAc _ (by omega)]; exact flat_at evOf 12 (fun _ => rfl) zs k j x hk hj, fun k x j hk hj => by
    have hkl := (List.getElem?_eq_some_iff.1 hk).1
    rw [hcBc _ (by omega)]; exact flat_at evOf 12 (fun _ => rfl) zs k j x hk hj, Below.refl _ _⟩
  clear hA hB hgA hgB hcAc hcBc
  go_enter Try.func31, Try.ntmps31
  go_wp2
  go_loopw [13] (fun c wr => ∃ k : Nat, k ≤ zs.length ∧ c = .int .i64 k ∧ Hid (Ev2 w wr gA gB zs)) (fun c _ => zs.length - (intOf c).toNat)
  case atStart => exact ⟨0, by omega, rfl, HE⟩
  case round =>
    clear HE
    obtain ⟨k, hk, rfl, HE⟩ := hrel
    by_cases hlt : k < zs.length
    · have hzk : zs[k]? = some (zs.getD k 0) := by simp [List.getD_eq_getElem?_getD, hlt]
      have hA := fun j hj => HE.out.ca k _ j hzk hj
      have hB := fun j hj => HE.out.cb k _ j hzk hj
      generalize zs.getD k 0 = x at *
      have hgA := HE.out.a
      have hgB := HE.out.b
      have cA0 : wr.cell? ⟨gA, k * 12, none⟩ = some (.int .i64 0) := hA 0 (by omega)
      have cA1 : wr.cell? ⟨gA, k * 12 + 1, none⟩ = some (.int .i64 x) := hA 1 (by omega)
      have cA2 : wr.cell? ⟨gA, k * 12 + 2, none⟩ = some (.int .i64 0) := hA 2 (by omega)
      have cA3 : wr.cell? ⟨gA, k * 12 + 3, none⟩ = some (.int .i64 0) := hA 3 (by omega)
      have cA4 : wr.cell? ⟨gA, k * 12 + 3 + 1, none⟩ = some (.int .i64 0) := hA 4 (by omega)
      have cA5 : wr.cell? ⟨gA, k * 12 + 3 + 2, none⟩ = some (.int .i64 0) := hA 5 (by omega)
      have cA6 : wr.cell? ⟨gA, k * 12 + 3 + 3, none⟩ = some (.int .u64 0) := hA 6 (by omega)
      have cA7 : wr.cell? ⟨gA, k * 12 + 3 + 4, none⟩ = some (.int .u64 0) := hA 7 (by omega)
      have cA8 : wr.cell? ⟨gA, k * 12 + 3 + 5, none⟩ = some (.slice none 0 0) := hA 8 (by omega)
      have cA9 : wr.cell? ⟨gA, k * 12 + 9, none⟩ = some (.int .u64 0) := hA 9 (by omega)
      have cA10 : wr.cell? ⟨gA, k * 12 + 9 + 1, none⟩ = some (.bool false) := hA 10 (by omega)
      have cA11 : wr.cell? ⟨gA, k * 12 + 9 + 2, none⟩ = some (.slice none 0 0) := hA 11 (by omega)
      have cB0 : wr.cell? ⟨gB, k * 12, none⟩ = some (.int .i64 0) := hB 0 (by omega)
      have cB1 : wr.cell? ⟨gB, k * 12 + 1, none⟩ = some (.int .i64 x) := hB 1 (by omega)
      have cB2 : wr.cell? ⟨gB, k * 12 + 2, none⟩ = some (.int .i64 0) := hB 2 (by omega)
      have cB3 : wr.cell? ⟨gB, k * 12 + 3, none⟩ = some (.int .i64 0) := hB 3 (by omega)
      have cB4 : wr.cell? ⟨gB, k * 12 + 3 + 1, none⟩ = some (.int .i64 0) := hB 4 (by omega)
      have cB5 : wr.cell? ⟨gB, k * 12 + 3 + 2, none⟩ = some (.int .i64 0) := hB 5 (by omega)
      have cB6 : wr.cell? ⟨gB, k * 12 + 3 + 3, none⟩ = some (.int .u64 0) := hB 6 (by omega)
      have cB7 : wr.cell? ⟨gB, k * 12 + 3 + 4, none⟩ = some (.int .u64 0) := hB 7 (by omega)
      have cB8 : wr.cell? ⟨gB, k * 12 + 3 + 5, none⟩ = some (.slice none 0 0) := hB 8 (by omega)
      have cB9 : wr.cell? ⟨gB, k * 12 + 9, none⟩ = some (.int .u64 0) := hB 9 (by omega)
      have cB10 : wr.cell? ⟨gB, k * 12 + 9 + 1, none⟩ = some (.bool false) := hB 10 (by omega)
      have cB11 : wr.cell? ⟨gB, k * 12 + 9 + 2, none⟩ = some (.slice none 0 0) := hB 11 (by omega)
      clear hA hB hzk
      go_wp2
      go_region_held_law (fun w' => w'.cell? ⟨gA, k * 12, none⟩ = some (.int .i64 0) ∧ w'.cell? ⟨gA, k * 12 + 1, none⟩ = some (.int .i64 x) ∧ w'.cell? ⟨gA, k * 12 + 2, none⟩ = some (.int .i64 0) ∧ w'.cell? ⟨gA, k * 12 + 3, none⟩ = some (.int .i64 0) ∧ w'.cell? ⟨gA, k * 12 + 3 + 1, none⟩ = some (.int .i64 0) ∧ w'.cell? ⟨gA, k * 12 + 3 + 2, none⟩ = some (.int .i64 0) ∧ w'.cell? ⟨gA, k * 12 + 3 + 3, none⟩ = some (.int .u64 0) ∧ w'.cell? ⟨gA, k * 12 + 3 + 4, none⟩ = some (.int .u64 0) ∧ w'.cell? ⟨gA, k * 12 + 3 + 5, none⟩ = some (.slice none 0 0) ∧ w'.cell? ⟨gA, k * 12 + 9, none⟩ = some (.int .u64 0) ∧ w'.cell? ⟨gA, k * 12 + 9 + 1, none⟩ = some (.bool false) ∧ w'.cell? ⟨gA, k * 12 + 9 + 2, none⟩ = some (.slice none 0 0) ∧ w'.cell? ⟨gB, k * 12, none⟩ = some (.int .i64 0) ∧ w'.cell? ⟨gB, k * 12 + 1, none⟩ = some (.int .i64 x) ∧ w'.cell? ⟨gB, k * 12 + 2, none⟩ = some (.int .i64 0) ∧ w'.cell? ⟨gB, k * 12 + 3, none⟩ = some (.int .i64 0) ∧ w'.cell? ⟨gB, k * 12 + 3 + 1, none⟩ = some (.int .i64 0) ∧ w'.cell? ⟨gB, k * 12 + 3 + 2, none⟩ = some (.int .i64 0) ∧ w'.cell? ⟨gB, k * 12 + 3 + 3, none⟩ = some (.int .u64 0) ∧ w'.cell? ⟨gB, k * 12 + 3 + 4, none⟩ = some (.int .u64 0) ∧ w'.cell? ⟨gB, k * 12 + 3 + 5, none⟩ = some (.slice none 0 0) ∧ w'.cell? ⟨gB, k * 12 + 9, none⟩ = some (.int .u64 0) ∧ w'.cell? ⟨gB, k * 12 + 9 + 1, none⟩ = some (.bool false) ∧ w'.cell? ⟨gB, k * 12 + 9 + 2, none⟩ = some (.slice none 0 0))
        (first | go_keep | exact ⟨dA0, dA1, dA2, dA3, dA4, dA5, dA6, dA7, dA8, dA9, dA10, dA11, dB0, dB1, dB2, dB3, dB4, dB5, dB6, dB7, dB8, dB9, dB10, dB11⟩)
        (first
          | (go_at_call 45; refine (acc_same _).mono ?_; rintro e w2 ⟨rfl, hb2⟩; have gA2 := Nat.lt_of_lt_of_le hgA hb2.size; have gB2 := Nat.lt_of_lt_of_le hgB hb2.size; have dA0 : w2.cell? ⟨gA, k * 12, none⟩ = some (.int .i64 0) := (hb2.cell (p := ⟨gA, _, none⟩) (by first | assumption | (simp; done) | (simp; omega))).trans (by assumption); have dA1 : w2.cell? ⟨gA, k * 12 + 1, none⟩ = some (.int .i64 x) := (hb2.cell (p := ⟨gA, _, none⟩) (by first | assumption | (simp; done) | (simp; omega))).trans (by assumption); have dA2 : w2.cell? ⟨gA, k * 12 + 2, none⟩ = some (.int .i64 0) := (hb2.cell (p := ⟨gA, _, none⟩) (by first | assumption | (simp; done) | (simp; omega))).trans (by assumption); have dA3 : w2.cell? ⟨gA, k * 12 + 3, none⟩ = some (.int .i64 0) := (hb2.cell (p := ⟨gA, _, none⟩) (by first | assumption | (simp; done) | (simp; omega))).trans (by assumption); have dA4 : w2.cell? ⟨gA, k * 12 + 3 + 1, none⟩ = some (.int .i64 0) := (hb2.cell (p := ⟨gA, _, none⟩) (by first | assumption | (simp; done) | (simp; omega))).trans (by assumption); have dA5 : w2.cell? ⟨gA, k * 12 + 3 + 2, none⟩ = some (.int .i64 0) := (hb2.cell (p := ⟨gA, _, none⟩) (by first | assumption | (simp; done) | (simp; omega))).trans (by assumption); have dA6 : w2.cell? ⟨gA, k * 12 + 3 + 3, none⟩ = some (.int .u64 0) := (hb2.cell (p := ⟨gA, _, none⟩) (by first | assumption | (simp; done) | (simp; omega))).trans (by assumption); have dA7 : w2.cell? ⟨gA, k * 12 + 3 + 4, none⟩ = some (.int .u64 0) := (hb2.cell (p := ⟨gA, _, none⟩) (by first | assumption | (simp; done) | (simp; omega))).trans (by assumption); have dA8 : w2.cell? ⟨gA, k * 12 + 3 + 5, none⟩ = some (.slice none 0 0) := (hb2.cell (p := ⟨gA, _, none⟩) (by first | assumption | (simp; done) | (simp; omega))).trans (by assumption); have dA9 : w2.cell? ⟨gA, k * 12 + 9, none⟩ = some (.int .u64 0) := (hb2.cell (p := ⟨gA, _, none⟩) (by first | assumption | (simp; done) | (simp; omega))).trans (by assumption); have dA10 : w2.cell? ⟨gA, k * 12 + 9 + 1, none⟩ = some (.bool false) := (hb2.cell (p := ⟨gA, _, none⟩) (by first | assumption | (simp; done) | (simp; omega))).trans (by assumption); have dA11 : w2.cell? ⟨gA, k * 12 + 9 + 2, none⟩ = some (.slice none 0 0) := (hb2.cell (p := ⟨gA, _, none⟩) (by first | assumption | (simp; done) | (simp; omega))).trans (by assumption); have dB0 : w2.cell? ⟨gB, k * 12, none⟩ = some (.int .i64 0) := (hb2.cell (p := ⟨gB, _, none⟩) (by first | assumption | (simp; done) | (simp; omega))).trans (by assumption); have dB1 : w2.cell? ⟨gB, k * 12 + 1, none⟩ = some (.int .i64 x) := (hb2.cell (p := ⟨gB, _, none⟩) (by first | assumption | (simp; done) | (simp; omega))).trans (by assumption); have dB2 : w2.cell? ⟨gB, k * 12 + 2, none⟩ = some (.int .i64 0) := (hb2.cell (p := ⟨gB, _, none⟩) (by first | assumption | (simp; done) | (simp; omega))).trans (by assumption); have dB3 : w2.cell? ⟨gB, k * 12 + 3, none⟩ = some (.int .i64 0) := (hb2.cell (p := ⟨gB, _, none⟩) (by first | assumption | (simp; done) | (simp; omega))).trans (by assumption); have dB4 : w2.cell? ⟨gB, k * 12 + 3 + 1, none⟩ = some (.int .i64 0) := (hb2.cell (p := ⟨gB, _, none⟩) (by first | assumption | (simp; done) | (simp; omega))).trans (by assumption); have dB5 : w2.cell? ⟨gB, k * 12 + 3 + 2, none⟩ = some (.int .i64 0) := (hb2.cell (p := ⟨gB, _, none⟩) (by first | assumption | (simp; done) | (simp; omega))).trans (by assumption); have dB6 : w2.cell? ⟨gB, k * 12 + 3 + 3, none⟩ = some (.int .u64 0) := (hb2.cell (p := ⟨gB, _, none⟩) (by first | assumption | (simp; done) | (simp; omega))).trans (by assumption); have dB7 : w2.cell? ⟨gB, k * 12 + 3 + 4, none⟩ = some (.int .u64 0) := (hb2.cell (p := ⟨gB, _, none⟩) (by first | assumption | (simp; done) | (simp; omega))).trans (by assumption); have dB8 : w2.cell? ⟨gB, k * 12 + 3 + 5, none⟩ = some (.slice none 0 0) := (hb2.cell (p := ⟨gB, _, none⟩) (by first | assumption | (simp; done) | (simp; omega))).trans (by assumption); have dB9 : w2.cell? ⟨gB, k * 12 + 9, none⟩ = some (.int .u64 0) := (hb2.cell (p := ⟨gB, _, none⟩) (by first | assumption | (simp; done) | (simp; omega))).trans (by assumption); have dB10 : w2.cell? ⟨gB, k * 12 + 9 + 1, none⟩ = some (.bool false) := (hb2.cell (p := ⟨gB, _, none⟩) (by first | assumption | (simp; done) | (simp; omega))).trans (by assumption); have dB11 : w2.cell? ⟨gB, k * 12 + 9 + 2, none⟩ = some (.slice none 0 0) := (hb2.cell (p := ⟨gB, _, none⟩) (by first | assumption | (simp; done) | (simp; omega))).trans (by assumption))
          | (go_at_call 46; refine (ans_same _).mono ?_; rintro e w3 ⟨rfl, hb3⟩; have dA0 : w3.cell? ⟨gA, k * 12, none⟩ = some (.int .i64 0) := (hb3.cell (p := ⟨gA, _, none⟩) (by first | assumption | (simp; done) | (simp; omega))).trans (by assumption); have dA1 : w3.cell? ⟨gA, k * 12 + 1, none⟩ = some (.int .i64 x) := (hb3.cell (p := ⟨gA, _, none⟩) (by first | assumption | (simp; done) | (simp; omega))).trans (by assumption); have dA2 : w3.cell? ⟨gA, k * 12 + 2, none⟩ = some (.int .i64 0) := (hb3.cell (p := ⟨gA, _, none⟩) (by first | assumption | (simp; done) | (simp; omega))).trans (by assumption); have dA3 : w3.cell? ⟨gA, k * 12 + 3, none⟩ = some (.int .i64 0) := (hb3.cell (p := ⟨gA, _, none⟩) (by first | assumption | (simp; done) | (simp; omega))).trans (by assumption); have dA4 : w3.cell? ⟨gA, k * 12 + 3 + 1, none⟩ = some (.int .i64 0) := (hb3.cell (p := ⟨gA, _, none⟩) (by first | assumption | (simp; done) | (simp; omega))).trans (by assumption); have dA5 : w3.cell? ⟨gA, k * 12 + 3 + 2, none⟩ = some (.int .i64 0) := (hb3.cell (p := ⟨gA, _, none⟩) (by first | assumption | (simp; done) | (simp; omega))).trans (by assumption); have dA6 : w3.cell? ⟨gA, k * 12 + 3 + 3, none⟩ = some (.int .u64 0) := (hb3.cell (p := ⟨gA, _, none⟩) (by first | assumption | (simp; done) | (simp; omega))).trans (by assumption); have dA7 : w3.cell? ⟨gA, k * 12 + 3 + 4, none⟩ = some (.int .u64 0) := (hb3.cell (p := ⟨gA, _, none⟩) (by first | assumption | (simp; done) | (simp; omega))).trans (by assumption); have dA8 : w3.cell? ⟨gA, k * 12 + 3 + 5, none⟩ = some (.slice none 0 0) := (hb3.cell (p := ⟨gA, _, none⟩) (by first | assumption | (simp; done) | (simp; omega))).trans (by assumption); have dA9 : w3.cell? ⟨gA, k * 12 + 9, none⟩ = some (.int .u64 0) := (hb3.cell (p := ⟨gA, _, none⟩) (by first | assumption | (simp; done) | (simp; omega))).trans (by assumption); have dA10 : w3.cell? ⟨gA, k * 12 + 9 + 1, none⟩ = some (.bool false) := (hb3.cell (p := ⟨gA, _, none⟩) (by first | assumption | (simp; done) | (simp; omega))).trans (by assumption); have dA11 : w3.cell? ⟨gA, k * 12 + 9 + 2, none⟩ = some (.slice none 0 0) := (hb3.cell (p := ⟨gA, _, none⟩) (by first | assumption | (simp; done) | (simp; omega))).trans (by assumption); have dB0 : w3.cell? ⟨gB, k * 12, none⟩ = some (.int .i64 0) := (hb3.cell (p := ⟨gB, _, none⟩) (by first | assumption | (simp; done) | (simp; omega))).trans (by assumption); have dB1 : w3.cell? ⟨gB, k * 12 + 1, none⟩ = some (.int .i64 x) := (hb3.cell (p := ⟨gB, _, none⟩) (by first | assumption | (simp; done) | (simp; omega))).trans (by assumption); have dB2 : w3.cell? ⟨gB, k * 12 + 2, none⟩ = some (.int .i64 0) := (hb3.cell (p := ⟨gB, _, none⟩) (by first | assumption | (simp; done) | (simp; omega))).trans (by assumption); have dB3 : w3.cell? ⟨gB, k * 12 + 3, none⟩ = some (.int .i64 0) := (hb3.cell (p := ⟨gB, _, none⟩) (by first | assumption | (simp; done) | (simp; omega))).trans (by assumption); have dB4 : w3.cell? ⟨gB, k * 12 + 3 + 1, none⟩ = some (.int .i64 0) := (hb3.cell (p := ⟨gB, _, none⟩) (by first | assumption | (simp; done) | (simp; omega))).trans (by assumption); have dB5 : w3.cell? ⟨gB, k * 12 + 3 + 2, none⟩ = some (.int .i64 0) := (hb3.cell (p := ⟨gB, _, none⟩) (by first | assumption | (simp; done) | (simp; omega))).trans (by assumption); have dB6 : w3.cell? ⟨gB, k * 12 + 3 + 3, none⟩ = some (.int .u64 0) := (hb3.cell (p := ⟨gB, _, none⟩) (by first | assumption | (simp; done) | (simp; omega))).trans (by assumption); have dB7 : w3.cell? ⟨gB, k * 12 + 3 + 4, none⟩ = some (.int .u64 0) := (hb3.cell (p := ⟨gB, _, none⟩) (by first | assumption | (simp; done) | (simp; omega))).trans (by assumption); have dB8 : w3.cell? ⟨gB, k * 12 + 3 + 5, none⟩ = some (.slice none 0 0) := (hb3.cell (p := ⟨gB, _, none⟩) (by first | assumption | (simp; done) | (simp; omega))).trans (by assumption); have dB9 : w3.cell? ⟨gB, k * 12 + 9, none⟩ = some (.int .u64 0) := (hb3.cell (p := ⟨gB, _, none⟩) (by first | assumption | (simp; done) | (simp; omega))).trans (by assumption); have dB10 : w3.cell? ⟨gB, k * 12 + 9 + 1, none⟩ = some (.bool false) := (hb3.cell (p := ⟨gB, _, none⟩) (by first | assumption | (simp; done) | (simp; omega))).trans (by assumption); have dB11 : w3.cell? ⟨gB, k * 12 + 9 + 2, none⟩ = some (.slice none 0 0) := (hb3.cell (p := ⟨gB, _, none⟩) (by first | assumption | (simp; done) | (simp; omega))).trans (by assumption)))
      all_goals
        have HE3 : Hid (Ev2 w w3 gA gB zs) := Lib.hid (HE.out.on (((Below.refl _ wr).drew).trans (hb2.trans (hb3.mono hb2.size))))
        try simp only [List.getElem_toArray, List.getElem_cons_succ, List.getElem_cons_zero, List.set_cons_succ, List.set_cons_zero, List.setIfInBounds_toArray]
        clear dA0 dA1 dA2 dA3 dA4 dA5 dA6 dA7 dA8 dA9 dA10 dA11 dB0 dB1 dB2 dB3 dB4 dB5 dB6 dB7 dB8 dB9 dB10 dB11
        go_wp2
        go_roundw
        case rel => exact ⟨k + 1, by omega, by go_num, HE3⟩
        case measure => simp [intOf]; omega
    · obtain rfl : k = zs.length := by omega
      go_wp2
      go_ret
      exact ⟨rfl, HE.out.below⟩

end Go.Proofs.Ytfahnjicinpahaa
