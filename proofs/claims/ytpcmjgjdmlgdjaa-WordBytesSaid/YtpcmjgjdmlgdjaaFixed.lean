/- The fixed calls at the head of layer 1's statements, all true. -/
import Derived.Test.YtpcmjgjdmlgdjaaBytes
import Derived.Laws.IdiomStrings
namespace Go.Proofs.Ytpcmjgjdmlgdjaa
open Go.RowKit
set_option linter.unusedVariables false

def toU8 (l : List Int) : List UInt8 := l.map fun n => UInt8.ofNat n.toNat
def toBytes (l : List Int) : ByteArray := ⟨(toU8 l).toArray⟩

theorem toU8_int (l : List Int) (hr : ∀ n ∈ l, 0 ≤ n ∧ n < 256) (j : Nat) (hj : j < (toU8 l).length) : (l.map (Value.int .u8))[j]? = some (.int .u8 ((toU8 l)[j].toNat : Int)) := by
  have hj' : j < l.length := by simpa [toU8] using hj
  have h := hr l[j] (List.getElem_mem hj')
  simp only [List.getElem?_map, List.getElem?_eq_getElem hj', Option.map_some, toU8, List.getElem_map, Option.some.injEq, Value.int.injEq, true_and]
  rw [UInt8.toNat_ofNat']
  omega

theorem conv_bytes {w : World} {base : Nat} {s : Value} {l : List Int} (h : ownsBytes w base s l) (hr : ∀ n ∈ l, 0 ≤ n ∧ n < 256) :
    (convert 32 9 s).run Try.prog w = .ok (.string (toBytes l)) w := by
  rcases h.2 with ⟨hv, hn⟩ | ⟨g, cap, cur, hv, hb, hg, hnc, hcm, hcs, htk⟩
  · have hl : l = [] := List.eq_nil_of_length_eq_zero hn
    subst hl hv
    rw [run_convert_bytes_string w 32 9 5 none 0 0 Try.underlying32 Try.underlying5 Try.underlying9]
    simp [Conv.bytesToString, toBytes]
    rfl
  · have hlen : l.length = (toU8 l).length := by simp [toU8]
    have key := run_convert_bytes_back (P := Try.prog) w 32 9 5 ⟨g, 0, none⟩ cap (toU8 l) Try.underlying32 Try.underlying5 Try.underlying9 (by
      intro j hj
      rw [← toU8_int l hr j hj]
      have hadd : (⟨g, 0, none⟩ : Addr).add j = ⟨g, j, none⟩ := by unfold Addr.add; split <;> simp_all
      rw [hadd]
      subst hv
      exact World.ownsRow.cellAt h j (by omega))
    rw [← hlen] at key
    rw [hv]
    exact key

theorem fixed_true (w : World) : Calls Try.prog 7 #[] w fun e w' => e = .returned (.bool true) ∧ Below w.heap.size w w' := by
  have a1 : alI 33 32 = 64 := by decide +kernel
  have a2 : alE 33 32 = 0 := by decide +kernel
  have a3 : alE 1 3 = 1 := by decide +kernel
  have a4 : lgI 8 = 3 := by decide +kernel
  have a5 : isP 8 = true := by decide +kernel
  have a6 : mkI (-1) 8 = 7 := by decide +kernel
  have a7 : (toBytes (byteL 258 2)).toList = [2, 1] := by decide +kernel
  go_enter Try.func7, Try.ntmps7
  go_wp2_with (first | (go_at_call 14; refine (align_any _ _ _ (by decide) (by decide) (by decide) (by decide)).mono ?_; rintro e w' ⟨rfl, rfl⟩) | (go_at_call 8; refine (log2_any _ _ (by decide) (by decide)).mono ?_; rintro e w' ⟨rfl, rfl⟩) | (go_at_call 12; refine (mask_any _ _ _ (by decide) (by decide) (by decide) (by decide)).mono ?_; rintro e w' ⟨rfl, rfl⟩) | (go_at_call 16; refine (bytes_any _ _ _ (by decide) (by decide)).mono ?_; rintro e w1 ⟨s, rfl, ho, hb⟩; have hcv := conv_bytes ho (by decide +kernel)))
  go_ret
  exact ⟨rfl, by assumption⟩

end Go.Proofs.Ytpcmjgjdmlgdjaa
