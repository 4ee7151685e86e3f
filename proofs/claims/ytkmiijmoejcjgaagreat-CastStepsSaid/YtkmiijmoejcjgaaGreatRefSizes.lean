/- The document's sizes of records and frames. -/
import Derived.Test.YtkmiijmoejcjgaaGreatRefAlign
import Derived.Test.YtkmiijmoejcjgaaGreatHead
namespace Go.Proofs.YtkmiijmoejcjgaaGreat
open Go.RowKit
set_option linter.unusedVariables false

set_option maxRecDepth 100000 in
theorem rsize_any (n h a : Int) (w : World) (h0 : 0 ≤ h) (h1 : h ≤ 32) (ha : isP a = true) (ha1 : a ≤ 9223372036854775807) :
    Calls Tryz.prog 70 #[.int .i64 n, .int .i64 h, .int .i64 a] w fun e w' => e = .returned (.tuple #[.int .i64 (szI n h a), .int .i64 (szE n)]) ∧ w = w' := by
  have hapos := isP_pos ha
  cases hb : szB n with
  | true =>
    obtain ⟨g0, g1⟩ := szB_yes hb
    obtain ⟨e1, e2⟩ := sz_yes (h := h) (a := a) hb
    have e3 := sz_al hb h0 h1 ha
    have halb : alB (n + h) a = true := by unfold alB; rw [ha]; simp; omega
    obtain ⟨_, _, f1, f2, _⟩ := al_facts (n + h) a ha1 halb
    have H1 := Lib.hid e1
    have H2 := Lib.hid (e2.trans e3.symm)
    clear hb e1 e2 e3 ha halb
    go_enter Tryz.func70, Tryz.ntmps70
    go_wp2_with (go_at_call 83; refine (ralign_any _ _ _ (by omega) (by omega) (by omega) (by omega)).mono ?_; rintro e w' ⟨rfl, rfl⟩)
    go_ret2
    exact ⟨by rw [H1.out, H2.out]; rfl, rfl⟩
  | false =>
    have hn := szB_no hb
    obtain ⟨e1, e2⟩ := sz_no (h := h) (a := a) hb
    have H1 := Lib.hid e1
    have H2 := Lib.hid e2
    clear hb e1 e2 ha
    rcases hn with hn | ⟨hn, hn2⟩
    all_goals
      go_enter Tryz.func70, Tryz.ntmps70
      go_wp2
      go_ret2
      exact ⟨by rw [H1.out, H2.out]; rfl, rfl⟩

set_option maxRecDepth 100000 in
theorem rrecordSize_any (n : Int) (w : World) :
    Calls Tryz.prog 43 #[.int .i64 n] w fun e w' => e = .returned (.tuple #[.int .i64 (szI n 8 8), .int .i64 (szE n)]) ∧ w = w' := by
  go_enter Tryz.func43, Tryz.ntmps43
  go_wp2_with (go_at_call 70; refine (rsize_any _ _ _ _ (by decide) (by decide) (by decide +kernel) (by decide)).mono ?_; rintro e w' ⟨rfl, rfl⟩)
  go_ret2
  exact ⟨rfl, rfl⟩

end Go.Proofs.YtkmiijmoejcjgaaGreat
