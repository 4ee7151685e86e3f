/- Counts of terms: the program's and the document's. -/
import Derived.Test.YtmcelbemhklhaaaPlaceMath
import Derived.Test.YtmcelbemhklhaaaProg
import Derived.Lib.Hide
namespace Go.Proofs.Ytmcelbemhklhaaa
open Go.RowKit
set_option linter.unusedVariables false

theorem count_any (t i : Int) (w : World) :
    Calls Try.prog 15 #[.int .i32 t, .int .i32 i] w fun e w' => e = .returned (.int .u32 (cntI t i)) ∧ w = w' := by
  have h : IntKind.u32.wrap (IntKind.u32.wrap t - IntKind.u32.wrap i) = cntI t i := by
    simp only [IntKind.wrap_u32, cntI]; omega
  have H := Lib.hid h
  clear h
  go_enter Try.func15, Try.ntmps15
  go_wp2
  go_ret
  exact ⟨by rw [← H.out]; rfl, rfl⟩

theorem rcount_any (t i : Int) (w : World) (h1 : -2147483648 ≤ t) (h2 : t ≤ 2147483647) (h3 : -2147483648 ≤ i) (h4 : i ≤ 2147483647) :
    Calls Try.prog 23 #[.int .i32 t, .int .i32 i] w fun e w' => e = .returned (.int .u32 (cntI t i)) ∧ w = w' := by
  by_cases h : t - i < 0
  · have H := Lib.hid (show cntI t i = t - i + 4294967296 by unfold cntI; omega)
    go_enter Try.func23, Try.ntmps23
    go_wp2
    go_ret
    exact ⟨by rw [H.out]; rfl, rfl⟩
  · have H := Lib.hid (show cntI t i = t - i by unfold cntI; omega)
    go_enter Try.func23, Try.ntmps23
    go_wp2
    go_ret
    exact ⟨by rw [H.out]; rfl, rfl⟩

end Go.Proofs.Ytmcelbemhklhaaa
