/- word.IsPower's contract. -/
import Derived.Test.YtkmiijmoejcjgaaGreatProg
import Derived.Test.YtkmiijmoejcjgaaGreatMath
import Derived.Lib.Hide
namespace Go.Proofs.YtkmiijmoejcjgaaGreat
open Go.RowKit
set_option linter.unusedVariables false

theorem ret2_int {k : IntKind} {a b : Int} {c d : Bool} (h : a = b) (g : c = d) : Ending.returned (.tuple #[.int k a, .bool c]) = .returned (.tuple #[.int k b, .bool d]) := by rw [h, g]
theorem ret_int {k : IntKind} {a b : Int} (h : a = b) : Ending.returned (.int k a) = .returned (.int k b) := by rw [h]

theorem isPower_any (n : Int) (w : World) (h1 : -9223372036854775808 ≤ n) (h2 : n ≤ 9223372036854775807) :
    Calls Tryz.prog 32 #[.int .i64 n] w fun e w' => e = .returned (.bool (isP n)) ∧ w = w' := by
  by_cases h : 0 < n
  · go_enter Tryz.func32, Tryz.ntmps32
    go_wp2
    go_ret
    exact ⟨by simp [isP, h], rfl⟩
  · have hf : isP n = false := by simp [isP, h]
    have HF := Lib.hid hf
    clear hf
    go_enter Tryz.func32, Tryz.ntmps32
    go_wp2
    go_ret
    exact ⟨by rw [HF.out]; rfl, rfl⟩

end Go.Proofs.YtkmiijmoejcjgaaGreat
