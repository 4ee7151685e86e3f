/- CommandAnswers: what its cases are made of. -/
import Derived.Test.YtgoempphfnagnaaKit
import Derived.Test.YtgoempphfnagnaaRk34
namespace Go.Proofs.Ytgoempphfnagnaa.ans
open Go.X Go.RowKit Go.Proofs.Ytgoempphfnagnaa.rk
set_option linter.unusedVariables false
set_option linter.unusedSimpArgs false

def args : List V := [vagg [vx 2 (.leaf 0), vx 2 (.leaf 1), vx 2 (.leaf 2), vx 2 (.leaf 3), vx 3 (.leaf 4), vx 3 (.leaf 5)], vx 3 (.leaf 6), vagg [vx 2 (.leaf 7), vx 2 (.leaf 8), vx 2 (.leaf 9), vx 2 (.leaf 10), vx 3 (.leaf 11), vx 3 (.leaf 12)]]

theorem good_split {c : Cfg} {n : Nat} {f : FuncId} {l : List V} {op : BinOp} {a b : IE} {t e : DT} {fs : List Fact} (hs : (cmpB op).isSome = true) (h1 : t.good c n f l (⟨op, a, b, true⟩ :: fs) = true) (h2 : e.good c n f l (⟨op, a, b, false⟩ :: fs) = true) :
    (DT.split op a b t e).good c n f l fs = true := band_true.2 ⟨hs, band_true.2 ⟨h1, h2⟩⟩
theorem dead_split {L : Nat → Value} {op : BinOp} {a b : IE} {t e : DT} {fs : List Fact} (h1 : ∀ gs ∈ t.deads (⟨op, a, b, true⟩ :: fs), ¬ FactsOk L gs) (h2 : ∀ gs ∈ e.deads (⟨op, a, b, false⟩ :: fs), ¬ FactsOk L gs) :
    ∀ gs ∈ (DT.split op a b t e).deads fs, ¬ FactsOk L gs := fun gs hg => by
  rcases List.mem_append.1 (show gs ∈ t.deads (⟨op, a, b, true⟩ :: fs) ++ e.deads (⟨op, a, b, false⟩ :: fs) from hg) with h | h
  · exact h1 gs h
  · exact h2 gs h
theorem dead_one {L : Nat → Value} {fs : List Fact} (h : ¬ allSay L fs) : ∀ gs ∈ DT.dead.deads fs, ¬ FactsOk L gs := fun gs hg hF => by
  obtain rfl : gs = fs := by simpa [DT.deads] using hg
  exact h (allSay_of hF)

end Go.Proofs.Ytgoempphfnagnaa.ans
