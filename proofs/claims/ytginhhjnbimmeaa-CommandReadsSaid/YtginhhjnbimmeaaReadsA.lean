/- CommandReads: some of its cases, reckoned by the kernel. -/
import Derived.Test.YtginhhjnbimmeaaReadsDefs
namespace Go.Proofs.Ytginhhjnbimmeaa.reads
open Go.X Go.RowKit Go.Proofs.Ytginhhjnbimmeaa.rk
set_option linter.unusedVariables false
set_option linter.unusedSimpArgs false

theorem r0 : DT.goodS cfg34 60 4 [vsv Path.zero 0 32 0 0] (rowSt 32) .run (⟨.lss, (.leaf 36), (.lit 0), true⟩ :: ⟨.eql, (.leaf 32), (.lit 1), true⟩ :: ⟨.lss, (.leaf 37), (.lit 1), true⟩ :: told pairs) = true := by kernel_rfl
theorem r1 : DT.goodS cfg34 60 4 [vsv Path.zero 0 32 0 0] (rowSt 32) .run (⟨.lss, (.leaf 36), (.lit 0), false⟩ :: ⟨.eql, (.leaf 32), (.lit 1), true⟩ :: ⟨.lss, (.leaf 37), (.lit 1), true⟩ :: told pairs) = true := by kernel_rfl
theorem r2 : DT.goodS cfg34 60 4 [vsv Path.zero 0 32 0 0] (rowSt 32) .run (⟨.lss, (.leaf 36), (.lit 0), true⟩ :: ⟨.eql, (.leaf 32), (.lit 2), true⟩ :: ⟨.eql, (.leaf 32), (.lit 1), false⟩ :: ⟨.lss, (.leaf 37), (.lit 1), true⟩ :: told pairs) = true := by kernel_rfl
theorem r3 : DT.goodS cfg34 60 4 [vsv Path.zero 0 32 0 0] (rowSt 32) .run (⟨.lss, (.leaf 36), (.lit 0), false⟩ :: ⟨.eql, (.leaf 32), (.lit 2), true⟩ :: ⟨.eql, (.leaf 32), (.lit 1), false⟩ :: ⟨.lss, (.leaf 37), (.lit 1), true⟩ :: told pairs) = true := by kernel_rfl
theorem r4 : DT.goodS cfg34 60 4 [vsv Path.zero 0 32 0 0] (rowSt 32) .run (⟨.lss, (.leaf 36), (.lit 0), true⟩ :: ⟨.eql, (.leaf 32), (.lit 3), true⟩ :: ⟨.eql, (.leaf 32), (.lit 2), false⟩ :: ⟨.eql, (.leaf 32), (.lit 1), false⟩ :: ⟨.lss, (.leaf 37), (.lit 1), true⟩ :: told pairs) = true := by kernel_rfl
theorem r5 : DT.goodS cfg34 60 4 [vsv Path.zero 0 32 0 0] (rowSt 32) .run (⟨.lss, (.leaf 36), (.lit 0), false⟩ :: ⟨.eql, (.leaf 32), (.lit 3), true⟩ :: ⟨.eql, (.leaf 32), (.lit 2), false⟩ :: ⟨.eql, (.leaf 32), (.lit 1), false⟩ :: ⟨.lss, (.leaf 37), (.lit 1), true⟩ :: told pairs) = true := by kernel_rfl
theorem r6 : DT.goodS cfg34 60 4 [vsv Path.zero 0 32 0 0] (rowSt 32) .run (⟨.lss, (.leaf 36), (.lit 0), true⟩ :: ⟨.eql, (.leaf 32), (.lit 5), true⟩ :: ⟨.eql, (.leaf 32), (.lit 3), false⟩ :: ⟨.eql, (.leaf 32), (.lit 2), false⟩ :: ⟨.eql, (.leaf 32), (.lit 1), false⟩ :: ⟨.lss, (.leaf 37), (.lit 1), true⟩ :: told pairs) = true := by kernel_rfl
theorem r7 : DT.goodS cfg34 60 4 [vsv Path.zero 0 32 0 0] (rowSt 32) .run (⟨.lss, (.leaf 36), (.lit 0), false⟩ :: ⟨.eql, (.leaf 32), (.lit 5), true⟩ :: ⟨.eql, (.leaf 32), (.lit 3), false⟩ :: ⟨.eql, (.leaf 32), (.lit 2), false⟩ :: ⟨.eql, (.leaf 32), (.lit 1), false⟩ :: ⟨.lss, (.leaf 37), (.lit 1), true⟩ :: told pairs) = true := by kernel_rfl
theorem r8 : DT.goodS cfg34 60 4 [vsv Path.zero 0 32 0 0] (rowSt 32) .run (⟨.lss, (.leaf 36), (.lit 0), true⟩ :: ⟨.eql, (.leaf 32), (.lit 4), true⟩ :: ⟨.eql, (.leaf 32), (.lit 5), false⟩ :: ⟨.eql, (.leaf 32), (.lit 3), false⟩ :: ⟨.eql, (.leaf 32), (.lit 2), false⟩ :: ⟨.eql, (.leaf 32), (.lit 1), false⟩ :: ⟨.lss, (.leaf 37), (.lit 1), true⟩ :: told pairs) = true := by kernel_rfl
theorem r9 : DT.goodS cfg34 60 4 [vsv Path.zero 0 32 0 0] (rowSt 32) .run (⟨.lss, (.leaf 36), (.lit 0), false⟩ :: ⟨.eql, (.leaf 32), (.lit 4), true⟩ :: ⟨.eql, (.leaf 32), (.lit 5), false⟩ :: ⟨.eql, (.leaf 32), (.lit 3), false⟩ :: ⟨.eql, (.leaf 32), (.lit 2), false⟩ :: ⟨.eql, (.leaf 32), (.lit 1), false⟩ :: ⟨.lss, (.leaf 37), (.lit 1), true⟩ :: told pairs) = true := by kernel_rfl
theorem r10 : DT.goodS cfg34 60 4 [vsv Path.zero 0 32 0 0] (rowSt 32) .run (⟨.lss, (.leaf 36), (.lit 0), true⟩ :: ⟨.eql, (.leaf 32), (.lit 6), true⟩ :: ⟨.eql, (.leaf 32), (.lit 4), false⟩ :: ⟨.eql, (.leaf 32), (.lit 5), false⟩ :: ⟨.eql, (.leaf 32), (.lit 3), false⟩ :: ⟨.eql, (.leaf 32), (.lit 2), false⟩ :: ⟨.eql, (.leaf 32), (.lit 1), false⟩ :: ⟨.lss, (.leaf 37), (.lit 1), true⟩ :: told pairs) = true := by kernel_rfl
theorem r11 : DT.goodS cfg34 60 4 [vsv Path.zero 0 32 0 0] (rowSt 32) .run (⟨.lss, (.leaf 36), (.lit 0), false⟩ :: ⟨.eql, (.leaf 32), (.lit 6), true⟩ :: ⟨.eql, (.leaf 32), (.lit 4), false⟩ :: ⟨.eql, (.leaf 32), (.lit 5), false⟩ :: ⟨.eql, (.leaf 32), (.lit 3), false⟩ :: ⟨.eql, (.leaf 32), (.lit 2), false⟩ :: ⟨.eql, (.leaf 32), (.lit 1), false⟩ :: ⟨.lss, (.leaf 37), (.lit 1), true⟩ :: told pairs) = true := by kernel_rfl

end Go.Proofs.Ytginhhjnbimmeaa.reads
