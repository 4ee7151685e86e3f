/- CommandAnswers: some of its cases, reckoned by the kernel. -/
import Derived.Test.YtgoempphfnagnaaAnsDefs
namespace Go.Proofs.Ytgoempphfnagnaa.ans
open Go.X Go.RowKit Go.Proofs.Ytgoempphfnagnaa.rk
set_option linter.unusedVariables false
set_option linter.unusedSimpArgs false

def sub28 : DT := (.split .lss (.leaf 0) (.lit 1) .run (.split .lss (.lit 6) (.leaf 0) .run (.split .lss (.leaf 4) (.lit 0) .run (.split .lss (.leaf 5) (.lit 1) .run (.split .eql (.leaf 0) (.lit 6) (.split .lss (.leaf 3) (.lit 1) .run (.split .lss (.lit 255) (.leaf 3) .run .run)) (.split .eql (.leaf 0) (.lit 4) (.split .eql (.leaf 1) (.lit 0) (.split .eql (.leaf 2) (.lit 0) (.split .eql (.leaf 4) (.lit 0) (.split .eql (.leaf 3) (.lit 0) .run .run) .run) .run) .run) (.split .eql (.leaf 3) (.lit 0) .run .run)))))))
def fs28 : List Fact := [⟨.eql, (.leaf 12), (.leaf 5), true⟩, ⟨.eql, (.leaf 11), (.leaf 4), true⟩, ⟨.eql, (.leaf 7), (.lit 5), true⟩, ⟨.eql, (.conv .i32 (.leaf 6)), (.lit 255), true⟩, ⟨.lss, (.lit 255), (.conv .i32 (.leaf 6)), true⟩, ⟨.lss, (.conv .i32 (.leaf 6)), (.lit 0), false⟩, ⟨.lss, (.lit 256), (.leaf 6), false⟩, ⟨.lss, (.leaf 6), (.lit (-1)), false⟩, ⟨.lss, (.leaf 6), (.lit 255), true⟩, ⟨.lss, (.lit 0), (.leaf 6), true⟩, ⟨.eql, (.leaf 6), (.lit 0), false⟩]
theorem g28 : DT.good cfg34 60 6 args sub28 fs28 = true := by kernel_rfl
theorem n28 : DT.deads sub28 fs28 = [] := by kernel_rfl
theorem s28 (a0_0 a0_1 a0_2 a0_3 a0_4 a0_5 a1 a2_0 a2_1 a2_2 a2_3 a2_4 a2_5 : Int) (w0_0 : (Lit.int .i32 a0_0).wf = true) (w0_1 : (Lit.int .i32 a0_1).wf = true) (w0_2 : (Lit.int .i32 a0_2).wf = true) (w0_3 : (Lit.int .i32 a0_3).wf = true) (w0_4 : (Lit.int .i64 a0_4).wf = true) (w0_5 : (Lit.int .i64 a0_5).wf = true) (w1 : (Lit.int .i64 a1).wf = true) (w2_0 : (Lit.int .i32 a2_0).wf = true) (w2_1 : (Lit.int .i32 a2_1).wf = true) (w2_2 : (Lit.int .i32 a2_2).wf = true) (w2_3 : (Lit.int .i32 a2_3).wf = true) (w2_4 : (Lit.int .i64 a2_4).wf = true) (w2_5 : (Lit.int .i64 a2_5).wf = true) : ∀ gs ∈ DT.deads sub28 fs28, ¬ FactsOk (leaves [.int .i32 a0_0, .int .i32 a0_1, .int .i32 a0_2, .int .i32 a0_3, .int .i64 a0_4, .int .i64 a0_5, .int .i64 a1, .int .i32 a2_0, .int .i32 a2_1, .int .i32 a2_2, .int .i32 a2_3, .int .i64 a2_4, .int .i64 a2_5]) gs := by
  rw [n28]
  intro gs h
  cases h
def sub29 : DT := (.split .lss (.leaf 0) (.lit 1) .run (.split .lss (.lit 6) (.leaf 0) .run (.split .lss (.leaf 4) (.lit 0) .run (.split .lss (.leaf 5) (.lit 1) .run (.split .eql (.leaf 0) (.lit 6) (.split .lss (.leaf 3) (.lit 1) .run (.split .lss (.lit 255) (.leaf 3) .run .run)) (.split .eql (.leaf 0) (.lit 4) (.split .eql (.leaf 1) (.lit 0) (.split .eql (.leaf 2) (.lit 0) (.split .eql (.leaf 4) (.lit 0) (.split .eql (.leaf 3) (.lit 0) .run .run) .run) .run) .run) (.split .eql (.leaf 3) (.lit 0) .run .run)))))))
def fs29 : List Fact := [⟨.eql, (.leaf 12), (.leaf 5), false⟩, ⟨.eql, (.leaf 11), (.leaf 4), true⟩, ⟨.eql, (.leaf 7), (.lit 5), true⟩, ⟨.eql, (.conv .i32 (.leaf 6)), (.lit 255), true⟩, ⟨.lss, (.lit 255), (.conv .i32 (.leaf 6)), true⟩, ⟨.lss, (.conv .i32 (.leaf 6)), (.lit 0), false⟩, ⟨.lss, (.lit 256), (.leaf 6), false⟩, ⟨.lss, (.leaf 6), (.lit (-1)), false⟩, ⟨.lss, (.leaf 6), (.lit 255), true⟩, ⟨.lss, (.lit 0), (.leaf 6), true⟩, ⟨.eql, (.leaf 6), (.lit 0), false⟩]
theorem g29 : DT.good cfg34 60 6 args sub29 fs29 = true := by kernel_rfl
theorem n29 : DT.deads sub29 fs29 = [] := by kernel_rfl
theorem s29 (a0_0 a0_1 a0_2 a0_3 a0_4 a0_5 a1 a2_0 a2_1 a2_2 a2_3 a2_4 a2_5 : Int) (w0_0 : (Lit.int .i32 a0_0).wf = true) (w0_1 : (Lit.int .i32 a0_1).wf = true) (w0_2 : (Lit.int .i32 a0_2).wf = true) (w0_3 : (Lit.int .i32 a0_3).wf = true) (w0_4 : (Lit.int .i64 a0_4).wf = true) (w0_5 : (Lit.int .i64 a0_5).wf = true) (w1 : (Lit.int .i64 a1).wf = true) (w2_0 : (Lit.int .i32 a2_0).wf = true) (w2_1 : (Lit.int .i32 a2_1).wf = true) (w2_2 : (Lit.int .i32 a2_2).wf = true) (w2_3 : (Lit.int .i32 a2_3).wf = true) (w2_4 : (Lit.int .i64 a2_4).wf = true) (w2_5 : (Lit.int .i64 a2_5).wf = true) : ∀ gs ∈ DT.deads sub29 fs29, ¬ FactsOk (leaves [.int .i32 a0_0, .int .i32 a0_1, .int .i32 a0_2, .int .i32 a0_3, .int .i64 a0_4, .int .i64 a0_5, .int .i64 a1, .int .i32 a2_0, .int .i32 a2_1, .int .i32 a2_2, .int .i32 a2_3, .int .i64 a2_4, .int .i64 a2_5]) gs := by
  rw [n29]
  intro gs h
  cases h
def sub30 : DT := (.split .lss (.leaf 0) (.lit 1) .run (.split .lss (.lit 6) (.leaf 0) .run (.split .lss (.leaf 4) (.lit 0) .run (.split .lss (.leaf 5) (.lit 1) .run (.split .eql (.leaf 0) (.lit 6) (.split .lss (.leaf 3) (.lit 1) .run (.split .lss (.lit 255) (.leaf 3) .run .run)) (.split .eql (.leaf 0) (.lit 4) (.split .eql (.leaf 1) (.lit 0) (.split .eql (.leaf 2) (.lit 0) (.split .eql (.leaf 4) (.lit 0) (.split .eql (.leaf 3) (.lit 0) .run .run) .run) .run) .run) (.split .eql (.leaf 3) (.lit 0) .run .run)))))))
def fs30 : List Fact := [⟨.eql, (.leaf 11), (.leaf 4), false⟩, ⟨.eql, (.leaf 7), (.lit 5), true⟩, ⟨.eql, (.conv .i32 (.leaf 6)), (.lit 255), true⟩, ⟨.lss, (.lit 255), (.conv .i32 (.leaf 6)), true⟩, ⟨.lss, (.conv .i32 (.leaf 6)), (.lit 0), false⟩, ⟨.lss, (.lit 256), (.leaf 6), false⟩, ⟨.lss, (.leaf 6), (.lit (-1)), false⟩, ⟨.lss, (.leaf 6), (.lit 255), true⟩, ⟨.lss, (.lit 0), (.leaf 6), true⟩, ⟨.eql, (.leaf 6), (.lit 0), false⟩]
theorem g30 : DT.good cfg34 60 6 args sub30 fs30 = true := by kernel_rfl
theorem n30 : DT.deads sub30 fs30 = [] := by kernel_rfl
theorem s30 (a0_0 a0_1 a0_2 a0_3 a0_4 a0_5 a1 a2_0 a2_1 a2_2 a2_3 a2_4 a2_5 : Int) (w0_0 : (Lit.int .i32 a0_0).wf = true) (w0_1 : (Lit.int .i32 a0_1).wf = true) (w0_2 : (Lit.int .i32 a0_2).wf = true) (w0_3 : (Lit.int .i32 a0_3).wf = true) (w0_4 : (Lit.int .i64 a0_4).wf = true) (w0_5 : (Lit.int .i64 a0_5).wf = true) (w1 : (Lit.int .i64 a1).wf = true) (w2_0 : (Lit.int .i32 a2_0).wf = true) (w2_1 : (Lit.int .i32 a2_1).wf = true) (w2_2 : (Lit.int .i32 a2_2).wf = true) (w2_3 : (Lit.int .i32 a2_3).wf = true) (w2_4 : (Lit.int .i64 a2_4).wf = true) (w2_5 : (Lit.int .i64 a2_5).wf = true) : ∀ gs ∈ DT.deads sub30 fs30, ¬ FactsOk (leaves [.int .i32 a0_0, .int .i32 a0_1, .int .i32 a0_2, .int .i32 a0_3, .int .i64 a0_4, .int .i64 a0_5, .int .i64 a1, .int .i32 a2_0, .int .i32 a2_1, .int .i32 a2_2, .int .i32 a2_3, .int .i64 a2_4, .int .i64 a2_5]) gs := by
  rw [n30]
  intro gs h
  cases h
def sub31 : DT := (.split .lss (.leaf 0) (.lit 1) .run (.split .lss (.lit 6) (.leaf 0) .run (.split .lss (.leaf 4) (.lit 0) .run (.split .lss (.leaf 5) (.lit 1) .run (.split .eql (.leaf 0) (.lit 6) (.split .lss (.leaf 3) (.lit 1) .run (.split .lss (.lit 255) (.leaf 3) .run .run)) (.split .eql (.leaf 0) (.lit 4) (.split .eql (.leaf 1) (.lit 0) (.split .eql (.leaf 2) (.lit 0) (.split .eql (.leaf 4) (.lit 0) (.split .eql (.leaf 3) (.lit 0) .run .run) .run) .run) .run) (.split .eql (.leaf 3) (.lit 0) .run .run)))))))
def fs31 : List Fact := [⟨.eql, (.leaf 12), (.leaf 5), true⟩, ⟨.eql, (.leaf 11), (.leaf 4), true⟩, ⟨.eql, (.leaf 7), (.lit 6), true⟩, ⟨.eql, (.leaf 7), (.lit 5), false⟩, ⟨.eql, (.conv .i32 (.leaf 6)), (.lit 255), true⟩, ⟨.lss, (.lit 255), (.conv .i32 (.leaf 6)), true⟩, ⟨.lss, (.conv .i32 (.leaf 6)), (.lit 0), false⟩, ⟨.lss, (.lit 256), (.leaf 6), false⟩, ⟨.lss, (.leaf 6), (.lit (-1)), false⟩, ⟨.lss, (.leaf 6), (.lit 255), true⟩, ⟨.lss, (.lit 0), (.leaf 6), true⟩, ⟨.eql, (.leaf 6), (.lit 0), false⟩]
theorem g31 : DT.good cfg34 60 6 args sub31 fs31 = true := by kernel_rfl
theorem n31 : DT.deads sub31 fs31 = [] := by kernel_rfl
theorem s31 (a0_0 a0_1 a0_2 a0_3 a0_4 a0_5 a1 a2_0 a2_1 a2_2 a2_3 a2_4 a2_5 : Int) (w0_0 : (Lit.int .i32 a0_0).wf = true) (w0_1 : (Lit.int .i32 a0_1).wf = true) (w0_2 : (Lit.int .i32 a0_2).wf = true) (w0_3 : (Lit.int .i32 a0_3).wf = true) (w0_4 : (Lit.int .i64 a0_4).wf = true) (w0_5 : (Lit.int .i64 a0_5).wf = true) (w1 : (Lit.int .i64 a1).wf = true) (w2_0 : (Lit.int .i32 a2_0).wf = true) (w2_1 : (Lit.int .i32 a2_1).wf = true) (w2_2 : (Lit.int .i32 a2_2).wf = true) (w2_3 : (Lit.int .i32 a2_3).wf = true) (w2_4 : (Lit.int .i64 a2_4).wf = true) (w2_5 : (Lit.int .i64 a2_5).wf = true) : ∀ gs ∈ DT.deads sub31 fs31, ¬ FactsOk (leaves [.int .i32 a0_0, .int .i32 a0_1, .int .i32 a0_2, .int .i32 a0_3, .int .i64 a0_4, .int .i64 a0_5, .int .i64 a1, .int .i32 a2_0, .int .i32 a2_1, .int .i32 a2_2, .int .i32 a2_3, .int .i64 a2_4, .int .i64 a2_5]) gs := by
  rw [n31]
  intro gs h
  cases h
def sub32 : DT := (.split .lss (.leaf 0) (.lit 1) .run (.split .lss (.lit 6) (.leaf 0) .run (.split .lss (.leaf 4) (.lit 0) .run (.split .lss (.leaf 5) (.lit 1) .run (.split .eql (.leaf 0) (.lit 6) (.split .lss (.leaf 3) (.lit 1) .run (.split .lss (.lit 255) (.leaf 3) .run .run)) (.split .eql (.leaf 0) (.lit 4) (.split .eql (.leaf 1) (.lit 0) (.split .eql (.leaf 2) (.lit 0) (.split .eql (.leaf 4) (.lit 0) (.split .eql (.leaf 3) (.lit 0) .run .run) .run) .run) .run) (.split .eql (.leaf 3) (.lit 0) .run .run)))))))
def fs32 : List Fact := [⟨.eql, (.leaf 12), (.leaf 5), false⟩, ⟨.eql, (.leaf 11), (.leaf 4), true⟩, ⟨.eql, (.leaf 7), (.lit 6), true⟩, ⟨.eql, (.leaf 7), (.lit 5), false⟩, ⟨.eql, (.conv .i32 (.leaf 6)), (.lit 255), true⟩, ⟨.lss, (.lit 255), (.conv .i32 (.leaf 6)), true⟩, ⟨.lss, (.conv .i32 (.leaf 6)), (.lit 0), false⟩, ⟨.lss, (.lit 256), (.leaf 6), false⟩, ⟨.lss, (.leaf 6), (.lit (-1)), false⟩, ⟨.lss, (.leaf 6), (.lit 255), true⟩, ⟨.lss, (.lit 0), (.leaf 6), true⟩, ⟨.eql, (.leaf 6), (.lit 0), false⟩]
theorem g32 : DT.good cfg34 60 6 args sub32 fs32 = true := by kernel_rfl
theorem n32 : DT.deads sub32 fs32 = [] := by kernel_rfl
theorem s32 (a0_0 a0_1 a0_2 a0_3 a0_4 a0_5 a1 a2_0 a2_1 a2_2 a2_3 a2_4 a2_5 : Int) (w0_0 : (Lit.int .i32 a0_0).wf = true) (w0_1 : (Lit.int .i32 a0_1).wf = true) (w0_2 : (Lit.int .i32 a0_2).wf = true) (w0_3 : (Lit.int .i32 a0_3).wf = true) (w0_4 : (Lit.int .i64 a0_4).wf = true) (w0_5 : (Lit.int .i64 a0_5).wf = true) (w1 : (Lit.int .i64 a1).wf = true) (w2_0 : (Lit.int .i32 a2_0).wf = true) (w2_1 : (Lit.int .i32 a2_1).wf = true) (w2_2 : (Lit.int .i32 a2_2).wf = true) (w2_3 : (Lit.int .i32 a2_3).wf = true) (w2_4 : (Lit.int .i64 a2_4).wf = true) (w2_5 : (Lit.int .i64 a2_5).wf = true) : ∀ gs ∈ DT.deads sub32 fs32, ¬ FactsOk (leaves [.int .i32 a0_0, .int .i32 a0_1, .int .i32 a0_2, .int .i32 a0_3, .int .i64 a0_4, .int .i64 a0_5, .int .i64 a1, .int .i32 a2_0, .int .i32 a2_1, .int .i32 a2_2, .int .i32 a2_3, .int .i64 a2_4, .int .i64 a2_5]) gs := by
  rw [n32]
  intro gs h
  cases h
def sub33 : DT := (.split .lss (.leaf 0) (.lit 1) .run (.split .lss (.lit 6) (.leaf 0) .run (.split .lss (.leaf 4) (.lit 0) .run (.split .lss (.leaf 5) (.lit 1) .run (.split .eql (.leaf 0) (.lit 6) (.split .lss (.leaf 3) (.lit 1) .run (.split .lss (.lit 255) (.leaf 3) .run .run)) (.split .eql (.leaf 0) (.lit 4) (.split .eql (.leaf 1) (.lit 0) (.split .eql (.leaf 2) (.lit 0) (.split .eql (.leaf 4) (.lit 0) (.split .eql (.leaf 3) (.lit 0) .run .run) .run) .run) .run) (.split .eql (.leaf 3) (.lit 0) .run .run)))))))
def fs33 : List Fact := [⟨.eql, (.leaf 11), (.leaf 4), false⟩, ⟨.eql, (.leaf 7), (.lit 6), true⟩, ⟨.eql, (.leaf 7), (.lit 5), false⟩, ⟨.eql, (.conv .i32 (.leaf 6)), (.lit 255), true⟩, ⟨.lss, (.lit 255), (.conv .i32 (.leaf 6)), true⟩, ⟨.lss, (.conv .i32 (.leaf 6)), (.lit 0), false⟩, ⟨.lss, (.lit 256), (.leaf 6), false⟩, ⟨.lss, (.leaf 6), (.lit (-1)), false⟩, ⟨.lss, (.leaf 6), (.lit 255), true⟩, ⟨.lss, (.lit 0), (.leaf 6), true⟩, ⟨.eql, (.leaf 6), (.lit 0), false⟩]
theorem g33 : DT.good cfg34 60 6 args sub33 fs33 = true := by kernel_rfl
theorem n33 : DT.deads sub33 fs33 = [] := by kernel_rfl
theorem s33 (a0_0 a0_1 a0_2 a0_3 a0_4 a0_5 a1 a2_0 a2_1 a2_2 a2_3 a2_4 a2_5 : Int) (w0_0 : (Lit.int .i32 a0_0).wf = true) (w0_1 : (Lit.int .i32 a0_1).wf = true) (w0_2 : (Lit.int .i32 a0_2).wf = true) (w0_3 : (Lit.int .i32 a0_3).wf = true) (w0_4 : (Lit.int .i64 a0_4).wf = true) (w0_5 : (Lit.int .i64 a0_5).wf = true) (w1 : (Lit.int .i64 a1).wf = true) (w2_0 : (Lit.int .i32 a2_0).wf = true) (w2_1 : (Lit.int .i32 a2_1).wf = true) (w2_2 : (Lit.int .i32 a2_2).wf = true) (w2_3 : (Lit.int .i32 a2_3).wf = true) (w2_4 : (Lit.int .i64 a2_4).wf = true) (w2_5 : (Lit.int .i64 a2_5).wf = true) : ∀ gs ∈ DT.deads sub33 fs33, ¬ FactsOk (leaves [.int .i32 a0_0, .int .i32 a0_1, .int .i32 a0_2, .int .i32 a0_3, .int .i64 a0_4, .int .i64 a0_5, .int .i64 a1, .int .i32 a2_0, .int .i32 a2_1, .int .i32 a2_2, .int .i32 a2_3, .int .i64 a2_4, .int .i64 a2_5]) gs := by
  rw [n33]
  intro gs h
  cases h
def sub34 : DT := (.split .lss (.leaf 0) (.lit 1) .run (.split .lss (.lit 6) (.leaf 0) .run (.split .lss (.leaf 4) (.lit 0) .run (.split .lss (.leaf 5) (.lit 1) .run (.split .eql (.leaf 0) (.lit 6) (.split .lss (.leaf 3) (.lit 1) .run (.split .lss (.lit 255) (.leaf 3) .run .run)) (.split .eql (.leaf 0) (.lit 4) (.split .eql (.leaf 1) (.lit 0) (.split .eql (.leaf 2) (.lit 0) (.split .eql (.leaf 4) (.lit 0) (.split .eql (.leaf 3) (.lit 0) .run .run) .run) .run) .run) (.split .eql (.leaf 3) (.lit 0) .run .run)))))))
def fs34 : List Fact := [⟨.eql, (.leaf 7), (.lit 6), false⟩, ⟨.eql, (.leaf 7), (.lit 5), false⟩, ⟨.eql, (.conv .i32 (.leaf 6)), (.lit 255), true⟩, ⟨.lss, (.lit 255), (.conv .i32 (.leaf 6)), true⟩, ⟨.lss, (.conv .i32 (.leaf 6)), (.lit 0), false⟩, ⟨.lss, (.lit 256), (.leaf 6), false⟩, ⟨.lss, (.leaf 6), (.lit (-1)), false⟩, ⟨.lss, (.leaf 6), (.lit 255), true⟩, ⟨.lss, (.lit 0), (.leaf 6), true⟩, ⟨.eql, (.leaf 6), (.lit 0), false⟩]
theorem g34 : DT.good cfg34 60 6 args sub34 fs34 = true := by kernel_rfl
theorem n34 : DT.deads sub34 fs34 = [] := by kernel_rfl
theorem s34 (a0_0 a0_1 a0_2 a0_3 a0_4 a0_5 a1 a2_0 a2_1 a2_2 a2_3 a2_4 a2_5 : Int) (w0_0 : (Lit.int .i32 a0_0).wf = true) (w0_1 : (Lit.int .i32 a0_1).wf = true) (w0_2 : (Lit.int .i32 a0_2).wf = true) (w0_3 : (Lit.int .i32 a0_3).wf = true) (w0_4 : (Lit.int .i64 a0_4).wf = true) (w0_5 : (Lit.int .i64 a0_5).wf = true) (w1 : (Lit.int .i64 a1).wf = true) (w2_0 : (Lit.int .i32 a2_0).wf = true) (w2_1 : (Lit.int .i32 a2_1).wf = true) (w2_2 : (Lit.int .i32 a2_2).wf = true) (w2_3 : (Lit.int .i32 a2_3).wf = true) (w2_4 : (Lit.int .i64 a2_4).wf = true) (w2_5 : (Lit.int .i64 a2_5).wf = true) : ∀ gs ∈ DT.deads sub34 fs34, ¬ FactsOk (leaves [.int .i32 a0_0, .int .i32 a0_1, .int .i32 a0_2, .int .i32 a0_3, .int .i64 a0_4, .int .i64 a0_5, .int .i64 a1, .int .i32 a2_0, .int .i32 a2_1, .int .i32 a2_2, .int .i32 a2_3, .int .i64 a2_4, .int .i64 a2_5]) gs := by
  rw [n34]
  intro gs h
  cases h
def sub35 : DT := (.split .lss (.leaf 0) (.lit 1) .run (.split .lss (.lit 6) (.leaf 0) .run (.split .lss (.leaf 4) (.lit 0) .run (.split .lss (.leaf 5) (.lit 1) .run (.split .eql (.leaf 0) (.lit 6) (.split .lss (.leaf 3) (.lit 1) .run (.split .lss (.lit 255) (.leaf 3) .run (.split .lss (.conv .i32 (.leaf 6)) (.lit 1) .dead .run))) (.split .eql (.leaf 0) (.lit 4) (.split .eql (.leaf 1) (.lit 0) (.split .eql (.leaf 2) (.lit 0) (.split .eql (.leaf 4) (.lit 0) (.split .eql (.leaf 3) (.lit 0) (.split .lss (.conv .i32 (.leaf 6)) (.lit 1) .dead .run) .run) .run) .run) .run) (.split .eql (.leaf 3) (.lit 0) (.split .lss (.conv .i32 (.leaf 6)) (.lit 1) .dead .run) .run)))))))
def fs35 : List Fact := [⟨.eql, (.leaf 12), (.leaf 5), true⟩, ⟨.eql, (.leaf 11), (.leaf 4), true⟩, ⟨.eql, (.leaf 7), (.lit 5), true⟩, ⟨.lss, (.lit 255), (.conv .i32 (.leaf 6)), false⟩, ⟨.lss, (.conv .i32 (.leaf 6)), (.lit 0), false⟩, ⟨.lss, (.lit 256), (.leaf 6), false⟩, ⟨.lss, (.leaf 6), (.lit (-1)), false⟩, ⟨.lss, (.leaf 6), (.lit 255), true⟩, ⟨.lss, (.lit 0), (.leaf 6), true⟩, ⟨.eql, (.leaf 6), (.lit 0), false⟩]
theorem g35 : DT.good cfg34 60 6 args sub35 fs35 = true := by kernel_rfl
set_option maxRecDepth 100000 in
set_option maxHeartbeats 4000000 in
theorem s35 (a0_0 a0_1 a0_2 a0_3 a0_4 a0_5 a1 a2_0 a2_1 a2_2 a2_3 a2_4 a2_5 : Int) (w0_0 : (Lit.int .i32 a0_0).wf = true) (w0_1 : (Lit.int .i32 a0_1).wf = true) (w0_2 : (Lit.int .i32 a0_2).wf = true) (w0_3 : (Lit.int .i32 a0_3).wf = true) (w0_4 : (Lit.int .i64 a0_4).wf = true) (w0_5 : (Lit.int .i64 a0_5).wf = true) (w1 : (Lit.int .i64 a1).wf = true) (w2_0 : (Lit.int .i32 a2_0).wf = true) (w2_1 : (Lit.int .i32 a2_1).wf = true) (w2_2 : (Lit.int .i32 a2_2).wf = true) (w2_3 : (Lit.int .i32 a2_3).wf = true) (w2_4 : (Lit.int .i64 a2_4).wf = true) (w2_5 : (Lit.int .i64 a2_5).wf = true) : ∀ gs ∈ DT.deads sub35 fs35, ¬ FactsOk (leaves [.int .i32 a0_0, .int .i32 a0_1, .int .i32 a0_2, .int .i32 a0_3, .int .i64 a0_4, .int .i64 a0_5, .int .i64 a1, .int .i32 a2_0, .int .i32 a2_1, .int .i32 a2_2, .int .i32 a2_3, .int .i64 a2_4, .int .i64 a2_5]) gs := by
  obtain ⟨l0, u0⟩ := range_i32 w0_0
  obtain ⟨l1, u1⟩ := range_i32 w0_1
  obtain ⟨l2, u2⟩ := range_i32 w0_2
  obtain ⟨l3, u3⟩ := range_i32 w0_3
  obtain ⟨l4, u4⟩ := range_i64 w0_4
  obtain ⟨l5, u5⟩ := range_i64 w0_5
  obtain ⟨l6, u6⟩ := range_i64 w1
  obtain ⟨l7, u7⟩ := range_i32 w2_0
  obtain ⟨l8, u8⟩ := range_i32 w2_1
  obtain ⟨l9, u9⟩ := range_i32 w2_2
  obtain ⟨l10, u10⟩ := range_i32 w2_3
  obtain ⟨l11, u11⟩ := range_i64 w2_4
  obtain ⟨l12, u12⟩ := range_i64 w2_5
  have e0 : valInt ((leaves [.int .i32 a0_0, .int .i32 a0_1, .int .i32 a0_2, .int .i32 a0_3, .int .i64 a0_4, .int .i64 a0_5, .int .i64 a1, .int .i32 a2_0, .int .i32 a2_1, .int .i32 a2_2, .int .i32 a2_3, .int .i64 a2_4, .int .i64 a2_5]) 0) = a0_0 := rfl
  have e1 : valInt ((leaves [.int .i32 a0_0, .int .i32 a0_1, .int .i32 a0_2, .int .i32 a0_3, .int .i64 a0_4, .int .i64 a0_5, .int .i64 a1, .int .i32 a2_0, .int .i32 a2_1, .int .i32 a2_2, .int .i32 a2_3, .int .i64 a2_4, .int .i64 a2_5]) 1) = a0_1 := rfl
  have e2 : valInt ((leaves [.int .i32 a0_0, .int .i32 a0_1, .int .i32 a0_2, .int .i32 a0_3, .int .i64 a0_4, .int .i64 a0_5, .int .i64 a1, .int .i32 a2_0, .int .i32 a2_1, .int .i32 a2_2, .int .i32 a2_3, .int .i64 a2_4, .int .i64 a2_5]) 2) = a0_2 := rfl
  have e3 : valInt ((leaves [.int .i32 a0_0, .int .i32 a0_1, .int .i32 a0_2, .int .i32 a0_3, .int .i64 a0_4, .int .i64 a0_5, .int .i64 a1, .int .i32 a2_0, .int .i32 a2_1, .int .i32 a2_2, .int .i32 a2_3, .int .i64 a2_4, .int .i64 a2_5]) 3) = a0_3 := rfl
  have e4 : valInt ((leaves [.int .i32 a0_0, .int .i32 a0_1, .int .i32 a0_2, .int .i32 a0_3, .int .i64 a0_4, .int .i64 a0_5, .int .i64 a1, .int .i32 a2_0, .int .i32 a2_1, .int .i32 a2_2, .int .i32 a2_3, .int .i64 a2_4, .int .i64 a2_5]) 4) = a0_4 := rfl
  have e5 : valInt ((leaves [.int .i32 a0_0, .int .i32 a0_1, .int .i32 a0_2, .int .i32 a0_3, .int .i64 a0_4, .int .i64 a0_5, .int .i64 a1, .int .i32 a2_0, .int .i32 a2_1, .int .i32 a2_2, .int .i32 a2_3, .int .i64 a2_4, .int .i64 a2_5]) 5) = a0_5 := rfl
  have e6 : valInt ((leaves [.int .i32 a0_0, .int .i32 a0_1, .int .i32 a0_2, .int .i32 a0_3, .int .i64 a0_4, .int .i64 a0_5, .int .i64 a1, .int .i32 a2_0, .int .i32 a2_1, .int .i32 a2_2, .int .i32 a2_3, .int .i64 a2_4, .int .i64 a2_5]) 6) = a1 := rfl
  have e7 : valInt ((leaves [.int .i32 a0_0, .int .i32 a0_1, .int .i32 a0_2, .int .i32 a0_3, .int .i64 a0_4, .int .i64 a0_5, .int .i64 a1, .int .i32 a2_0, .int .i32 a2_1, .int .i32 a2_2, .int .i32 a2_3, .int .i64 a2_4, .int .i64 a2_5]) 7) = a2_0 := rfl
  have e8 : valInt ((leaves [.int .i32 a0_0, .int .i32 a0_1, .int .i32 a0_2, .int .i32 a0_3, .int .i64 a0_4, .int .i64 a0_5, .int .i64 a1, .int .i32 a2_0, .int .i32 a2_1, .int .i32 a2_2, .int .i32 a2_3, .int .i64 a2_4, .int .i64 a2_5]) 8) = a2_1 := rfl
  have e9 : valInt ((leaves [.int .i32 a0_0, .int .i32 a0_1, .int .i32 a0_2, .int .i32 a0_3, .int .i64 a0_4, .int .i64 a0_5, .int .i64 a1, .int .i32 a2_0, .int .i32 a2_1, .int .i32 a2_2, .int .i32 a2_3, .int .i64 a2_4, .int .i64 a2_5]) 9) = a2_2 := rfl
  have e10 : valInt ((leaves [.int .i32 a0_0, .int .i32 a0_1, .int .i32 a0_2, .int .i32 a0_3, .int .i64 a0_4, .int .i64 a0_5, .int .i64 a1, .int .i32 a2_0, .int .i32 a2_1, .int .i32 a2_2, .int .i32 a2_3, .int .i64 a2_4, .int .i64 a2_5]) 10) = a2_3 := rfl
  have e11 : valInt ((leaves [.int .i32 a0_0, .int .i32 a0_1, .int .i32 a0_2, .int .i32 a0_3, .int .i64 a0_4, .int .i64 a0_5, .int .i64 a1, .int .i32 a2_0, .int .i32 a2_1, .int .i32 a2_2, .int .i32 a2_3, .int .i64 a2_4, .int .i64 a2_5]) 11) = a2_4 := rfl
  have e12 : valInt ((leaves [.int .i32 a0_0, .int .i32 a0_1, .int .i32 a0_2, .int .i32 a0_3, .int .i64 a0_4, .int .i64 a0_5, .int .i64 a1, .int .i32 a2_0, .int .i32 a2_1, .int .i32 a2_2, .int .i32 a2_3, .int .i64 a2_4, .int .i64 a2_5]) 12) = a2_5 := rfl
  refine deads_of ?_
  simp only [sub35, fs35, DT.deads, List.nil_append, List.append_nil, List.cons_append, noneSay, allSay, Fact.says, eval_lit, eval_leaf, eval_conv, eval_add, eval_sub, wrap_i64, wrap_i32, e0, e1, e2, e3, e4, e5, e6, e7, e8, e9, e10, e11, e12]
  refine ⟨?_, ?_, ?_, trivial⟩ <;> (intro h; omega)
def sub36 : DT := (.split .lss (.leaf 0) (.lit 1) .run (.split .lss (.lit 6) (.leaf 0) .run (.split .lss (.leaf 4) (.lit 0) .run (.split .lss (.leaf 5) (.lit 1) .run (.split .eql (.leaf 0) (.lit 6) (.split .lss (.leaf 3) (.lit 1) .run (.split .lss (.lit 255) (.leaf 3) .run (.split .lss (.conv .i32 (.leaf 6)) (.lit 1) .dead .run))) (.split .eql (.leaf 0) (.lit 4) (.split .eql (.leaf 1) (.lit 0) (.split .eql (.leaf 2) (.lit 0) (.split .eql (.leaf 4) (.lit 0) (.split .eql (.leaf 3) (.lit 0) (.split .lss (.conv .i32 (.leaf 6)) (.lit 1) .dead .run) .run) .run) .run) .run) (.split .eql (.leaf 3) (.lit 0) (.split .lss (.conv .i32 (.leaf 6)) (.lit 1) .dead .run) .run)))))))
def fs36 : List Fact := [⟨.eql, (.leaf 12), (.leaf 5), false⟩, ⟨.eql, (.leaf 11), (.leaf 4), true⟩, ⟨.eql, (.leaf 7), (.lit 5), true⟩, ⟨.lss, (.lit 255), (.conv .i32 (.leaf 6)), false⟩, ⟨.lss, (.conv .i32 (.leaf 6)), (.lit 0), false⟩, ⟨.lss, (.lit 256), (.leaf 6), false⟩, ⟨.lss, (.leaf 6), (.lit (-1)), false⟩, ⟨.lss, (.leaf 6), (.lit 255), true⟩, ⟨.lss, (.lit 0), (.leaf 6), true⟩, ⟨.eql, (.leaf 6), (.lit 0), false⟩]
theorem g36 : DT.good cfg34 60 6 args sub36 fs36 = true := by kernel_rfl
set_option maxRecDepth 100000 in
set_option maxHeartbeats 4000000 in
theorem s36 (a0_0 a0_1 a0_2 a0_3 a0_4 a0_5 a1 a2_0 a2_1 a2_2 a2_3 a2_4 a2_5 : Int) (w0_0 : (Lit.int .i32 a0_0).wf = true) (w0_1 : (Lit.int .i32 a0_1).wf = true) (w0_2 : (Lit.int .i32 a0_2).wf = true) (w0_3 : (Lit.int .i32 a0_3).wf = true) (w0_4 : (Lit.int .i64 a0_4).wf = true) (w0_5 : (Lit.int .i64 a0_5).wf = true) (w1 : (Lit.int .i64 a1).wf = true) (w2_0 : (Lit.int .i32 a2_0).wf = true) (w2_1 : (Lit.int .i32 a2_1).wf = true) (w2_2 : (Lit.int .i32 a2_2).wf = true) (w2_3 : (Lit.int .i32 a2_3).wf = true) (w2_4 : (Lit.int .i64 a2_4).wf = true) (w2_5 : (Lit.int .i64 a2_5).wf = true) : ∀ gs ∈ DT.deads sub36 fs36, ¬ FactsOk (leaves [.int .i32 a0_0, .int .i32 a0_1, .int .i32 a0_2, .int .i32 a0_3, .int .i64 a0_4, .int .i64 a0_5, .int .i64 a1, .int .i32 a2_0, .int .i32 a2_1, .int .i32 a2_2, .int .i32 a2_3, .int .i64 a2_4, .int .i64 a2_5]) gs := by
  obtain ⟨l0, u0⟩ := range_i32 w0_0
  obtain ⟨l1, u1⟩ := range_i32 w0_1
  obtain ⟨l2, u2⟩ := range_i32 w0_2
  obtain ⟨l3, u3⟩ := range_i32 w0_3
  obtain ⟨l4, u4⟩ := range_i64 w0_4
  obtain ⟨l5, u5⟩ := range_i64 w0_5
  obtain ⟨l6, u6⟩ := range_i64 w1
  obtain ⟨l7, u7⟩ := range_i32 w2_0
  obtain ⟨l8, u8⟩ := range_i32 w2_1
  obtain ⟨l9, u9⟩ := range_i32 w2_2
  obtain ⟨l10, u10⟩ := range_i32 w2_3
  obtain ⟨l11, u11⟩ := range_i64 w2_4
  obtain ⟨l12, u12⟩ := range_i64 w2_5
  have e0 : valInt ((leaves [.int .i32 a0_0, .int .i32 a0_1, .int .i32 a0_2, .int .i32 a0_3, .int .i64 a0_4, .int .i64 a0_5, .int .i64 a1, .int .i32 a2_0, .int .i32 a2_1, .int .i32 a2_2, .int .i32 a2_3, .int .i64 a2_4, .int .i64 a2_5]) 0) = a0_0 := rfl
  have e1 : valInt ((leaves [.int .i32 a0_0, .int .i32 a0_1, .int .i32 a0_2, .int .i32 a0_3, .int .i64 a0_4, .int .i64 a0_5, .int .i64 a1, .int .i32 a2_0, .int .i32 a2_1, .int .i32 a2_2, .int .i32 a2_3, .int .i64 a2_4, .int .i64 a2_5]) 1) = a0_1 := rfl
  have e2 : valInt ((leaves [.int .i32 a0_0, .int .i32 a0_1, .int .i32 a0_2, .int .i32 a0_3, .int .i64 a0_4, .int .i64 a0_5, .int .i64 a1, .int .i32 a2_0, .int .i32 a2_1, .int .i32 a2_2, .int .i32 a2_3, .int .i64 a2_4, .int .i64 a2_5]) 2) = a0_2 := rfl
  have e3 : valInt ((leaves [.int .i32 a0_0, .int .i32 a0_1, .int .i32 a0_2, .int .i32 a0_3, .int .i64 a0_4, .int .i64 a0_5, .int .i64 a1, .int .i32 a2_0, .int .i32 a2_1, .int .i32 a2_2, .int .i32 a2_3, .int .i64 a2_4, .int .i64 a2_5]) 3) = a0_3 := rfl
  have e4 : valInt ((leaves [.int .i32 a0_0, .int .i32 a0_1, .int .i32 a0_2, .int .i32 a0_3, .int .i64 a0_4, .int .i64 a0_5, .int .i64 a1, .int .i32 a2_0, .int .i32 a2_1, .int .i32 a2_2, .int .i32 a2_3, .int .i64 a2_4, .int .i64 a2_5]) 4) = a0_4 := rfl
  have e5 : valInt ((leaves [.int .i32 a0_0, .int .i32 a0_1, .int .i32 a0_2, .int .i32 a0_3, .int .i64 a0_4, .int .i64 a0_5, .int .i64 a1, .int .i32 a2_0, .int .i32 a2_1, .int .i32 a2_2, .int .i32 a2_3, .int .i64 a2_4, .int .i64 a2_5]) 5) = a0_5 := rfl
  have e6 : valInt ((leaves [.int .i32 a0_0, .int .i32 a0_1, .int .i32 a0_2, .int .i32 a0_3, .int .i64 a0_4, .int .i64 a0_5, .int .i64 a1, .int .i32 a2_0, .int .i32 a2_1, .int .i32 a2_2, .int .i32 a2_3, .int .i64 a2_4, .int .i64 a2_5]) 6) = a1 := rfl
  have e7 : valInt ((leaves [.int .i32 a0_0, .int .i32 a0_1, .int .i32 a0_2, .int .i32 a0_3, .int .i64 a0_4, .int .i64 a0_5, .int .i64 a1, .int .i32 a2_0, .int .i32 a2_1, .int .i32 a2_2, .int .i32 a2_3, .int .i64 a2_4, .int .i64 a2_5]) 7) = a2_0 := rfl
  have e8 : valInt ((leaves [.int .i32 a0_0, .int .i32 a0_1, .int .i32 a0_2, .int .i32 a0_3, .int .i64 a0_4, .int .i64 a0_5, .int .i64 a1, .int .i32 a2_0, .int .i32 a2_1, .int .i32 a2_2, .int .i32 a2_3, .int .i64 a2_4, .int .i64 a2_5]) 8) = a2_1 := rfl
  have e9 : valInt ((leaves [.int .i32 a0_0, .int .i32 a0_1, .int .i32 a0_2, .int .i32 a0_3, .int .i64 a0_4, .int .i64 a0_5, .int .i64 a1, .int .i32 a2_0, .int .i32 a2_1, .int .i32 a2_2, .int .i32 a2_3, .int .i64 a2_4, .int .i64 a2_5]) 9) = a2_2 := rfl
  have e10 : valInt ((leaves [.int .i32 a0_0, .int .i32 a0_1, .int .i32 a0_2, .int .i32 a0_3, .int .i64 a0_4, .int .i64 a0_5, .int .i64 a1, .int .i32 a2_0, .int .i32 a2_1, .int .i32 a2_2, .int .i32 a2_3, .int .i64 a2_4, .int .i64 a2_5]) 10) = a2_3 := rfl
  have e11 : valInt ((leaves [.int .i32 a0_0, .int .i32 a0_1, .int .i32 a0_2, .int .i32 a0_3, .int .i64 a0_4, .int .i64 a0_5, .int .i64 a1, .int .i32 a2_0, .int .i32 a2_1, .int .i32 a2_2, .int .i32 a2_3, .int .i64 a2_4, .int .i64 a2_5]) 11) = a2_4 := rfl
  have e12 : valInt ((leaves [.int .i32 a0_0, .int .i32 a0_1, .int .i32 a0_2, .int .i32 a0_3, .int .i64 a0_4, .int .i64 a0_5, .int .i64 a1, .int .i32 a2_0, .int .i32 a2_1, .int .i32 a2_2, .int .i32 a2_3, .int .i64 a2_4, .int .i64 a2_5]) 12) = a2_5 := rfl
  refine deads_of ?_
  simp only [sub36, fs36, DT.deads, List.nil_append, List.append_nil, List.cons_append, noneSay, allSay, Fact.says, eval_lit, eval_leaf, eval_conv, eval_add, eval_sub, wrap_i64, wrap_i32, e0, e1, e2, e3, e4, e5, e6, e7, e8, e9, e10, e11, e12]
  refine ⟨?_, ?_, ?_, trivial⟩ <;> (intro h; omega)
def sub37 : DT := (.split .lss (.leaf 0) (.lit 1) .run (.split .lss (.lit 6) (.leaf 0) .run (.split .lss (.leaf 4) (.lit 0) .run (.split .lss (.leaf 5) (.lit 1) .run (.split .eql (.leaf 0) (.lit 6) (.split .lss (.leaf 3) (.lit 1) .run (.split .lss (.lit 255) (.leaf 3) .run (.split .lss (.conv .i32 (.leaf 6)) (.lit 1) .dead .run))) (.split .eql (.leaf 0) (.lit 4) (.split .eql (.leaf 1) (.lit 0) (.split .eql (.leaf 2) (.lit 0) (.split .eql (.leaf 4) (.lit 0) (.split .eql (.leaf 3) (.lit 0) (.split .lss (.conv .i32 (.leaf 6)) (.lit 1) .dead .run) .run) .run) .run) .run) (.split .eql (.leaf 3) (.lit 0) (.split .lss (.conv .i32 (.leaf 6)) (.lit 1) .dead .run) .run)))))))
def fs37 : List Fact := [⟨.eql, (.leaf 11), (.leaf 4), false⟩, ⟨.eql, (.leaf 7), (.lit 5), true⟩, ⟨.lss, (.lit 255), (.conv .i32 (.leaf 6)), false⟩, ⟨.lss, (.conv .i32 (.leaf 6)), (.lit 0), false⟩, ⟨.lss, (.lit 256), (.leaf 6), false⟩, ⟨.lss, (.leaf 6), (.lit (-1)), false⟩, ⟨.lss, (.leaf 6), (.lit 255), true⟩, ⟨.lss, (.lit 0), (.leaf 6), true⟩, ⟨.eql, (.leaf 6), (.lit 0), false⟩]
theorem g37 : DT.good cfg34 60 6 args sub37 fs37 = true := by kernel_rfl
set_option maxRecDepth 100000 in
set_option maxHeartbeats 4000000 in
theorem s37 (a0_0 a0_1 a0_2 a0_3 a0_4 a0_5 a1 a2_0 a2_1 a2_2 a2_3 a2_4 a2_5 : Int) (w0_0 : (Lit.int .i32 a0_0).wf = true) (w0_1 : (Lit.int .i32 a0_1).wf = true) (w0_2 : (Lit.int .i32 a0_2).wf = true) (w0_3 : (Lit.int .i32 a0_3).wf = true) (w0_4 : (Lit.int .i64 a0_4).wf = true) (w0_5 : (Lit.int .i64 a0_5).wf = true) (w1 : (Lit.int .i64 a1).wf = true) (w2_0 : (Lit.int .i32 a2_0).wf = true) (w2_1 : (Lit.int .i32 a2_1).wf = true) (w2_2 : (Lit.int .i32 a2_2).wf = true) (w2_3 : (Lit.int .i32 a2_3).wf = true) (w2_4 : (Lit.int .i64 a2_4).wf = true) (w2_5 : (Lit.int .i64 a2_5).wf = true) : ∀ gs ∈ DT.deads sub37 fs37, ¬ FactsOk (leaves [.int .i32 a0_0, .int .i32 a0_1, .int .i32 a0_2, .int .i32 a0_3, .int .i64 a0_4, .int .i64 a0_5, .int .i64 a1, .int .i32 a2_0, .int .i32 a2_1, .int .i32 a2_2, .int .i32 a2_3, .int .i64 a2_4, .int .i64 a2_5]) gs := by
  obtain ⟨l0, u0⟩ := range_i32 w0_0
  obtain ⟨l1, u1⟩ := range_i32 w0_1
  obtain ⟨l2, u2⟩ := range_i32 w0_2
  obtain ⟨l3, u3⟩ := range_i32 w0_3
  obtain ⟨l4, u4⟩ := range_i64 w0_4
  obtain ⟨l5, u5⟩ := range_i64 w0_5
  obtain ⟨l6, u6⟩ := range_i64 w1
  obtain ⟨l7, u7⟩ := range_i32 w2_0
  obtain ⟨l8, u8⟩ := range_i32 w2_1
  obtain ⟨l9, u9⟩ := range_i32 w2_2
  obtain ⟨l10, u10⟩ := range_i32 w2_3
  obtain ⟨l11, u11⟩ := range_i64 w2_4
  obtain ⟨l12, u12⟩ := range_i64 w2_5
  have e0 : valInt ((leaves [.int .i32 a0_0, .int .i32 a0_1, .int .i32 a0_2, .int .i32 a0_3, .int .i64 a0_4, .int .i64 a0_5, .int .i64 a1, .int .i32 a2_0, .int .i32 a2_1, .int .i32 a2_2, .int .i32 a2_3, .int .i64 a2_4, .int .i64 a2_5]) 0) = a0_0 := rfl
  have e1 : valInt ((leaves [.int .i32 a0_0, .int .i32 a0_1, .int .i32 a0_2, .int .i32 a0_3, .int .i64 a0_4, .int .i64 a0_5, .int .i64 a1, .int .i32 a2_0, .int .i32 a2_1, .int .i32 a2_2, .int .i32 a2_3, .int .i64 a2_4, .int .i64 a2_5]) 1) = a0_1 := rfl
  have e2 : valInt ((leaves [.int .i32 a0_0, .int .i32 a0_1, .int .i32 a0_2, .int .i32 a0_3, .int .i64 a0_4, .int .i64 a0_5, .int .i64 a1, .int .i32 a2_0, .int .i32 a2_1, .int .i32 a2_2, .int .i32 a2_3, .int .i64 a2_4, .int .i64 a2_5]) 2) = a0_2 := rfl
  have e3 : valInt ((leaves [.int .i32 a0_0, .int .i32 a0_1, .int .i32 a0_2, .int .i32 a0_3, .int .i64 a0_4, .int .i64 a0_5, .int .i64 a1, .int .i32 a2_0, .int .i32 a2_1, .int .i32 a2_2, .int .i32 a2_3, .int .i64 a2_4, .int .i64 a2_5]) 3) = a0_3 := rfl
  have e4 : valInt ((leaves [.int .i32 a0_0, .int .i32 a0_1, .int .i32 a0_2, .int .i32 a0_3, .int .i64 a0_4, .int .i64 a0_5, .int .i64 a1, .int .i32 a2_0, .int .i32 a2_1, .int .i32 a2_2, .int .i32 a2_3, .int .i64 a2_4, .int .i64 a2_5]) 4) = a0_4 := rfl
  have e5 : valInt ((leaves [.int .i32 a0_0, .int .i32 a0_1, .int .i32 a0_2, .int .i32 a0_3, .int .i64 a0_4, .int .i64 a0_5, .int .i64 a1, .int .i32 a2_0, .int .i32 a2_1, .int .i32 a2_2, .int .i32 a2_3, .int .i64 a2_4, .int .i64 a2_5]) 5) = a0_5 := rfl
  have e6 : valInt ((leaves [.int .i32 a0_0, .int .i32 a0_1, .int .i32 a0_2, .int .i32 a0_3, .int .i64 a0_4, .int .i64 a0_5, .int .i64 a1, .int .i32 a2_0, .int .i32 a2_1, .int .i32 a2_2, .int .i32 a2_3, .int .i64 a2_4, .int .i64 a2_5]) 6) = a1 := rfl
  have e7 : valInt ((leaves [.int .i32 a0_0, .int .i32 a0_1, .int .i32 a0_2, .int .i32 a0_3, .int .i64 a0_4, .int .i64 a0_5, .int .i64 a1, .int .i32 a2_0, .int .i32 a2_1, .int .i32 a2_2, .int .i32 a2_3, .int .i64 a2_4, .int .i64 a2_5]) 7) = a2_0 := rfl
  have e8 : valInt ((leaves [.int .i32 a0_0, .int .i32 a0_1, .int .i32 a0_2, .int .i32 a0_3, .int .i64 a0_4, .int .i64 a0_5, .int .i64 a1, .int .i32 a2_0, .int .i32 a2_1, .int .i32 a2_2, .int .i32 a2_3, .int .i64 a2_4, .int .i64 a2_5]) 8) = a2_1 := rfl
  have e9 : valInt ((leaves [.int .i32 a0_0, .int .i32 a0_1, .int .i32 a0_2, .int .i32 a0_3, .int .i64 a0_4, .int .i64 a0_5, .int .i64 a1, .int .i32 a2_0, .int .i32 a2_1, .int .i32 a2_2, .int .i32 a2_3, .int .i64 a2_4, .int .i64 a2_5]) 9) = a2_2 := rfl
  have e10 : valInt ((leaves [.int .i32 a0_0, .int .i32 a0_1, .int .i32 a0_2, .int .i32 a0_3, .int .i64 a0_4, .int .i64 a0_5, .int .i64 a1, .int .i32 a2_0, .int .i32 a2_1, .int .i32 a2_2, .int .i32 a2_3, .int .i64 a2_4, .int .i64 a2_5]) 10) = a2_3 := rfl
  have e11 : valInt ((leaves [.int .i32 a0_0, .int .i32 a0_1, .int .i32 a0_2, .int .i32 a0_3, .int .i64 a0_4, .int .i64 a0_5, .int .i64 a1, .int .i32 a2_0, .int .i32 a2_1, .int .i32 a2_2, .int .i32 a2_3, .int .i64 a2_4, .int .i64 a2_5]) 11) = a2_4 := rfl
  have e12 : valInt ((leaves [.int .i32 a0_0, .int .i32 a0_1, .int .i32 a0_2, .int .i32 a0_3, .int .i64 a0_4, .int .i64 a0_5, .int .i64 a1, .int .i32 a2_0, .int .i32 a2_1, .int .i32 a2_2, .int .i32 a2_3, .int .i64 a2_4, .int .i64 a2_5]) 12) = a2_5 := rfl
  refine deads_of ?_
  simp only [sub37, fs37, DT.deads, List.nil_append, List.append_nil, List.cons_append, noneSay, allSay, Fact.says, eval_lit, eval_leaf, eval_conv, eval_add, eval_sub, wrap_i64, wrap_i32, e0, e1, e2, e3, e4, e5, e6, e7, e8, e9, e10, e11, e12]
  refine ⟨?_, ?_, ?_, trivial⟩ <;> (intro h; omega)
def sub38 : DT := (.split .lss (.leaf 0) (.lit 1) .run (.split .lss (.lit 6) (.leaf 0) .run (.split .lss (.leaf 4) (.lit 0) .run (.split .lss (.leaf 5) (.lit 1) .run (.split .eql (.leaf 0) (.lit 6) (.split .lss (.leaf 3) (.lit 1) .run (.split .lss (.lit 255) (.leaf 3) .run (.split .lss (.conv .i32 (.leaf 6)) (.lit 1) .dead .run))) (.split .eql (.leaf 0) (.lit 4) (.split .eql (.leaf 1) (.lit 0) (.split .eql (.leaf 2) (.lit 0) (.split .eql (.leaf 4) (.lit 0) (.split .eql (.leaf 3) (.lit 0) (.split .lss (.conv .i32 (.leaf 6)) (.lit 1) .dead .run) .run) .run) .run) .run) (.split .eql (.leaf 3) (.lit 0) (.split .lss (.conv .i32 (.leaf 6)) (.lit 1) .dead .run) .run)))))))
def fs38 : List Fact := [⟨.eql, (.leaf 12), (.leaf 5), true⟩, ⟨.eql, (.leaf 11), (.leaf 4), true⟩, ⟨.eql, (.leaf 7), (.lit 6), true⟩, ⟨.eql, (.leaf 7), (.lit 5), false⟩, ⟨.lss, (.lit 255), (.conv .i32 (.leaf 6)), false⟩, ⟨.lss, (.conv .i32 (.leaf 6)), (.lit 0), false⟩, ⟨.lss, (.lit 256), (.leaf 6), false⟩, ⟨.lss, (.leaf 6), (.lit (-1)), false⟩, ⟨.lss, (.leaf 6), (.lit 255), true⟩, ⟨.lss, (.lit 0), (.leaf 6), true⟩, ⟨.eql, (.leaf 6), (.lit 0), false⟩]
theorem g38 : DT.good cfg34 60 6 args sub38 fs38 = true := by kernel_rfl
set_option maxRecDepth 100000 in
set_option maxHeartbeats 4000000 in
theorem s38 (a0_0 a0_1 a0_2 a0_3 a0_4 a0_5 a1 a2_0 a2_1 a2_2 a2_3 a2_4 a2_5 : Int) (w0_0 : (Lit.int .i32 a0_0).wf = true) (w0_1 : (Lit.int .i32 a0_1).wf = true) (w0_2 : (Lit.int .i32 a0_2).wf = true) (w0_3 : (Lit.int .i32 a0_3).wf = true) (w0_4 : (Lit.int .i64 a0_4).wf = true) (w0_5 : (Lit.int .i64 a0_5).wf = true) (w1 : (Lit.int .i64 a1).wf = true) (w2_0 : (Lit.int .i32 a2_0).wf = true) (w2_1 : (Lit.int .i32 a2_1).wf = true) (w2_2 : (Lit.int .i32 a2_2).wf = true) (w2_3 : (Lit.int .i32 a2_3).wf = true) (w2_4 : (Lit.int .i64 a2_4).wf = true) (w2_5 : (Lit.int .i64 a2_5).wf = true) : ∀ gs ∈ DT.deads sub38 fs38, ¬ FactsOk (leaves [.int .i32 a0_0, .int .i32 a0_1, .int .i32 a0_2, .int .i32 a0_3, .int .i64 a0_4, .int .i64 a0_5, .int .i64 a1, .int .i32 a2_0, .int .i32 a2_1, .int .i32 a2_2, .int .i32 a2_3, .int .i64 a2_4, .int .i64 a2_5]) gs := by
  obtain ⟨l0, u0⟩ := range_i32 w0_0
  obtain ⟨l1, u1⟩ := range_i32 w0_1
  obtain ⟨l2, u2⟩ := range_i32 w0_2
  obtain ⟨l3, u3⟩ := range_i32 w0_3
  obtain ⟨l4, u4⟩ := range_i64 w0_4
  obtain ⟨l5, u5⟩ := range_i64 w0_5
  obtain ⟨l6, u6⟩ := range_i64 w1
  obtain ⟨l7, u7⟩ := range_i32 w2_0
  obtain ⟨l8, u8⟩ := range_i32 w2_1
  obtain ⟨l9, u9⟩ := range_i32 w2_2
  obtain ⟨l10, u10⟩ := range_i32 w2_3
  obtain ⟨l11, u11⟩ := range_i64 w2_4
  obtain ⟨l12, u12⟩ := range_i64 w2_5
  have e0 : valInt ((leaves [.int .i32 a0_0, .int .i32 a0_1, .int .i32 a0_2, .int .i32 a0_3, .int .i64 a0_4, .int .i64 a0_5, .int .i64 a1, .int .i32 a2_0, .int .i32 a2_1, .int .i32 a2_2, .int .i32 a2_3, .int .i64 a2_4, .int .i64 a2_5]) 0) = a0_0 := rfl
  have e1 : valInt ((leaves [.int .i32 a0_0, .int .i32 a0_1, .int .i32 a0_2, .int .i32 a0_3, .int .i64 a0_4, .int .i64 a0_5, .int .i64 a1, .int .i32 a2_0, .int .i32 a2_1, .int .i32 a2_2, .int .i32 a2_3, .int .i64 a2_4, .int .i64 a2_5]) 1) = a0_1 := rfl
  have e2 : valInt ((leaves [.int .i32 a0_0, .int .i32 a0_1, .int .i32 a0_2, .int .i32 a0_3, .int .i64 a0_4, .int .i64 a0_5, .int .i64 a1, .int .i32 a2_0, .int .i32 a2_1, .int .i32 a2_2, .int .i32 a2_3, .int .i64 a2_4, .int .i64 a2_5]) 2) = a0_2 := rfl
  have e3 : valInt ((leaves [.int .i32 a0_0, .int .i32 a0_1, .int .i32 a0_2, .int .i32 a0_3, .int .i64 a0_4, .int .i64 a0_5, .int .i64 a1, .int .i32 a2_0, .int .i32 a2_1, .int .i32 a2_2, .int .i32 a2_3, .int .i64 a2_4, .int .i64 a2_5]) 3) = a0_3 := rfl
  have e4 : valInt ((leaves [.int .i32 a0_0, .int .i32 a0_1, .int .i32 a0_2, .int .i32 a0_3, .int .i64 a0_4, .int .i64 a0_5, .int .i64 a1, .int .i32 a2_0, .int .i32 a2_1, .int .i32 a2_2, .int .i32 a2_3, .int .i64 a2_4, .int .i64 a2_5]) 4) = a0_4 := rfl
  have e5 : valInt ((leaves [.int .i32 a0_0, .int .i32 a0_1, .int .i32 a0_2, .int .i32 a0_3, .int .i64 a0_4, .int .i64 a0_5, .int .i64 a1, .int .i32 a2_0, .int .i32 a2_1, .int .i32 a2_2, .int .i32 a2_3, .int .i64 a2_4, .int .i64 a2_5]) 5) = a0_5 := rfl
  have e6 : valInt ((leaves [.int .i32 a0_0, .int .i32 a0_1, .int .i32 a0_2, .int .i32 a0_3, .int .i64 a0_4, .int .i64 a0_5, .int .i64 a1, .int .i32 a2_0, .int .i32 a2_1, .int .i32 a2_2, .int .i32 a2_3, .int .i64 a2_4, .int .i64 a2_5]) 6) = a1 := rfl
  have e7 : valInt ((leaves [.int .i32 a0_0, .int .i32 a0_1, .int .i32 a0_2, .int .i32 a0_3, .int .i64 a0_4, .int .i64 a0_5, .int .i64 a1, .int .i32 a2_0, .int .i32 a2_1, .int .i32 a2_2, .int .i32 a2_3, .int .i64 a2_4, .int .i64 a2_5]) 7) = a2_0 := rfl
  have e8 : valInt ((leaves [.int .i32 a0_0, .int .i32 a0_1, .int .i32 a0_2, .int .i32 a0_3, .int .i64 a0_4, .int .i64 a0_5, .int .i64 a1, .int .i32 a2_0, .int .i32 a2_1, .int .i32 a2_2, .int .i32 a2_3, .int .i64 a2_4, .int .i64 a2_5]) 8) = a2_1 := rfl
  have e9 : valInt ((leaves [.int .i32 a0_0, .int .i32 a0_1, .int .i32 a0_2, .int .i32 a0_3, .int .i64 a0_4, .int .i64 a0_5, .int .i64 a1, .int .i32 a2_0, .int .i32 a2_1, .int .i32 a2_2, .int .i32 a2_3, .int .i64 a2_4, .int .i64 a2_5]) 9) = a2_2 := rfl
  have e10 : valInt ((leaves [.int .i32 a0_0, .int .i32 a0_1, .int .i32 a0_2, .int .i32 a0_3, .int .i64 a0_4, .int .i64 a0_5, .int .i64 a1, .int .i32 a2_0, .int .i32 a2_1, .int .i32 a2_2, .int .i32 a2_3, .int .i64 a2_4, .int .i64 a2_5]) 10) = a2_3 := rfl
  have e11 : valInt ((leaves [.int .i32 a0_0, .int .i32 a0_1, .int .i32 a0_2, .int .i32 a0_3, .int .i64 a0_4, .int .i64 a0_5, .int .i64 a1, .int .i32 a2_0, .int .i32 a2_1, .int .i32 a2_2, .int .i32 a2_3, .int .i64 a2_4, .int .i64 a2_5]) 11) = a2_4 := rfl
  have e12 : valInt ((leaves [.int .i32 a0_0, .int .i32 a0_1, .int .i32 a0_2, .int .i32 a0_3, .int .i64 a0_4, .int .i64 a0_5, .int .i64 a1, .int .i32 a2_0, .int .i32 a2_1, .int .i32 a2_2, .int .i32 a2_3, .int .i64 a2_4, .int .i64 a2_5]) 12) = a2_5 := rfl
  refine deads_of ?_
  simp only [sub38, fs38, DT.deads, List.nil_append, List.append_nil, List.cons_append, noneSay, allSay, Fact.says, eval_lit, eval_leaf, eval_conv, eval_add, eval_sub, wrap_i64, wrap_i32, e0, e1, e2, e3, e4, e5, e6, e7, e8, e9, e10, e11, e12]
  refine ⟨?_, ?_, ?_, trivial⟩ <;> (intro h; omega)
def sub39 : DT := (.split .lss (.leaf 0) (.lit 1) .run (.split .lss (.lit 6) (.leaf 0) .run (.split .lss (.leaf 4) (.lit 0) .run (.split .lss (.leaf 5) (.lit 1) .run (.split .eql (.leaf 0) (.lit 6) (.split .lss (.leaf 3) (.lit 1) .run (.split .lss (.lit 255) (.leaf 3) .run (.split .lss (.conv .i32 (.leaf 6)) (.lit 1) .dead .run))) (.split .eql (.leaf 0) (.lit 4) (.split .eql (.leaf 1) (.lit 0) (.split .eql (.leaf 2) (.lit 0) (.split .eql (.leaf 4) (.lit 0) (.split .eql (.leaf 3) (.lit 0) (.split .lss (.conv .i32 (.leaf 6)) (.lit 1) .dead .run) .run) .run) .run) .run) (.split .eql (.leaf 3) (.lit 0) (.split .lss (.conv .i32 (.leaf 6)) (.lit 1) .dead .run) .run)))))))
def fs39 : List Fact := [⟨.eql, (.leaf 12), (.leaf 5), false⟩, ⟨.eql, (.leaf 11), (.leaf 4), true⟩, ⟨.eql, (.leaf 7), (.lit 6), true⟩, ⟨.eql, (.leaf 7), (.lit 5), false⟩, ⟨.lss, (.lit 255), (.conv .i32 (.leaf 6)), false⟩, ⟨.lss, (.conv .i32 (.leaf 6)), (.lit 0), false⟩, ⟨.lss, (.lit 256), (.leaf 6), false⟩, ⟨.lss, (.leaf 6), (.lit (-1)), false⟩, ⟨.lss, (.leaf 6), (.lit 255), true⟩, ⟨.lss, (.lit 0), (.leaf 6), true⟩, ⟨.eql, (.leaf 6), (.lit 0), false⟩]
theorem g39 : DT.good cfg34 60 6 args sub39 fs39 = true := by kernel_rfl
set_option maxRecDepth 100000 in
set_option maxHeartbeats 4000000 in
theorem s39 (a0_0 a0_1 a0_2 a0_3 a0_4 a0_5 a1 a2_0 a2_1 a2_2 a2_3 a2_4 a2_5 : Int) (w0_0 : (Lit.int .i32 a0_0).wf = true) (w0_1 : (Lit.int .i32 a0_1).wf = true) (w0_2 : (Lit.int .i32 a0_2).wf = true) (w0_3 : (Lit.int .i32 a0_3).wf = true) (w0_4 : (Lit.int .i64 a0_4).wf = true) (w0_5 : (Lit.int .i64 a0_5).wf = true) (w1 : (Lit.int .i64 a1).wf = true) (w2_0 : (Lit.int .i32 a2_0).wf = true) (w2_1 : (Lit.int .i32 a2_1).wf = true) (w2_2 : (Lit.int .i32 a2_2).wf = true) (w2_3 : (Lit.int .i32 a2_3).wf = true) (w2_4 : (Lit.int .i64 a2_4).wf = true) (w2_5 : (Lit.int .i64 a2_5).wf = true) : ∀ gs ∈ DT.deads sub39 fs39, ¬ FactsOk (leaves [.int .i32 a0_0, .int .i32 a0_1, .int .i32 a0_2, .int .i32 a0_3, .int .i64 a0_4, .int .i64 a0_5, .int .i64 a1, .int .i32 a2_0, .int .i32 a2_1, .int .i32 a2_2, .int .i32 a2_3, .int .i64 a2_4, .int .i64 a2_5]) gs := by
  obtain ⟨l0, u0⟩ := range_i32 w0_0
  obtain ⟨l1, u1⟩ := range_i32 w0_1
  obtain ⟨l2, u2⟩ := range_i32 w0_2
  obtain ⟨l3, u3⟩ := range_i32 w0_3
  obtain ⟨l4, u4⟩ := range_i64 w0_4
  obtain ⟨l5, u5⟩ := range_i64 w0_5
  obtain ⟨l6, u6⟩ := range_i64 w1
  obtain ⟨l7, u7⟩ := range_i32 w2_0
  obtain ⟨l8, u8⟩ := range_i32 w2_1
  obtain ⟨l9, u9⟩ := range_i32 w2_2
  obtain ⟨l10, u10⟩ := range_i32 w2_3
  obtain ⟨l11, u11⟩ := range_i64 w2_4
  obtain ⟨l12, u12⟩ := range_i64 w2_5
  have e0 : valInt ((leaves [.int .i32 a0_0, .int .i32 a0_1, .int .i32 a0_2, .int .i32 a0_3, .int .i64 a0_4, .int .i64 a0_5, .int .i64 a1, .int .i32 a2_0, .int .i32 a2_1, .int .i32 a2_2, .int .i32 a2_3, .int .i64 a2_4, .int .i64 a2_5]) 0) = a0_0 := rfl
  have e1 : valInt ((leaves [.int .i32 a0_0, .int .i32 a0_1, .int .i32 a0_2, .int .i32 a0_3, .int .i64 a0_4, .int .i64 a0_5, .int .i64 a1, .int .i32 a2_0, .int .i32 a2_1, .int .i32 a2_2, .int .i32 a2_3, .int .i64 a2_4, .int .i64 a2_5]) 1) = a0_1 := rfl
  have e2 : valInt ((leaves [.int .i32 a0_0, .int .i32 a0_1, .int .i32 a0_2, .int .i32 a0_3, .int .i64 a0_4, .int .i64 a0_5, .int .i64 a1, .int .i32 a2_0, .int .i32 a2_1, .int .i32 a2_2, .int .i32 a2_3, .int .i64 a2_4, .int .i64 a2_5]) 2) = a0_2 := rfl
  have e3 : valInt ((leaves [.int .i32 a0_0, .int .i32 a0_1, .int .i32 a0_2, .int .i32 a0_3, .int .i64 a0_4, .int .i64 a0_5, .int .i64 a1, .int .i32 a2_0, .int .i32 a2_1, .int .i32 a2_2, .int .i32 a2_3, .int .i64 a2_4, .int .i64 a2_5]) 3) = a0_3 := rfl
  have e4 : valInt ((leaves [.int .i32 a0_0, .int .i32 a0_1, .int .i32 a0_2, .int .i32 a0_3, .int .i64 a0_4, .int .i64 a0_5, .int .i64 a1, .int .i32 a2_0, .int .i32 a2_1, .int .i32 a2_2, .int .i32 a2_3, .int .i64 a2_4, .int .i64 a2_5]) 4) = a0_4 := rfl
  have e5 : valInt ((leaves [.int .i32 a0_0, .int .i32 a0_1, .int .i32 a0_2, .int .i32 a0_3, .int .i64 a0_4, .int .i64 a0_5, .int .i64 a1, .int .i32 a2_0, .int .i32 a2_1, .int .i32 a2_2, .int .i32 a2_3, .int .i64 a2_4, .int .i64 a2_5]) 5) = a0_5 := rfl
  have e6 : valInt ((leaves [.int .i32 a0_0, .int .i32 a0_1, .int .i32 a0_2, .int .i32 a0_3, .int .i64 a0_4, .int .i64 a0_5, .int .i64 a1, .int .i32 a2_0, .int .i32 a2_1, .int .i32 a2_2, .int .i32 a2_3, .int .i64 a2_4, .int .i64 a2_5]) 6) = a1 := rfl
  have e7 : valInt ((leaves [.int .i32 a0_0, .int .i32 a0_1, .int .i32 a0_2, .int .i32 a0_3, .int .i64 a0_4, .int .i64 a0_5, .int .i64 a1, .int .i32 a2_0, .int .i32 a2_1, .int .i32 a2_2, .int .i32 a2_3, .int .i64 a2_4, .int .i64 a2_5]) 7) = a2_0 := rfl
  have e8 : valInt ((leaves [.int .i32 a0_0, .int .i32 a0_1, .int .i32 a0_2, .int .i32 a0_3, .int .i64 a0_4, .int .i64 a0_5, .int .i64 a1, .int .i32 a2_0, .int .i32 a2_1, .int .i32 a2_2, .int .i32 a2_3, .int .i64 a2_4, .int .i64 a2_5]) 8) = a2_1 := rfl
  have e9 : valInt ((leaves [.int .i32 a0_0, .int .i32 a0_1, .int .i32 a0_2, .int .i32 a0_3, .int .i64 a0_4, .int .i64 a0_5, .int .i64 a1, .int .i32 a2_0, .int .i32 a2_1, .int .i32 a2_2, .int .i32 a2_3, .int .i64 a2_4, .int .i64 a2_5]) 9) = a2_2 := rfl
  have e10 : valInt ((leaves [.int .i32 a0_0, .int .i32 a0_1, .int .i32 a0_2, .int .i32 a0_3, .int .i64 a0_4, .int .i64 a0_5, .int .i64 a1, .int .i32 a2_0, .int .i32 a2_1, .int .i32 a2_2, .int .i32 a2_3, .int .i64 a2_4, .int .i64 a2_5]) 10) = a2_3 := rfl
  have e11 : valInt ((leaves [.int .i32 a0_0, .int .i32 a0_1, .int .i32 a0_2, .int .i32 a0_3, .int .i64 a0_4, .int .i64 a0_5, .int .i64 a1, .int .i32 a2_0, .int .i32 a2_1, .int .i32 a2_2, .int .i32 a2_3, .int .i64 a2_4, .int .i64 a2_5]) 11) = a2_4 := rfl
  have e12 : valInt ((leaves [.int .i32 a0_0, .int .i32 a0_1, .int .i32 a0_2, .int .i32 a0_3, .int .i64 a0_4, .int .i64 a0_5, .int .i64 a1, .int .i32 a2_0, .int .i32 a2_1, .int .i32 a2_2, .int .i32 a2_3, .int .i64 a2_4, .int .i64 a2_5]) 12) = a2_5 := rfl
  refine deads_of ?_
  simp only [sub39, fs39, DT.deads, List.nil_append, List.append_nil, List.cons_append, noneSay, allSay, Fact.says, eval_lit, eval_leaf, eval_conv, eval_add, eval_sub, wrap_i64, wrap_i32, e0, e1, e2, e3, e4, e5, e6, e7, e8, e9, e10, e11, e12]
  refine ⟨?_, ?_, ?_, trivial⟩ <;> (intro h; omega)
def sub40 : DT := (.split .lss (.leaf 0) (.lit 1) .run (.split .lss (.lit 6) (.leaf 0) .run (.split .lss (.leaf 4) (.lit 0) .run (.split .lss (.leaf 5) (.lit 1) .run (.split .eql (.leaf 0) (.lit 6) (.split .lss (.leaf 3) (.lit 1) .run (.split .lss (.lit 255) (.leaf 3) .run (.split .lss (.conv .i32 (.leaf 6)) (.lit 1) .dead .run))) (.split .eql (.leaf 0) (.lit 4) (.split .eql (.leaf 1) (.lit 0) (.split .eql (.leaf 2) (.lit 0) (.split .eql (.leaf 4) (.lit 0) (.split .eql (.leaf 3) (.lit 0) (.split .lss (.conv .i32 (.leaf 6)) (.lit 1) .dead .run) .run) .run) .run) .run) (.split .eql (.leaf 3) (.lit 0) (.split .lss (.conv .i32 (.leaf 6)) (.lit 1) .dead .run) .run)))))))
def fs40 : List Fact := [⟨.eql, (.leaf 11), (.leaf 4), false⟩, ⟨.eql, (.leaf 7), (.lit 6), true⟩, ⟨.eql, (.leaf 7), (.lit 5), false⟩, ⟨.lss, (.lit 255), (.conv .i32 (.leaf 6)), false⟩, ⟨.lss, (.conv .i32 (.leaf 6)), (.lit 0), false⟩, ⟨.lss, (.lit 256), (.leaf 6), false⟩, ⟨.lss, (.leaf 6), (.lit (-1)), false⟩, ⟨.lss, (.leaf 6), (.lit 255), true⟩, ⟨.lss, (.lit 0), (.leaf 6), true⟩, ⟨.eql, (.leaf 6), (.lit 0), false⟩]
theorem g40 : DT.good cfg34 60 6 args sub40 fs40 = true := by kernel_rfl
set_option maxRecDepth 100000 in
set_option maxHeartbeats 4000000 in
theorem s40 (a0_0 a0_1 a0_2 a0_3 a0_4 a0_5 a1 a2_0 a2_1 a2_2 a2_3 a2_4 a2_5 : Int) (w0_0 : (Lit.int .i32 a0_0).wf = true) (w0_1 : (Lit.int .i32 a0_1).wf = true) (w0_2 : (Lit.int .i32 a0_2).wf = true) (w0_3 : (Lit.int .i32 a0_3).wf = true) (w0_4 : (Lit.int .i64 a0_4).wf = true) (w0_5 : (Lit.int .i64 a0_5).wf = true) (w1 : (Lit.int .i64 a1).wf = true) (w2_0 : (Lit.int .i32 a2_0).wf = true) (w2_1 : (Lit.int .i32 a2_1).wf = true) (w2_2 : (Lit.int .i32 a2_2).wf = true) (w2_3 : (Lit.int .i32 a2_3).wf = true) (w2_4 : (Lit.int .i64 a2_4).wf = true) (w2_5 : (Lit.int .i64 a2_5).wf = true) : ∀ gs ∈ DT.deads sub40 fs40, ¬ FactsOk (leaves [.int .i32 a0_0, .int .i32 a0_1, .int .i32 a0_2, .int .i32 a0_3, .int .i64 a0_4, .int .i64 a0_5, .int .i64 a1, .int .i32 a2_0, .int .i32 a2_1, .int .i32 a2_2, .int .i32 a2_3, .int .i64 a2_4, .int .i64 a2_5]) gs := by
  obtain ⟨l0, u0⟩ := range_i32 w0_0
  obtain ⟨l1, u1⟩ := range_i32 w0_1
  obtain ⟨l2, u2⟩ := range_i32 w0_2
  obtain ⟨l3, u3⟩ := range_i32 w0_3
  obtain ⟨l4, u4⟩ := range_i64 w0_4
  obtain ⟨l5, u5⟩ := range_i64 w0_5
  obtain ⟨l6, u6⟩ := range_i64 w1
  obtain ⟨l7, u7⟩ := range_i32 w2_0
  obtain ⟨l8, u8⟩ := range_i32 w2_1
  obtain ⟨l9, u9⟩ := range_i32 w2_2
  obtain ⟨l10, u10⟩ := range_i32 w2_3
  obtain ⟨l11, u11⟩ := range_i64 w2_4
  obtain ⟨l12, u12⟩ := range_i64 w2_5
  have e0 : valInt ((leaves [.int .i32 a0_0, .int .i32 a0_1, .int .i32 a0_2, .int .i32 a0_3, .int .i64 a0_4, .int .i64 a0_5, .int .i64 a1, .int .i32 a2_0, .int .i32 a2_1, .int .i32 a2_2, .int .i32 a2_3, .int .i64 a2_4, .int .i64 a2_5]) 0) = a0_0 := rfl
  have e1 : valInt ((leaves [.int .i32 a0_0, .int .i32 a0_1, .int .i32 a0_2, .int .i32 a0_3, .int .i64 a0_4, .int .i64 a0_5, .int .i64 a1, .int .i32 a2_0, .int .i32 a2_1, .int .i32 a2_2, .int .i32 a2_3, .int .i64 a2_4, .int .i64 a2_5]) 1) = a0_1 := rfl
  have e2 : valInt ((leaves [.int .i32 a0_0, .int .i32 a0_1, .int .i32 a0_2, .int .i32 a0_3, .int .i64 a0_4, .int .i64 a0_5, .int .i64 a1, .int .i32 a2_0, .int .i32 a2_1, .int .i32 a2_2, .int .i32 a2_3, .int .i64 a2_4, .int .i64 a2_5]) 2) = a0_2 := rfl
  have e3 : valInt ((leaves [.int .i32 a0_0, .int .i32 a0_1, .int .i32 a0_2, .int .i32 a0_3, .int .i64 a0_4, .int .i64 a0_5, .int .i64 a1, .int .i32 a2_0, .int .i32 a2_1, .int .i32 a2_2, .int .i32 a2_3, .int .i64 a2_4, .int .i64 a2_5]) 3) = a0_3 := rfl
  have e4 : valInt ((leaves [.int .i32 a0_0, .int .i32 a0_1, .int .i32 a0_2, .int .i32 a0_3, .int .i64 a0_4, .int .i64 a0_5, .int .i64 a1, .int .i32 a2_0, .int .i32 a2_1, .int .i32 a2_2, .int .i32 a2_3, .int .i64 a2_4, .int .i64 a2_5]) 4) = a0_4 := rfl
  have e5 : valInt ((leaves [.int .i32 a0_0, .int .i32 a0_1, .int .i32 a0_2, .int .i32 a0_3, .int .i64 a0_4, .int .i64 a0_5, .int .i64 a1, .int .i32 a2_0, .int .i32 a2_1, .int .i32 a2_2, .int .i32 a2_3, .int .i64 a2_4, .int .i64 a2_5]) 5) = a0_5 := rfl
  have e6 : valInt ((leaves [.int .i32 a0_0, .int .i32 a0_1, .int .i32 a0_2, .int .i32 a0_3, .int .i64 a0_4, .int .i64 a0_5, .int .i64 a1, .int .i32 a2_0, .int .i32 a2_1, .int .i32 a2_2, .int .i32 a2_3, .int .i64 a2_4, .int .i64 a2_5]) 6) = a1 := rfl
  have e7 : valInt ((leaves [.int .i32 a0_0, .int .i32 a0_1, .int .i32 a0_2, .int .i32 a0_3, .int .i64 a0_4, .int .i64 a0_5, .int .i64 a1, .int .i32 a2_0, .int .i32 a2_1, .int .i32 a2_2, .int .i32 a2_3, .int .i64 a2_4, .int .i64 a2_5]) 7) = a2_0 := rfl
  have e8 : valInt ((leaves [.int .i32 a0_0, .int .i32 a0_1, .int .i32 a0_2, .int .i32 a0_3, .int .i64 a0_4, .int .i64 a0_5, .int .i64 a1, .int .i32 a2_0, .int .i32 a2_1, .int .i32 a2_2, .int .i32 a2_3, .int .i64 a2_4, .int .i64 a2_5]) 8) = a2_1 := rfl
  have e9 : valInt ((leaves [.int .i32 a0_0, .int .i32 a0_1, .int .i32 a0_2, .int .i32 a0_3, .int .i64 a0_4, .int .i64 a0_5, .int .i64 a1, .int .i32 a2_0, .int .i32 a2_1, .int .i32 a2_2, .int .i32 a2_3, .int .i64 a2_4, .int .i64 a2_5]) 9) = a2_2 := rfl
  have e10 : valInt ((leaves [.int .i32 a0_0, .int .i32 a0_1, .int .i32 a0_2, .int .i32 a0_3, .int .i64 a0_4, .int .i64 a0_5, .int .i64 a1, .int .i32 a2_0, .int .i32 a2_1, .int .i32 a2_2, .int .i32 a2_3, .int .i64 a2_4, .int .i64 a2_5]) 10) = a2_3 := rfl
  have e11 : valInt ((leaves [.int .i32 a0_0, .int .i32 a0_1, .int .i32 a0_2, .int .i32 a0_3, .int .i64 a0_4, .int .i64 a0_5, .int .i64 a1, .int .i32 a2_0, .int .i32 a2_1, .int .i32 a2_2, .int .i32 a2_3, .int .i64 a2_4, .int .i64 a2_5]) 11) = a2_4 := rfl
  have e12 : valInt ((leaves [.int .i32 a0_0, .int .i32 a0_1, .int .i32 a0_2, .int .i32 a0_3, .int .i64 a0_4, .int .i64 a0_5, .int .i64 a1, .int .i32 a2_0, .int .i32 a2_1, .int .i32 a2_2, .int .i32 a2_3, .int .i64 a2_4, .int .i64 a2_5]) 12) = a2_5 := rfl
  refine deads_of ?_
  simp only [sub40, fs40, DT.deads, List.nil_append, List.append_nil, List.cons_append, noneSay, allSay, Fact.says, eval_lit, eval_leaf, eval_conv, eval_add, eval_sub, wrap_i64, wrap_i32, e0, e1, e2, e3, e4, e5, e6, e7, e8, e9, e10, e11, e12]
  refine ⟨?_, ?_, ?_, trivial⟩ <;> (intro h; omega)
def sub41 : DT := (.split .lss (.leaf 0) (.lit 1) .run (.split .lss (.lit 6) (.leaf 0) .run (.split .lss (.leaf 4) (.lit 0) .run (.split .lss (.leaf 5) (.lit 1) .run (.split .eql (.leaf 0) (.lit 6) (.split .lss (.leaf 3) (.lit 1) .run (.split .lss (.lit 255) (.leaf 3) .run (.split .lss (.conv .i32 (.leaf 6)) (.lit 1) .dead .run))) (.split .eql (.leaf 0) (.lit 4) (.split .eql (.leaf 1) (.lit 0) (.split .eql (.leaf 2) (.lit 0) (.split .eql (.leaf 4) (.lit 0) (.split .eql (.leaf 3) (.lit 0) (.split .lss (.conv .i32 (.leaf 6)) (.lit 1) .dead .run) .run) .run) .run) .run) (.split .eql (.leaf 3) (.lit 0) (.split .lss (.conv .i32 (.leaf 6)) (.lit 1) .dead .run) .run)))))))
def fs41 : List Fact := [⟨.eql, (.leaf 7), (.lit 6), false⟩, ⟨.eql, (.leaf 7), (.lit 5), false⟩, ⟨.lss, (.lit 255), (.conv .i32 (.leaf 6)), false⟩, ⟨.lss, (.conv .i32 (.leaf 6)), (.lit 0), false⟩, ⟨.lss, (.lit 256), (.leaf 6), false⟩, ⟨.lss, (.leaf 6), (.lit (-1)), false⟩, ⟨.lss, (.leaf 6), (.lit 255), true⟩, ⟨.lss, (.lit 0), (.leaf 6), true⟩, ⟨.eql, (.leaf 6), (.lit 0), false⟩]
theorem g41 : DT.good cfg34 60 6 args sub41 fs41 = true := by kernel_rfl
set_option maxRecDepth 100000 in
set_option maxHeartbeats 4000000 in
theorem s41 (a0_0 a0_1 a0_2 a0_3 a0_4 a0_5 a1 a2_0 a2_1 a2_2 a2_3 a2_4 a2_5 : Int) (w0_0 : (Lit.int .i32 a0_0).wf = true) (w0_1 : (Lit.int .i32 a0_1).wf = true) (w0_2 : (Lit.int .i32 a0_2).wf = true) (w0_3 : (Lit.int .i32 a0_3).wf = true) (w0_4 : (Lit.int .i64 a0_4).wf = true) (w0_5 : (Lit.int .i64 a0_5).wf = true) (w1 : (Lit.int .i64 a1).wf = true) (w2_0 : (Lit.int .i32 a2_0).wf = true) (w2_1 : (Lit.int .i32 a2_1).wf = true) (w2_2 : (Lit.int .i32 a2_2).wf = true) (w2_3 : (Lit.int .i32 a2_3).wf = true) (w2_4 : (Lit.int .i64 a2_4).wf = true) (w2_5 : (Lit.int .i64 a2_5).wf = true) : ∀ gs ∈ DT.deads sub41 fs41, ¬ FactsOk (leaves [.int .i32 a0_0, .int .i32 a0_1, .int .i32 a0_2, .int .i32 a0_3, .int .i64 a0_4, .int .i64 a0_5, .int .i64 a1, .int .i32 a2_0, .int .i32 a2_1, .int .i32 a2_2, .int .i32 a2_3, .int .i64 a2_4, .int .i64 a2_5]) gs := by
  obtain ⟨l0, u0⟩ := range_i32 w0_0
  obtain ⟨l1, u1⟩ := range_i32 w0_1
  obtain ⟨l2, u2⟩ := range_i32 w0_2
  obtain ⟨l3, u3⟩ := range_i32 w0_3
  obtain ⟨l4, u4⟩ := range_i64 w0_4
  obtain ⟨l5, u5⟩ := range_i64 w0_5
  obtain ⟨l6, u6⟩ := range_i64 w1
  obtain ⟨l7, u7⟩ := range_i32 w2_0
  obtain ⟨l8, u8⟩ := range_i32 w2_1
  obtain ⟨l9, u9⟩ := range_i32 w2_2
  obtain ⟨l10, u10⟩ := range_i32 w2_3
  obtain ⟨l11, u11⟩ := range_i64 w2_4
  obtain ⟨l12, u12⟩ := range_i64 w2_5
  have e0 : valInt ((leaves [.int .i32 a0_0, .int .i32 a0_1, .int .i32 a0_2, .int .i32 a0_3, .int .i64 a0_4, .int .i64 a0_5, .int .i64 a1, .int .i32 a2_0, .int .i32 a2_1, .int .i32 a2_2, .int .i32 a2_3, .int .i64 a2_4, .int .i64 a2_5]) 0) = a0_0 := rfl
  have e1 : valInt ((leaves [.int .i32 a0_0, .int .i32 a0_1, .int .i32 a0_2, .int .i32 a0_3, .int .i64 a0_4, .int .i64 a0_5, .int .i64 a1, .int .i32 a2_0, .int .i32 a2_1, .int .i32 a2_2, .int .i32 a2_3, .int .i64 a2_4, .int .i64 a2_5]) 1) = a0_1 := rfl
  have e2 : valInt ((leaves [.int .i32 a0_0, .int .i32 a0_1, .int .i32 a0_2, .int .i32 a0_3, .int .i64 a0_4, .int .i64 a0_5, .int .i64 a1, .int .i32 a2_0, .int .i32 a2_1, .int .i32 a2_2, .int .i32 a2_3, .int .i64 a2_4, .int .i64 a2_5]) 2) = a0_2 := rfl
  have e3 : valInt ((leaves [.int .i32 a0_0, .int .i32 a0_1, .int .i32 a0_2, .int .i32 a0_3, .int .i64 a0_4, .int .i64 a0_5, .int .i64 a1, .int .i32 a2_0, .int .i32 a2_1, .int .i32 a2_2, .int .i32 a2_3, .int .i64 a2_4, .int .i64 a2_5]) 3) = a0_3 := rfl
  have e4 : valInt ((leaves [.int .i32 a0_0, .int .i32 a0_1, .int .i32 a0_2, .int .i32 a0_3, .int .i64 a0_4, .int .i64 a0_5, .int .i64 a1, .int .i32 a2_0, .int .i32 a2_1, .int .i32 a2_2, .int .i32 a2_3, .int .i64 a2_4, .int .i64 a2_5]) 4) = a0_4 := rfl
  have e5 : valInt ((leaves [.int .i32 a0_0, .int .i32 a0_1, .int .i32 a0_2, .int .i32 a0_3, .int .i64 a0_4, .int .i64 a0_5, .int .i64 a1, .int .i32 a2_0, .int .i32 a2_1, .int .i32 a2_2, .int .i32 a2_3, .int .i64 a2_4, .int .i64 a2_5]) 5) = a0_5 := rfl
  have e6 : valInt ((leaves [.int .i32 a0_0, .int .i32 a0_1, .int .i32 a0_2, .int .i32 a0_3, .int .i64 a0_4, .int .i64 a0_5, .int .i64 a1, .int .i32 a2_0, .int .i32 a2_1, .int .i32 a2_2, .int .i32 a2_3, .int .i64 a2_4, .int .i64 a2_5]) 6) = a1 := rfl
  have e7 : valInt ((leaves [.int .i32 a0_0, .int .i32 a0_1, .int .i32 a0_2, .int .i32 a0_3, .int .i64 a0_4, .int .i64 a0_5, .int .i64 a1, .int .i32 a2_0, .int .i32 a2_1, .int .i32 a2_2, .int .i32 a2_3, .int .i64 a2_4, .int .i64 a2_5]) 7) = a2_0 := rfl
  have e8 : valInt ((leaves [.int .i32 a0_0, .int .i32 a0_1, .int .i32 a0_2, .int .i32 a0_3, .int .i64 a0_4, .int .i64 a0_5, .int .i64 a1, .int .i32 a2_0, .int .i32 a2_1, .int .i32 a2_2, .int .i32 a2_3, .int .i64 a2_4, .int .i64 a2_5]) 8) = a2_1 := rfl
  have e9 : valInt ((leaves [.int .i32 a0_0, .int .i32 a0_1, .int .i32 a0_2, .int .i32 a0_3, .int .i64 a0_4, .int .i64 a0_5, .int .i64 a1, .int .i32 a2_0, .int .i32 a2_1, .int .i32 a2_2, .int .i32 a2_3, .int .i64 a2_4, .int .i64 a2_5]) 9) = a2_2 := rfl
  have e10 : valInt ((leaves [.int .i32 a0_0, .int .i32 a0_1, .int .i32 a0_2, .int .i32 a0_3, .int .i64 a0_4, .int .i64 a0_5, .int .i64 a1, .int .i32 a2_0, .int .i32 a2_1, .int .i32 a2_2, .int .i32 a2_3, .int .i64 a2_4, .int .i64 a2_5]) 10) = a2_3 := rfl
  have e11 : valInt ((leaves [.int .i32 a0_0, .int .i32 a0_1, .int .i32 a0_2, .int .i32 a0_3, .int .i64 a0_4, .int .i64 a0_5, .int .i64 a1, .int .i32 a2_0, .int .i32 a2_1, .int .i32 a2_2, .int .i32 a2_3, .int .i64 a2_4, .int .i64 a2_5]) 11) = a2_4 := rfl
  have e12 : valInt ((leaves [.int .i32 a0_0, .int .i32 a0_1, .int .i32 a0_2, .int .i32 a0_3, .int .i64 a0_4, .int .i64 a0_5, .int .i64 a1, .int .i32 a2_0, .int .i32 a2_1, .int .i32 a2_2, .int .i32 a2_3, .int .i64 a2_4, .int .i64 a2_5]) 12) = a2_5 := rfl
  refine deads_of ?_
  simp only [sub41, fs41, DT.deads, List.nil_append, List.append_nil, List.cons_append, noneSay, allSay, Fact.says, eval_lit, eval_leaf, eval_conv, eval_add, eval_sub, wrap_i64, wrap_i32, e0, e1, e2, e3, e4, e5, e6, e7, e8, e9, e10, e11, e12]
  refine ⟨?_, ?_, ?_, trivial⟩ <;> (intro h; omega)
def sub42 : DT := (.split .lss (.leaf 0) (.lit 1) .run (.split .lss (.lit 6) (.leaf 0) .run (.split .lss (.leaf 4) (.lit 0) .run (.split .lss (.leaf 5) (.lit 1) .run (.split .eql (.leaf 0) (.lit 6) (.split .lss (.leaf 3) (.lit 1) .run (.split .lss (.lit 255) (.leaf 3) .run .run)) (.split .eql (.leaf 0) (.lit 4) (.split .eql (.leaf 1) (.lit 0) (.split .eql (.leaf 2) (.lit 0) (.split .eql (.leaf 4) (.lit 0) (.split .eql (.leaf 3) (.lit 0) .run .run) .run) .run) .run) (.split .eql (.leaf 3) (.lit 0) .run .run)))))))
def fs42 : List Fact := [⟨.eql, (.leaf 12), (.leaf 5), true⟩, ⟨.eql, (.leaf 11), (.leaf 4), true⟩, ⟨.eql, (.leaf 7), (.lit 5), true⟩, ⟨.lss, (.leaf 6), (.lit (-1)), true⟩, ⟨.lss, (.leaf 6), (.lit 255), false⟩, ⟨.lss, (.lit 0), (.leaf 6), true⟩, ⟨.eql, (.leaf 6), (.lit 0), false⟩]
theorem g42 : DT.good cfg34 60 6 args sub42 fs42 = true := by kernel_rfl
theorem n42 : DT.deads sub42 fs42 = [] := by kernel_rfl
theorem s42 (a0_0 a0_1 a0_2 a0_3 a0_4 a0_5 a1 a2_0 a2_1 a2_2 a2_3 a2_4 a2_5 : Int) (w0_0 : (Lit.int .i32 a0_0).wf = true) (w0_1 : (Lit.int .i32 a0_1).wf = true) (w0_2 : (Lit.int .i32 a0_2).wf = true) (w0_3 : (Lit.int .i32 a0_3).wf = true) (w0_4 : (Lit.int .i64 a0_4).wf = true) (w0_5 : (Lit.int .i64 a0_5).wf = true) (w1 : (Lit.int .i64 a1).wf = true) (w2_0 : (Lit.int .i32 a2_0).wf = true) (w2_1 : (Lit.int .i32 a2_1).wf = true) (w2_2 : (Lit.int .i32 a2_2).wf = true) (w2_3 : (Lit.int .i32 a2_3).wf = true) (w2_4 : (Lit.int .i64 a2_4).wf = true) (w2_5 : (Lit.int .i64 a2_5).wf = true) : ∀ gs ∈ DT.deads sub42 fs42, ¬ FactsOk (leaves [.int .i32 a0_0, .int .i32 a0_1, .int .i32 a0_2, .int .i32 a0_3, .int .i64 a0_4, .int .i64 a0_5, .int .i64 a1, .int .i32 a2_0, .int .i32 a2_1, .int .i32 a2_2, .int .i32 a2_3, .int .i64 a2_4, .int .i64 a2_5]) gs := by
  rw [n42]
  intro gs h
  cases h
def sub43 : DT := (.split .lss (.leaf 0) (.lit 1) .run (.split .lss (.lit 6) (.leaf 0) .run (.split .lss (.leaf 4) (.lit 0) .run (.split .lss (.leaf 5) (.lit 1) .run (.split .eql (.leaf 0) (.lit 6) (.split .lss (.leaf 3) (.lit 1) .run (.split .lss (.lit 255) (.leaf 3) .run .run)) (.split .eql (.leaf 0) (.lit 4) (.split .eql (.leaf 1) (.lit 0) (.split .eql (.leaf 2) (.lit 0) (.split .eql (.leaf 4) (.lit 0) (.split .eql (.leaf 3) (.lit 0) .run .run) .run) .run) .run) (.split .eql (.leaf 3) (.lit 0) .run .run)))))))
def fs43 : List Fact := [⟨.eql, (.leaf 12), (.leaf 5), false⟩, ⟨.eql, (.leaf 11), (.leaf 4), true⟩, ⟨.eql, (.leaf 7), (.lit 5), true⟩, ⟨.lss, (.leaf 6), (.lit (-1)), true⟩, ⟨.lss, (.leaf 6), (.lit 255), false⟩, ⟨.lss, (.lit 0), (.leaf 6), true⟩, ⟨.eql, (.leaf 6), (.lit 0), false⟩]
theorem g43 : DT.good cfg34 60 6 args sub43 fs43 = true := by kernel_rfl
theorem n43 : DT.deads sub43 fs43 = [] := by kernel_rfl
theorem s43 (a0_0 a0_1 a0_2 a0_3 a0_4 a0_5 a1 a2_0 a2_1 a2_2 a2_3 a2_4 a2_5 : Int) (w0_0 : (Lit.int .i32 a0_0).wf = true) (w0_1 : (Lit.int .i32 a0_1).wf = true) (w0_2 : (Lit.int .i32 a0_2).wf = true) (w0_3 : (Lit.int .i32 a0_3).wf = true) (w0_4 : (Lit.int .i64 a0_4).wf = true) (w0_5 : (Lit.int .i64 a0_5).wf = true) (w1 : (Lit.int .i64 a1).wf = true) (w2_0 : (Lit.int .i32 a2_0).wf = true) (w2_1 : (Lit.int .i32 a2_1).wf = true) (w2_2 : (Lit.int .i32 a2_2).wf = true) (w2_3 : (Lit.int .i32 a2_3).wf = true) (w2_4 : (Lit.int .i64 a2_4).wf = true) (w2_5 : (Lit.int .i64 a2_5).wf = true) : ∀ gs ∈ DT.deads sub43 fs43, ¬ FactsOk (leaves [.int .i32 a0_0, .int .i32 a0_1, .int .i32 a0_2, .int .i32 a0_3, .int .i64 a0_4, .int .i64 a0_5, .int .i64 a1, .int .i32 a2_0, .int .i32 a2_1, .int .i32 a2_2, .int .i32 a2_3, .int .i64 a2_4, .int .i64 a2_5]) gs := by
  rw [n43]
  intro gs h
  cases h
def sub44 : DT := (.split .lss (.leaf 0) (.lit 1) .run (.split .lss (.lit 6) (.leaf 0) .run (.split .lss (.leaf 4) (.lit 0) .run (.split .lss (.leaf 5) (.lit 1) .run (.split .eql (.leaf 0) (.lit 6) (.split .lss (.leaf 3) (.lit 1) .run (.split .lss (.lit 255) (.leaf 3) .run .run)) (.split .eql (.leaf 0) (.lit 4) (.split .eql (.leaf 1) (.lit 0) (.split .eql (.leaf 2) (.lit 0) (.split .eql (.leaf 4) (.lit 0) (.split .eql (.leaf 3) (.lit 0) .run .run) .run) .run) .run) (.split .eql (.leaf 3) (.lit 0) .run .run)))))))
def fs44 : List Fact := [⟨.eql, (.leaf 11), (.leaf 4), false⟩, ⟨.eql, (.leaf 7), (.lit 5), true⟩, ⟨.lss, (.leaf 6), (.lit (-1)), true⟩, ⟨.lss, (.leaf 6), (.lit 255), false⟩, ⟨.lss, (.lit 0), (.leaf 6), true⟩, ⟨.eql, (.leaf 6), (.lit 0), false⟩]
theorem g44 : DT.good cfg34 60 6 args sub44 fs44 = true := by kernel_rfl
theorem n44 : DT.deads sub44 fs44 = [] := by kernel_rfl
theorem s44 (a0_0 a0_1 a0_2 a0_3 a0_4 a0_5 a1 a2_0 a2_1 a2_2 a2_3 a2_4 a2_5 : Int) (w0_0 : (Lit.int .i32 a0_0).wf = true) (w0_1 : (Lit.int .i32 a0_1).wf = true) (w0_2 : (Lit.int .i32 a0_2).wf = true) (w0_3 : (Lit.int .i32 a0_3).wf = true) (w0_4 : (Lit.int .i64 a0_4).wf = true) (w0_5 : (Lit.int .i64 a0_5).wf = true) (w1 : (Lit.int .i64 a1).wf = true) (w2_0 : (Lit.int .i32 a2_0).wf = true) (w2_1 : (Lit.int .i32 a2_1).wf = true) (w2_2 : (Lit.int .i32 a2_2).wf = true) (w2_3 : (Lit.int .i32 a2_3).wf = true) (w2_4 : (Lit.int .i64 a2_4).wf = true) (w2_5 : (Lit.int .i64 a2_5).wf = true) : ∀ gs ∈ DT.deads sub44 fs44, ¬ FactsOk (leaves [.int .i32 a0_0, .int .i32 a0_1, .int .i32 a0_2, .int .i32 a0_3, .int .i64 a0_4, .int .i64 a0_5, .int .i64 a1, .int .i32 a2_0, .int .i32 a2_1, .int .i32 a2_2, .int .i32 a2_3, .int .i64 a2_4, .int .i64 a2_5]) gs := by
  rw [n44]
  intro gs h
  cases h
def sub45 : DT := (.split .lss (.leaf 0) (.lit 1) .run (.split .lss (.lit 6) (.leaf 0) .run (.split .lss (.leaf 4) (.lit 0) .run (.split .lss (.leaf 5) (.lit 1) .run (.split .eql (.leaf 0) (.lit 6) (.split .lss (.leaf 3) (.lit 1) .run (.split .lss (.lit 255) (.leaf 3) .run .run)) (.split .eql (.leaf 0) (.lit 4) (.split .eql (.leaf 1) (.lit 0) (.split .eql (.leaf 2) (.lit 0) (.split .eql (.leaf 4) (.lit 0) (.split .eql (.leaf 3) (.lit 0) .run .run) .run) .run) .run) (.split .eql (.leaf 3) (.lit 0) .run .run)))))))
def fs45 : List Fact := [⟨.eql, (.leaf 12), (.leaf 5), true⟩, ⟨.eql, (.leaf 11), (.leaf 4), true⟩, ⟨.eql, (.leaf 7), (.lit 6), true⟩, ⟨.eql, (.leaf 7), (.lit 5), false⟩, ⟨.lss, (.leaf 6), (.lit (-1)), true⟩, ⟨.lss, (.leaf 6), (.lit 255), false⟩, ⟨.lss, (.lit 0), (.leaf 6), true⟩, ⟨.eql, (.leaf 6), (.lit 0), false⟩]
theorem g45 : DT.good cfg34 60 6 args sub45 fs45 = true := by kernel_rfl
theorem n45 : DT.deads sub45 fs45 = [] := by kernel_rfl
theorem s45 (a0_0 a0_1 a0_2 a0_3 a0_4 a0_5 a1 a2_0 a2_1 a2_2 a2_3 a2_4 a2_5 : Int) (w0_0 : (Lit.int .i32 a0_0).wf = true) (w0_1 : (Lit.int .i32 a0_1).wf = true) (w0_2 : (Lit.int .i32 a0_2).wf = true) (w0_3 : (Lit.int .i32 a0_3).wf = true) (w0_4 : (Lit.int .i64 a0_4).wf = true) (w0_5 : (Lit.int .i64 a0_5).wf = true) (w1 : (Lit.int .i64 a1).wf = true) (w2_0 : (Lit.int .i32 a2_0).wf = true) (w2_1 : (Lit.int .i32 a2_1).wf = true) (w2_2 : (Lit.int .i32 a2_2).wf = true) (w2_3 : (Lit.int .i32 a2_3).wf = true) (w2_4 : (Lit.int .i64 a2_4).wf = true) (w2_5 : (Lit.int .i64 a2_5).wf = true) : ∀ gs ∈ DT.deads sub45 fs45, ¬ FactsOk (leaves [.int .i32 a0_0, .int .i32 a0_1, .int .i32 a0_2, .int .i32 a0_3, .int .i64 a0_4, .int .i64 a0_5, .int .i64 a1, .int .i32 a2_0, .int .i32 a2_1, .int .i32 a2_2, .int .i32 a2_3, .int .i64 a2_4, .int .i64 a2_5]) gs := by
  rw [n45]
  intro gs h
  cases h
def sub46 : DT := (.split .lss (.leaf 0) (.lit 1) .run (.split .lss (.lit 6) (.leaf 0) .run (.split .lss (.leaf 4) (.lit 0) .run (.split .lss (.leaf 5) (.lit 1) .run (.split .eql (.leaf 0) (.lit 6) (.split .lss (.leaf 3) (.lit 1) .run (.split .lss (.lit 255) (.leaf 3) .run .run)) (.split .eql (.leaf 0) (.lit 4) (.split .eql (.leaf 1) (.lit 0) (.split .eql (.leaf 2) (.lit 0) (.split .eql (.leaf 4) (.lit 0) (.split .eql (.leaf 3) (.lit 0) .run .run) .run) .run) .run) (.split .eql (.leaf 3) (.lit 0) .run .run)))))))
def fs46 : List Fact := [⟨.eql, (.leaf 12), (.leaf 5), false⟩, ⟨.eql, (.leaf 11), (.leaf 4), true⟩, ⟨.eql, (.leaf 7), (.lit 6), true⟩, ⟨.eql, (.leaf 7), (.lit 5), false⟩, ⟨.lss, (.leaf 6), (.lit (-1)), true⟩, ⟨.lss, (.leaf 6), (.lit 255), false⟩, ⟨.lss, (.lit 0), (.leaf 6), true⟩, ⟨.eql, (.leaf 6), (.lit 0), false⟩]
theorem g46 : DT.good cfg34 60 6 args sub46 fs46 = true := by kernel_rfl
theorem n46 : DT.deads sub46 fs46 = [] := by kernel_rfl
theorem s46 (a0_0 a0_1 a0_2 a0_3 a0_4 a0_5 a1 a2_0 a2_1 a2_2 a2_3 a2_4 a2_5 : Int) (w0_0 : (Lit.int .i32 a0_0).wf = true) (w0_1 : (Lit.int .i32 a0_1).wf = true) (w0_2 : (Lit.int .i32 a0_2).wf = true) (w0_3 : (Lit.int .i32 a0_3).wf = true) (w0_4 : (Lit.int .i64 a0_4).wf = true) (w0_5 : (Lit.int .i64 a0_5).wf = true) (w1 : (Lit.int .i64 a1).wf = true) (w2_0 : (Lit.int .i32 a2_0).wf = true) (w2_1 : (Lit.int .i32 a2_1).wf = true) (w2_2 : (Lit.int .i32 a2_2).wf = true) (w2_3 : (Lit.int .i32 a2_3).wf = true) (w2_4 : (Lit.int .i64 a2_4).wf = true) (w2_5 : (Lit.int .i64 a2_5).wf = true) : ∀ gs ∈ DT.deads sub46 fs46, ¬ FactsOk (leaves [.int .i32 a0_0, .int .i32 a0_1, .int .i32 a0_2, .int .i32 a0_3, .int .i64 a0_4, .int .i64 a0_5, .int .i64 a1, .int .i32 a2_0, .int .i32 a2_1, .int .i32 a2_2, .int .i32 a2_3, .int .i64 a2_4, .int .i64 a2_5]) gs := by
  rw [n46]
  intro gs h
  cases h
def sub47 : DT := (.split .lss (.leaf 0) (.lit 1) .run (.split .lss (.lit 6) (.leaf 0) .run (.split .lss (.leaf 4) (.lit 0) .run (.split .lss (.leaf 5) (.lit 1) .run (.split .eql (.leaf 0) (.lit 6) (.split .lss (.leaf 3) (.lit 1) .run (.split .lss (.lit 255) (.leaf 3) .run .run)) (.split .eql (.leaf 0) (.lit 4) (.split .eql (.leaf 1) (.lit 0) (.split .eql (.leaf 2) (.lit 0) (.split .eql (.leaf 4) (.lit 0) (.split .eql (.leaf 3) (.lit 0) .run .run) .run) .run) .run) (.split .eql (.leaf 3) (.lit 0) .run .run)))))))
def fs47 : List Fact := [⟨.eql, (.leaf 11), (.leaf 4), false⟩, ⟨.eql, (.leaf 7), (.lit 6), true⟩, ⟨.eql, (.leaf 7), (.lit 5), false⟩, ⟨.lss, (.leaf 6), (.lit (-1)), true⟩, ⟨.lss, (.leaf 6), (.lit 255), false⟩, ⟨.lss, (.lit 0), (.leaf 6), true⟩, ⟨.eql, (.leaf 6), (.lit 0), false⟩]
theorem g47 : DT.good cfg34 60 6 args sub47 fs47 = true := by kernel_rfl
theorem n47 : DT.deads sub47 fs47 = [] := by kernel_rfl
theorem s47 (a0_0 a0_1 a0_2 a0_3 a0_4 a0_5 a1 a2_0 a2_1 a2_2 a2_3 a2_4 a2_5 : Int) (w0_0 : (Lit.int .i32 a0_0).wf = true) (w0_1 : (Lit.int .i32 a0_1).wf = true) (w0_2 : (Lit.int .i32 a0_2).wf = true) (w0_3 : (Lit.int .i32 a0_3).wf = true) (w0_4 : (Lit.int .i64 a0_4).wf = true) (w0_5 : (Lit.int .i64 a0_5).wf = true) (w1 : (Lit.int .i64 a1).wf = true) (w2_0 : (Lit.int .i32 a2_0).wf = true) (w2_1 : (Lit.int .i32 a2_1).wf = true) (w2_2 : (Lit.int .i32 a2_2).wf = true) (w2_3 : (Lit.int .i32 a2_3).wf = true) (w2_4 : (Lit.int .i64 a2_4).wf = true) (w2_5 : (Lit.int .i64 a2_5).wf = true) : ∀ gs ∈ DT.deads sub47 fs47, ¬ FactsOk (leaves [.int .i32 a0_0, .int .i32 a0_1, .int .i32 a0_2, .int .i32 a0_3, .int .i64 a0_4, .int .i64 a0_5, .int .i64 a1, .int .i32 a2_0, .int .i32 a2_1, .int .i32 a2_2, .int .i32 a2_3, .int .i64 a2_4, .int .i64 a2_5]) gs := by
  rw [n47]
  intro gs h
  cases h
def sub48 : DT := (.split .lss (.leaf 0) (.lit 1) .run (.split .lss (.lit 6) (.leaf 0) .run (.split .lss (.leaf 4) (.lit 0) .run (.split .lss (.leaf 5) (.lit 1) .run (.split .eql (.leaf 0) (.lit 6) (.split .lss (.leaf 3) (.lit 1) .run (.split .lss (.lit 255) (.leaf 3) .run .run)) (.split .eql (.leaf 0) (.lit 4) (.split .eql (.leaf 1) (.lit 0) (.split .eql (.leaf 2) (.lit 0) (.split .eql (.leaf 4) (.lit 0) (.split .eql (.leaf 3) (.lit 0) .run .run) .run) .run) .run) (.split .eql (.leaf 3) (.lit 0) .run .run)))))))
def fs48 : List Fact := [⟨.eql, (.leaf 7), (.lit 6), false⟩, ⟨.eql, (.leaf 7), (.lit 5), false⟩, ⟨.lss, (.leaf 6), (.lit (-1)), true⟩, ⟨.lss, (.leaf 6), (.lit 255), false⟩, ⟨.lss, (.lit 0), (.leaf 6), true⟩, ⟨.eql, (.leaf 6), (.lit 0), false⟩]
theorem g48 : DT.good cfg34 60 6 args sub48 fs48 = true := by kernel_rfl
theorem n48 : DT.deads sub48 fs48 = [] := by kernel_rfl
theorem s48 (a0_0 a0_1 a0_2 a0_3 a0_4 a0_5 a1 a2_0 a2_1 a2_2 a2_3 a2_4 a2_5 : Int) (w0_0 : (Lit.int .i32 a0_0).wf = true) (w0_1 : (Lit.int .i32 a0_1).wf = true) (w0_2 : (Lit.int .i32 a0_2).wf = true) (w0_3 : (Lit.int .i32 a0_3).wf = true) (w0_4 : (Lit.int .i64 a0_4).wf = true) (w0_5 : (Lit.int .i64 a0_5).wf = true) (w1 : (Lit.int .i64 a1).wf = true) (w2_0 : (Lit.int .i32 a2_0).wf = true) (w2_1 : (Lit.int .i32 a2_1).wf = true) (w2_2 : (Lit.int .i32 a2_2).wf = true) (w2_3 : (Lit.int .i32 a2_3).wf = true) (w2_4 : (Lit.int .i64 a2_4).wf = true) (w2_5 : (Lit.int .i64 a2_5).wf = true) : ∀ gs ∈ DT.deads sub48 fs48, ¬ FactsOk (leaves [.int .i32 a0_0, .int .i32 a0_1, .int .i32 a0_2, .int .i32 a0_3, .int .i64 a0_4, .int .i64 a0_5, .int .i64 a1, .int .i32 a2_0, .int .i32 a2_1, .int .i32 a2_2, .int .i32 a2_3, .int .i64 a2_4, .int .i64 a2_5]) gs := by
  rw [n48]
  intro gs h
  cases h
def sub49 : DT := (.split .lss (.leaf 0) (.lit 1) .run (.split .lss (.lit 6) (.leaf 0) .run (.split .lss (.leaf 4) (.lit 0) .run (.split .lss (.leaf 5) (.lit 1) .run (.split .eql (.leaf 0) (.lit 6) (.split .lss (.leaf 3) (.lit 1) .run (.split .lss (.lit 255) (.leaf 3) .run .run)) (.split .eql (.leaf 0) (.lit 4) (.split .eql (.leaf 1) (.lit 0) (.split .eql (.leaf 2) (.lit 0) (.split .eql (.leaf 4) (.lit 0) (.split .eql (.leaf 3) (.lit 0) .run .run) .run) .run) .run) (.split .eql (.leaf 3) (.lit 0) .run .run)))))))
def fs49 : List Fact := [⟨.eql, (.leaf 12), (.leaf 5), true⟩, ⟨.eql, (.leaf 11), (.leaf 4), true⟩, ⟨.eql, (.leaf 7), (.lit 5), true⟩, ⟨.lss, (.lit 256), (.leaf 6), true⟩, ⟨.lss, (.leaf 6), (.lit (-1)), false⟩, ⟨.lss, (.leaf 6), (.lit 255), false⟩, ⟨.lss, (.lit 0), (.leaf 6), true⟩, ⟨.eql, (.leaf 6), (.lit 0), false⟩]
theorem g49 : DT.good cfg34 60 6 args sub49 fs49 = true := by kernel_rfl
theorem n49 : DT.deads sub49 fs49 = [] := by kernel_rfl
theorem s49 (a0_0 a0_1 a0_2 a0_3 a0_4 a0_5 a1 a2_0 a2_1 a2_2 a2_3 a2_4 a2_5 : Int) (w0_0 : (Lit.int .i32 a0_0).wf = true) (w0_1 : (Lit.int .i32 a0_1).wf = true) (w0_2 : (Lit.int .i32 a0_2).wf = true) (w0_3 : (Lit.int .i32 a0_3).wf = true) (w0_4 : (Lit.int .i64 a0_4).wf = true) (w0_5 : (Lit.int .i64 a0_5).wf = true) (w1 : (Lit.int .i64 a1).wf = true) (w2_0 : (Lit.int .i32 a2_0).wf = true) (w2_1 : (Lit.int .i32 a2_1).wf = true) (w2_2 : (Lit.int .i32 a2_2).wf = true) (w2_3 : (Lit.int .i32 a2_3).wf = true) (w2_4 : (Lit.int .i64 a2_4).wf = true) (w2_5 : (Lit.int .i64 a2_5).wf = true) : ∀ gs ∈ DT.deads sub49 fs49, ¬ FactsOk (leaves [.int .i32 a0_0, .int .i32 a0_1, .int .i32 a0_2, .int .i32 a0_3, .int .i64 a0_4, .int .i64 a0_5, .int .i64 a1, .int .i32 a2_0, .int .i32 a2_1, .int .i32 a2_2, .int .i32 a2_3, .int .i64 a2_4, .int .i64 a2_5]) gs := by
  rw [n49]
  intro gs h
  cases h
def sub50 : DT := (.split .lss (.leaf 0) (.lit 1) .run (.split .lss (.lit 6) (.leaf 0) .run (.split .lss (.leaf 4) (.lit 0) .run (.split .lss (.leaf 5) (.lit 1) .run (.split .eql (.leaf 0) (.lit 6) (.split .lss (.leaf 3) (.lit 1) .run (.split .lss (.lit 255) (.leaf 3) .run .run)) (.split .eql (.leaf 0) (.lit 4) (.split .eql (.leaf 1) (.lit 0) (.split .eql (.leaf 2) (.lit 0) (.split .eql (.leaf 4) (.lit 0) (.split .eql (.leaf 3) (.lit 0) .run .run) .run) .run) .run) (.split .eql (.leaf 3) (.lit 0) .run .run)))))))
def fs50 : List Fact := [⟨.eql, (.leaf 12), (.leaf 5), false⟩, ⟨.eql, (.leaf 11), (.leaf 4), true⟩, ⟨.eql, (.leaf 7), (.lit 5), true⟩, ⟨.lss, (.lit 256), (.leaf 6), true⟩, ⟨.lss, (.leaf 6), (.lit (-1)), false⟩, ⟨.lss, (.leaf 6), (.lit 255), false⟩, ⟨.lss, (.lit 0), (.leaf 6), true⟩, ⟨.eql, (.leaf 6), (.lit 0), false⟩]
theorem g50 : DT.good cfg34 60 6 args sub50 fs50 = true := by kernel_rfl
theorem n50 : DT.deads sub50 fs50 = [] := by kernel_rfl
theorem s50 (a0_0 a0_1 a0_2 a0_3 a0_4 a0_5 a1 a2_0 a2_1 a2_2 a2_3 a2_4 a2_5 : Int) (w0_0 : (Lit.int .i32 a0_0).wf = true) (w0_1 : (Lit.int .i32 a0_1).wf = true) (w0_2 : (Lit.int .i32 a0_2).wf = true) (w0_3 : (Lit.int .i32 a0_3).wf = true) (w0_4 : (Lit.int .i64 a0_4).wf = true) (w0_5 : (Lit.int .i64 a0_5).wf = true) (w1 : (Lit.int .i64 a1).wf = true) (w2_0 : (Lit.int .i32 a2_0).wf = true) (w2_1 : (Lit.int .i32 a2_1).wf = true) (w2_2 : (Lit.int .i32 a2_2).wf = true) (w2_3 : (Lit.int .i32 a2_3).wf = true) (w2_4 : (Lit.int .i64 a2_4).wf = true) (w2_5 : (Lit.int .i64 a2_5).wf = true) : ∀ gs ∈ DT.deads sub50 fs50, ¬ FactsOk (leaves [.int .i32 a0_0, .int .i32 a0_1, .int .i32 a0_2, .int .i32 a0_3, .int .i64 a0_4, .int .i64 a0_5, .int .i64 a1, .int .i32 a2_0, .int .i32 a2_1, .int .i32 a2_2, .int .i32 a2_3, .int .i64 a2_4, .int .i64 a2_5]) gs := by
  rw [n50]
  intro gs h
  cases h
def sub51 : DT := (.split .lss (.leaf 0) (.lit 1) .run (.split .lss (.lit 6) (.leaf 0) .run (.split .lss (.leaf 4) (.lit 0) .run (.split .lss (.leaf 5) (.lit 1) .run (.split .eql (.leaf 0) (.lit 6) (.split .lss (.leaf 3) (.lit 1) .run (.split .lss (.lit 255) (.leaf 3) .run .run)) (.split .eql (.leaf 0) (.lit 4) (.split .eql (.leaf 1) (.lit 0) (.split .eql (.leaf 2) (.lit 0) (.split .eql (.leaf 4) (.lit 0) (.split .eql (.leaf 3) (.lit 0) .run .run) .run) .run) .run) (.split .eql (.leaf 3) (.lit 0) .run .run)))))))
def fs51 : List Fact := [⟨.eql, (.leaf 11), (.leaf 4), false⟩, ⟨.eql, (.leaf 7), (.lit 5), true⟩, ⟨.lss, (.lit 256), (.leaf 6), true⟩, ⟨.lss, (.leaf 6), (.lit (-1)), false⟩, ⟨.lss, (.leaf 6), (.lit 255), false⟩, ⟨.lss, (.lit 0), (.leaf 6), true⟩, ⟨.eql, (.leaf 6), (.lit 0), false⟩]
theorem g51 : DT.good cfg34 60 6 args sub51 fs51 = true := by kernel_rfl
theorem n51 : DT.deads sub51 fs51 = [] := by kernel_rfl
theorem s51 (a0_0 a0_1 a0_2 a0_3 a0_4 a0_5 a1 a2_0 a2_1 a2_2 a2_3 a2_4 a2_5 : Int) (w0_0 : (Lit.int .i32 a0_0).wf = true) (w0_1 : (Lit.int .i32 a0_1).wf = true) (w0_2 : (Lit.int .i32 a0_2).wf = true) (w0_3 : (Lit.int .i32 a0_3).wf = true) (w0_4 : (Lit.int .i64 a0_4).wf = true) (w0_5 : (Lit.int .i64 a0_5).wf = true) (w1 : (Lit.int .i64 a1).wf = true) (w2_0 : (Lit.int .i32 a2_0).wf = true) (w2_1 : (Lit.int .i32 a2_1).wf = true) (w2_2 : (Lit.int .i32 a2_2).wf = true) (w2_3 : (Lit.int .i32 a2_3).wf = true) (w2_4 : (Lit.int .i64 a2_4).wf = true) (w2_5 : (Lit.int .i64 a2_5).wf = true) : ∀ gs ∈ DT.deads sub51 fs51, ¬ FactsOk (leaves [.int .i32 a0_0, .int .i32 a0_1, .int .i32 a0_2, .int .i32 a0_3, .int .i64 a0_4, .int .i64 a0_5, .int .i64 a1, .int .i32 a2_0, .int .i32 a2_1, .int .i32 a2_2, .int .i32 a2_3, .int .i64 a2_4, .int .i64 a2_5]) gs := by
  rw [n51]
  intro gs h
  cases h
def sub52 : DT := (.split .lss (.leaf 0) (.lit 1) .run (.split .lss (.lit 6) (.leaf 0) .run (.split .lss (.leaf 4) (.lit 0) .run (.split .lss (.leaf 5) (.lit 1) .run (.split .eql (.leaf 0) (.lit 6) (.split .lss (.leaf 3) (.lit 1) .run (.split .lss (.lit 255) (.leaf 3) .run .run)) (.split .eql (.leaf 0) (.lit 4) (.split .eql (.leaf 1) (.lit 0) (.split .eql (.leaf 2) (.lit 0) (.split .eql (.leaf 4) (.lit 0) (.split .eql (.leaf 3) (.lit 0) .run .run) .run) .run) .run) (.split .eql (.leaf 3) (.lit 0) .run .run)))))))
def fs52 : List Fact := [⟨.eql, (.leaf 12), (.leaf 5), true⟩, ⟨.eql, (.leaf 11), (.leaf 4), true⟩, ⟨.eql, (.leaf 7), (.lit 6), true⟩, ⟨.eql, (.leaf 7), (.lit 5), false⟩, ⟨.lss, (.lit 256), (.leaf 6), true⟩, ⟨.lss, (.leaf 6), (.lit (-1)), false⟩, ⟨.lss, (.leaf 6), (.lit 255), false⟩, ⟨.lss, (.lit 0), (.leaf 6), true⟩, ⟨.eql, (.leaf 6), (.lit 0), false⟩]
theorem g52 : DT.good cfg34 60 6 args sub52 fs52 = true := by kernel_rfl
theorem n52 : DT.deads sub52 fs52 = [] := by kernel_rfl
theorem s52 (a0_0 a0_1 a0_2 a0_3 a0_4 a0_5 a1 a2_0 a2_1 a2_2 a2_3 a2_4 a2_5 : Int) (w0_0 : (Lit.int .i32 a0_0).wf = true) (w0_1 : (Lit.int .i32 a0_1).wf = true) (w0_2 : (Lit.int .i32 a0_2).wf = true) (w0_3 : (Lit.int .i32 a0_3).wf = true) (w0_4 : (Lit.int .i64 a0_4).wf = true) (w0_5 : (Lit.int .i64 a0_5).wf = true) (w1 : (Lit.int .i64 a1).wf = true) (w2_0 : (Lit.int .i32 a2_0).wf = true) (w2_1 : (Lit.int .i32 a2_1).wf = true) (w2_2 : (Lit.int .i32 a2_2).wf = true) (w2_3 : (Lit.int .i32 a2_3).wf = true) (w2_4 : (Lit.int .i64 a2_4).wf = true) (w2_5 : (Lit.int .i64 a2_5).wf = true) : ∀ gs ∈ DT.deads sub52 fs52, ¬ FactsOk (leaves [.int .i32 a0_0, .int .i32 a0_1, .int .i32 a0_2, .int .i32 a0_3, .int .i64 a0_4, .int .i64 a0_5, .int .i64 a1, .int .i32 a2_0, .int .i32 a2_1, .int .i32 a2_2, .int .i32 a2_3, .int .i64 a2_4, .int .i64 a2_5]) gs := by
  rw [n52]
  intro gs h
  cases h
def sub53 : DT := (.split .lss (.leaf 0) (.lit 1) .run (.split .lss (.lit 6) (.leaf 0) .run (.split .lss (.leaf 4) (.lit 0) .run (.split .lss (.leaf 5) (.lit 1) .run (.split .eql (.leaf 0) (.lit 6) (.split .lss (.leaf 3) (.lit 1) .run (.split .lss (.lit 255) (.leaf 3) .run .run)) (.split .eql (.leaf 0) (.lit 4) (.split .eql (.leaf 1) (.lit 0) (.split .eql (.leaf 2) (.lit 0) (.split .eql (.leaf 4) (.lit 0) (.split .eql (.leaf 3) (.lit 0) .run .run) .run) .run) .run) (.split .eql (.leaf 3) (.lit 0) .run .run)))))))
def fs53 : List Fact := [⟨.eql, (.leaf 12), (.leaf 5), false⟩, ⟨.eql, (.leaf 11), (.leaf 4), true⟩, ⟨.eql, (.leaf 7), (.lit 6), true⟩, ⟨.eql, (.leaf 7), (.lit 5), false⟩, ⟨.lss, (.lit 256), (.leaf 6), true⟩, ⟨.lss, (.leaf 6), (.lit (-1)), false⟩, ⟨.lss, (.leaf 6), (.lit 255), false⟩, ⟨.lss, (.lit 0), (.leaf 6), true⟩, ⟨.eql, (.leaf 6), (.lit 0), false⟩]
theorem g53 : DT.good cfg34 60 6 args sub53 fs53 = true := by kernel_rfl
theorem n53 : DT.deads sub53 fs53 = [] := by kernel_rfl
theorem s53 (a0_0 a0_1 a0_2 a0_3 a0_4 a0_5 a1 a2_0 a2_1 a2_2 a2_3 a2_4 a2_5 : Int) (w0_0 : (Lit.int .i32 a0_0).wf = true) (w0_1 : (Lit.int .i32 a0_1).wf = true) (w0_2 : (Lit.int .i32 a0_2).wf = true) (w0_3 : (Lit.int .i32 a0_3).wf = true) (w0_4 : (Lit.int .i64 a0_4).wf = true) (w0_5 : (Lit.int .i64 a0_5).wf = true) (w1 : (Lit.int .i64 a1).wf = true) (w2_0 : (Lit.int .i32 a2_0).wf = true) (w2_1 : (Lit.int .i32 a2_1).wf = true) (w2_2 : (Lit.int .i32 a2_2).wf = true) (w2_3 : (Lit.int .i32 a2_3).wf = true) (w2_4 : (Lit.int .i64 a2_4).wf = true) (w2_5 : (Lit.int .i64 a2_5).wf = true) : ∀ gs ∈ DT.deads sub53 fs53, ¬ FactsOk (leaves [.int .i32 a0_0, .int .i32 a0_1, .int .i32 a0_2, .int .i32 a0_3, .int .i64 a0_4, .int .i64 a0_5, .int .i64 a1, .int .i32 a2_0, .int .i32 a2_1, .int .i32 a2_2, .int .i32 a2_3, .int .i64 a2_4, .int .i64 a2_5]) gs := by
  rw [n53]
  intro gs h
  cases h
def sub54 : DT := (.split .lss (.leaf 0) (.lit 1) .run (.split .lss (.lit 6) (.leaf 0) .run (.split .lss (.leaf 4) (.lit 0) .run (.split .lss (.leaf 5) (.lit 1) .run (.split .eql (.leaf 0) (.lit 6) (.split .lss (.leaf 3) (.lit 1) .run (.split .lss (.lit 255) (.leaf 3) .run .run)) (.split .eql (.leaf 0) (.lit 4) (.split .eql (.leaf 1) (.lit 0) (.split .eql (.leaf 2) (.lit 0) (.split .eql (.leaf 4) (.lit 0) (.split .eql (.leaf 3) (.lit 0) .run .run) .run) .run) .run) (.split .eql (.leaf 3) (.lit 0) .run .run)))))))
def fs54 : List Fact := [⟨.eql, (.leaf 11), (.leaf 4), false⟩, ⟨.eql, (.leaf 7), (.lit 6), true⟩, ⟨.eql, (.leaf 7), (.lit 5), false⟩, ⟨.lss, (.lit 256), (.leaf 6), true⟩, ⟨.lss, (.leaf 6), (.lit (-1)), false⟩, ⟨.lss, (.leaf 6), (.lit 255), false⟩, ⟨.lss, (.lit 0), (.leaf 6), true⟩, ⟨.eql, (.leaf 6), (.lit 0), false⟩]
theorem g54 : DT.good cfg34 60 6 args sub54 fs54 = true := by kernel_rfl
theorem n54 : DT.deads sub54 fs54 = [] := by kernel_rfl
theorem s54 (a0_0 a0_1 a0_2 a0_3 a0_4 a0_5 a1 a2_0 a2_1 a2_2 a2_3 a2_4 a2_5 : Int) (w0_0 : (Lit.int .i32 a0_0).wf = true) (w0_1 : (Lit.int .i32 a0_1).wf = true) (w0_2 : (Lit.int .i32 a0_2).wf = true) (w0_3 : (Lit.int .i32 a0_3).wf = true) (w0_4 : (Lit.int .i64 a0_4).wf = true) (w0_5 : (Lit.int .i64 a0_5).wf = true) (w1 : (Lit.int .i64 a1).wf = true) (w2_0 : (Lit.int .i32 a2_0).wf = true) (w2_1 : (Lit.int .i32 a2_1).wf = true) (w2_2 : (Lit.int .i32 a2_2).wf = true) (w2_3 : (Lit.int .i32 a2_3).wf = true) (w2_4 : (Lit.int .i64 a2_4).wf = true) (w2_5 : (Lit.int .i64 a2_5).wf = true) : ∀ gs ∈ DT.deads sub54 fs54, ¬ FactsOk (leaves [.int .i32 a0_0, .int .i32 a0_1, .int .i32 a0_2, .int .i32 a0_3, .int .i64 a0_4, .int .i64 a0_5, .int .i64 a1, .int .i32 a2_0, .int .i32 a2_1, .int .i32 a2_2, .int .i32 a2_3, .int .i64 a2_4, .int .i64 a2_5]) gs := by
  rw [n54]
  intro gs h
  cases h
def sub55 : DT := (.split .lss (.leaf 0) (.lit 1) .run (.split .lss (.lit 6) (.leaf 0) .run (.split .lss (.leaf 4) (.lit 0) .run (.split .lss (.leaf 5) (.lit 1) .run (.split .eql (.leaf 0) (.lit 6) (.split .lss (.leaf 3) (.lit 1) .run (.split .lss (.lit 255) (.leaf 3) .run .run)) (.split .eql (.leaf 0) (.lit 4) (.split .eql (.leaf 1) (.lit 0) (.split .eql (.leaf 2) (.lit 0) (.split .eql (.leaf 4) (.lit 0) (.split .eql (.leaf 3) (.lit 0) .run .run) .run) .run) .run) (.split .eql (.leaf 3) (.lit 0) .run .run)))))))
def fs55 : List Fact := [⟨.eql, (.leaf 7), (.lit 6), false⟩, ⟨.eql, (.leaf 7), (.lit 5), false⟩, ⟨.lss, (.lit 256), (.leaf 6), true⟩, ⟨.lss, (.leaf 6), (.lit (-1)), false⟩, ⟨.lss, (.leaf 6), (.lit 255), false⟩, ⟨.lss, (.lit 0), (.leaf 6), true⟩, ⟨.eql, (.leaf 6), (.lit 0), false⟩]
theorem g55 : DT.good cfg34 60 6 args sub55 fs55 = true := by kernel_rfl
theorem n55 : DT.deads sub55 fs55 = [] := by kernel_rfl
theorem s55 (a0_0 a0_1 a0_2 a0_3 a0_4 a0_5 a1 a2_0 a2_1 a2_2 a2_3 a2_4 a2_5 : Int) (w0_0 : (Lit.int .i32 a0_0).wf = true) (w0_1 : (Lit.int .i32 a0_1).wf = true) (w0_2 : (Lit.int .i32 a0_2).wf = true) (w0_3 : (Lit.int .i32 a0_3).wf = true) (w0_4 : (Lit.int .i64 a0_4).wf = true) (w0_5 : (Lit.int .i64 a0_5).wf = true) (w1 : (Lit.int .i64 a1).wf = true) (w2_0 : (Lit.int .i32 a2_0).wf = true) (w2_1 : (Lit.int .i32 a2_1).wf = true) (w2_2 : (Lit.int .i32 a2_2).wf = true) (w2_3 : (Lit.int .i32 a2_3).wf = true) (w2_4 : (Lit.int .i64 a2_4).wf = true) (w2_5 : (Lit.int .i64 a2_5).wf = true) : ∀ gs ∈ DT.deads sub55 fs55, ¬ FactsOk (leaves [.int .i32 a0_0, .int .i32 a0_1, .int .i32 a0_2, .int .i32 a0_3, .int .i64 a0_4, .int .i64 a0_5, .int .i64 a1, .int .i32 a2_0, .int .i32 a2_1, .int .i32 a2_2, .int .i32 a2_3, .int .i64 a2_4, .int .i64 a2_5]) gs := by
  rw [n55]
  intro gs h
  cases h

end Go.Proofs.Ytgoempphfnagnaa.ans
