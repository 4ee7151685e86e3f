/-
  No cell of these rows narrows 'for every input' (looked for: loops, veiled, ifaces, maps, wideKeys, modest, calm, conditions, laid).
  DERIVED. THE GIVEN ROWS OF THIS SEAT. 5 by the template 'for every input the law returns true; each argument reads behind the call as it read before'; 0 by the template 'total and deterministic' (their statements: YtgoempphfnagnaaTotals.lean).
  GIVEN WITH THE SEED: the statements are not yours to turn. If you find one false, say at which input.
  Laid BY PROGRAM, IN A SANDBOX (cutbox-rows.mjs): the forced cells as the released guide's own fill.sh prints them over the translation 01f12222ee63b113… (all of the seat's roots in one cut). By AI agents, Wed Nov 11 2026. No macro, syntax, notation, axiom, sorry.
-/
import Derived.Test.YtgoempphfnagnaaChecked
import GoSem.Claim
import GoSem.ClaimJoined
import GoSem.ClaimMapViews
import Derived.JoinedTies
import Derived.KernelRfl
namespace Go.Proofs.Ytgoempphfnagnaa
/- THE CELL 'sum', in the pinned program and in every row, IS THE sha256 OF THE DUMP (.gsa) THAT YtgoempphfnagnaaProg.lean LOADS. Nothing in Lean hashes anything: it is a label: what it is worth is what the hold of that sum in a sandbox is worth. -/
noncomputable def Try.pinned : Pinned := { name := "ytgoempphfnagnaa", sum := "01f12222ee63b113da5f7e4c5db332ef8b16fc87521cc3dac4b79cc246774e84", checked := Try.checked }
namespace Rows
def none {H : Type} : Left H := { results := [], args := [] }

/-- 'millstreamlaw20.JoinNil': WHATEVER THE INPUT: true; the input reads as it did. -/
def joinNilSpec : ChangeSpec := { name := "joinNil", fn := fun _ => fun
  | [d] => { results := [.lit (.bool true)], args := [d] }
  | _ => none }
def joinNilRow : OpenClaim := { program := "ytgoempphfnagnaa", sum := "01f12222ee63b113da5f7e4c5db332ef8b16fc87521cc3dac4b79cc246774e84", func := "millstream/millstreamlaw20.JoinNil", spec := "joinNil", apart := false }
def JoinNilSaid : Prop := joinNilRow.holds Try.pinned (OpenSpec.ofChange joinNilSpec)

/-- ITS FALSE NEIGHBOUR: 'it returns false'. Refute it at one input. -/
def joinNilWrong : ChangeSpec := { name := "joinNil", fn := fun _ => fun
  | [d] => { results := [.lit (.bool false)], args := [d] }
  | _ => none }
def JoinNilWrongFalsely : Prop := joinNilRow.holds Try.pinned (OpenSpec.ofChange joinNilWrong)

/-- 'millstreamlaw21.CleanNil': WHATEVER THE INPUT: true; the input reads as it did. -/
def cleanNilSpec : ChangeSpec := { name := "cleanNil", fn := fun _ => fun
  | [d] => { results := [.lit (.bool true)], args := [d] }
  | _ => none }
def cleanNilRow : OpenClaim := { program := "ytgoempphfnagnaa", sum := "01f12222ee63b113da5f7e4c5db332ef8b16fc87521cc3dac4b79cc246774e84", func := "millstream/millstreamlaw21.CleanNil", spec := "cleanNil", inPlace := ["sync/atomic.AddInt64", "sync/atomic.LoadUint64", "sync/atomic.CompareAndSwapUint64", "sync/atomic.AddUint64"], unfollowed := true, recurses := true, apart := false }
def CleanNilSaid : Prop := cleanNilRow.holds Try.pinned (OpenSpec.ofChange cleanNilSpec)

/-- ITS FALSE NEIGHBOUR: 'it returns false'. Refute it at one input. -/
def cleanNilWrong : ChangeSpec := { name := "cleanNil", fn := fun _ => fun
  | [d] => { results := [.lit (.bool false)], args := [d] }
  | _ => none }
def CleanNilWrongFalsely : Prop := cleanNilRow.holds Try.pinned (OpenSpec.ofChange cleanNilWrong)

/-- 'millstreamlaw14.MetaPlaces': WHATEVER THE INPUT: true; the input reads as it did. -/
def metaPlacesSpec : ChangeSpec := { name := "metaPlaces", fn := fun _ => fun
  | [d1, d2, d3] => { results := [.lit (.bool true)], args := [d1, d2, d3] }
  | _ => none }
def metaPlacesRow : OpenClaim := { program := "ytgoempphfnagnaa", sum := "01f12222ee63b113da5f7e4c5db332ef8b16fc87521cc3dac4b79cc246774e84", func := "millstream/millstreamlaw14.MetaPlaces", spec := "metaPlaces", apart := false }
def MetaPlacesSaid : Prop := metaPlacesRow.holds Try.pinned (OpenSpec.ofChange metaPlacesSpec)

/-- ITS FALSE NEIGHBOUR: 'it returns false'. Refute it at one input. -/
def metaPlacesWrong : ChangeSpec := { name := "metaPlaces", fn := fun _ => fun
  | [d1, d2, d3] => { results := [.lit (.bool false)], args := [d1, d2, d3] }
  | _ => none }
def MetaPlacesWrongFalsely : Prop := metaPlacesRow.holds Try.pinned (OpenSpec.ofChange metaPlacesWrong)

/-- 'millstreamlaw34.CommandAnswers': WHATEVER THE INPUT: true; the input reads as it did. -/
def commandAnswersSpec : ChangeSpec := { name := "commandAnswers", fn := fun _ => fun
  | [d1, d2, d3] => { results := [.lit (.bool true)], args := [d1, d2, d3] }
  | _ => none }
def commandAnswersRow : OpenClaim := { program := "ytgoempphfnagnaa", sum := "01f12222ee63b113da5f7e4c5db332ef8b16fc87521cc3dac4b79cc246774e84", func := "millstream/millstreamlaw34.CommandAnswers", spec := "commandAnswers", unfollowed := true, recurses := true, apart := false }
def CommandAnswersSaid : Prop := commandAnswersRow.holds Try.pinned (OpenSpec.ofChange commandAnswersSpec)

/-- ITS FALSE NEIGHBOUR: 'it returns false'. Refute it at one input. -/
def commandAnswersWrong : ChangeSpec := { name := "commandAnswers", fn := fun _ => fun
  | [d1, d2, d3] => { results := [.lit (.bool false)], args := [d1, d2, d3] }
  | _ => none }
def CommandAnswersWrongFalsely : Prop := commandAnswersRow.holds Try.pinned (OpenSpec.ofChange commandAnswersWrong)

/-- 'millstreamlaw34.CommandBytes': WHATEVER THE INPUT: true; the input reads as it did. -/
def commandBytesSpec : ChangeSpec := { name := "commandBytes", fn := fun _ => fun
  | [d] => { results := [.lit (.bool true)], args := [d] }
  | _ => none }
def commandBytesRow : OpenClaim := { program := "ytgoempphfnagnaa", sum := "01f12222ee63b113da5f7e4c5db332ef8b16fc87521cc3dac4b79cc246774e84", func := "millstream/millstreamlaw34.CommandBytes", spec := "commandBytes", unfollowed := true, recurses := true, apart := false }
def CommandBytesSaid : Prop := commandBytesRow.holds Try.pinned (OpenSpec.ofChange commandBytesSpec)

/-- ITS FALSE NEIGHBOUR: 'it returns false'. Refute it at one input. -/
def commandBytesWrong : ChangeSpec := { name := "commandBytes", fn := fun _ => fun
  | [d] => { results := [.lit (.bool false)], args := [d] }
  | _ => none }
def CommandBytesWrongFalsely : Prop := commandBytesRow.holds Try.pinned (OpenSpec.ofChange commandBytesWrong)

/- THE SECOND FORM. 'bulk': how many values and letters a reading holds, each counted each time it is reached (what is shared counts as often as it is met; a slice's spare places count too). A statement '..UptoSaid' is the law's where the arguments, and the package variables that the reading takes, are together of bulk at most 1048576: NARROWER than '..Said'. Prove '..Said' where nothing that the law and all that it calls make is longer than what came in: it says more and counts as full. Else prove '..UptoSaid'. A law counts once. -/
mutual
def uptoBulk {H : Type} : DataW H → Nat
  | .lit (.string bytes) => bytes.length + 1
  | .lit _ => 1
  | .nil => 1
  | .ptr d => uptoBulk d + 1
  | .slice elems spare => uptoBulkAll elems + uptoBulkAll spare + 1
  | .agg parts => uptoBulkAll parts + 1
  | .iface _ d => uptoBulk d + 1
  | .map entries => uptoBulkEntries entries + 1
  | .held _ => 1
def uptoBulkAll {H : Type} : List (DataW H) → Nat
  | [] => 0
  | d :: r => uptoBulk d + uptoBulkAll r
def uptoBulkEntries {H : Type} : List (Lit × DataW H) → Nat
  | [] => 0
  | x :: r => uptoBulkEntry x + uptoBulkEntries r
def uptoBulkEntry {H : Type} : Lit × DataW H → Nat
  | (.string bytes, d) => bytes.length + uptoBulk d + 1
  | (_, d) => uptoBulk d + 1
 end
def uptoSmall : (H : Type) → List (DataW H) → Bool := fun _ ds => decide (uptoBulkAll ds ≤ 1048576)
def OpenSpec.upto (s : _root_.Go.ChangeSpec) : _root_.Go.OpenSpec := { _root_.Go.OpenSpec.ofChange s with cond := some uptoSmall }

/-- 'millstreamlaw20.JoinNil', WHERE WHAT IT READS IS OF BULK AT MOST 1048576: true; the input reads as it did. -/
def joinNilUptoRow : OpenClaim := { program := "ytgoempphfnagnaa", sum := "01f12222ee63b113da5f7e4c5db332ef8b16fc87521cc3dac4b79cc246774e84", func := "millstream/millstreamlaw20.JoinNil", spec := "joinNil", apart := false, narrowed := true }
def JoinNilUptoSaid : Prop := joinNilUptoRow.holds Try.pinned (OpenSpec.upto joinNilSpec)

/-- 'millstreamlaw21.CleanNil', WHERE WHAT IT READS IS OF BULK AT MOST 1048576: true; the input reads as it did. -/
def cleanNilUptoRow : OpenClaim := { program := "ytgoempphfnagnaa", sum := "01f12222ee63b113da5f7e4c5db332ef8b16fc87521cc3dac4b79cc246774e84", func := "millstream/millstreamlaw21.CleanNil", spec := "cleanNil", inPlace := ["sync/atomic.AddInt64", "sync/atomic.LoadUint64", "sync/atomic.CompareAndSwapUint64", "sync/atomic.AddUint64"], unfollowed := true, recurses := true, apart := false, narrowed := true }
def CleanNilUptoSaid : Prop := cleanNilUptoRow.holds Try.pinned (OpenSpec.upto cleanNilSpec)

/-- 'millstreamlaw14.MetaPlaces', WHERE WHAT IT READS IS OF BULK AT MOST 1048576: true; the input reads as it did. -/
def metaPlacesUptoRow : OpenClaim := { program := "ytgoempphfnagnaa", sum := "01f12222ee63b113da5f7e4c5db332ef8b16fc87521cc3dac4b79cc246774e84", func := "millstream/millstreamlaw14.MetaPlaces", spec := "metaPlaces", apart := false, narrowed := true }
def MetaPlacesUptoSaid : Prop := metaPlacesUptoRow.holds Try.pinned (OpenSpec.upto metaPlacesSpec)

/-- 'millstreamlaw34.CommandAnswers', WHERE WHAT IT READS IS OF BULK AT MOST 1048576: true; the input reads as it did. -/
def commandAnswersUptoRow : OpenClaim := { program := "ytgoempphfnagnaa", sum := "01f12222ee63b113da5f7e4c5db332ef8b16fc87521cc3dac4b79cc246774e84", func := "millstream/millstreamlaw34.CommandAnswers", spec := "commandAnswers", unfollowed := true, recurses := true, apart := false, narrowed := true }
def CommandAnswersUptoSaid : Prop := commandAnswersUptoRow.holds Try.pinned (OpenSpec.upto commandAnswersSpec)

/-- 'millstreamlaw34.CommandBytes', WHERE WHAT IT READS IS OF BULK AT MOST 1048576: true; the input reads as it did. -/
def commandBytesUptoRow : OpenClaim := { program := "ytgoempphfnagnaa", sum := "01f12222ee63b113da5f7e4c5db332ef8b16fc87521cc3dac4b79cc246774e84", func := "millstream/millstreamlaw34.CommandBytes", spec := "commandBytes", unfollowed := true, recurses := true, apart := false, narrowed := true }
def CommandBytesUptoSaid : Prop := commandBytesUptoRow.holds Try.pinned (OpenSpec.upto commandBytesSpec)

end Rows
end Go.Proofs.Ytgoempphfnagnaa
