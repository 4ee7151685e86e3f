/-
  No cell of these rows narrows 'for every input' (looked for: loops, veiled, ifaces, maps, wideKeys, modest, calm, conditions, laid).
  DERIVED. THE GIVEN ROWS OF THIS SEAT. 6 by the template 'for every input the law returns true; each argument reads behind the call as it read before'; 0 by the template 'total and deterministic' (their statements: YthjmedocjndakaaTotals.lean).
  GIVEN WITH THE SEED: the statements are not yours to turn. If you find one false, say at which input.
  Laid BY PROGRAM, IN A SANDBOX (cutbox-rows.mjs): the forced cells as the released guide's own fill.sh prints them over the translation b63eae2c673ad0cd… (all of the seat's roots in one cut). By AI agents, Wed Nov 11 2026. No macro, syntax, notation, axiom, sorry.
-/
import Derived.Test.YthjmedocjndakaaChecked
import GoSem.Claim
import GoSem.ClaimJoined
import GoSem.ClaimMapViews
import Derived.JoinedTies
import Derived.KernelRfl
namespace Go.Proofs.Ythjmedocjndakaa
/- THE CELL 'sum', in the pinned program and in every row, IS THE sha256 OF THE DUMP (.gsa) THAT YthjmedocjndakaaProg.lean LOADS. Nothing in Lean hashes anything: it is a label: what it is worth is what the hold of that sum in a sandbox is worth. -/
noncomputable def Try.pinned : Pinned := { name := "ythjmedocjndakaa", sum := "b63eae2c673ad0cd6bcfb3cf79321cc147a37467752f1e79931d73b9d3720660", checked := Try.checked }
namespace Rows
def none {H : Type} : Left H := { results := [], args := [] }

/-- 'millstreamlaw03.HeadRecords': WHATEVER THE INPUT: true; the input reads as it did. -/
def headRecordsSpec : ChangeSpec := { name := "headRecords", fn := fun _ => fun
  | [d1, d2, d3] => { results := [.lit (.bool true)], args := [d1, d2, d3] }
  | _ => none }
def headRecordsRow : OpenClaim := { program := "ythjmedocjndakaa", sum := "b63eae2c673ad0cd6bcfb3cf79321cc147a37467752f1e79931d73b9d3720660", func := "millstream/millstreamlaw03.HeadRecords", spec := "headRecords", apart := false }
def HeadRecordsSaid : Prop := headRecordsRow.holds Try.pinned (OpenSpec.ofChange headRecordsSpec)

/-- ITS FALSE NEIGHBOUR: 'it returns false'. Refute it at one input. -/
def headRecordsWrong : ChangeSpec := { name := "headRecords", fn := fun _ => fun
  | [d1, d2, d3] => { results := [.lit (.bool false)], args := [d1, d2, d3] }
  | _ => none }
def HeadRecordsWrongFalsely : Prop := headRecordsRow.holds Try.pinned (OpenSpec.ofChange headRecordsWrong)

/-- 'millstreamlaw03.HeadFrames': WHATEVER THE INPUT: true; the input reads as it did. -/
def headFramesSpec : ChangeSpec := { name := "headFrames", fn := fun _ => fun
  | [d1, d2] => { results := [.lit (.bool true)], args := [d1, d2] }
  | _ => none }
def headFramesRow : OpenClaim := { program := "ythjmedocjndakaa", sum := "b63eae2c673ad0cd6bcfb3cf79321cc147a37467752f1e79931d73b9d3720660", func := "millstream/millstreamlaw03.HeadFrames", spec := "headFrames", apart := false }
def HeadFramesSaid : Prop := headFramesRow.holds Try.pinned (OpenSpec.ofChange headFramesSpec)

/-- ITS FALSE NEIGHBOUR: 'it returns false'. Refute it at one input. -/
def headFramesWrong : ChangeSpec := { name := "headFrames", fn := fun _ => fun
  | [d1, d2] => { results := [.lit (.bool false)], args := [d1, d2] }
  | _ => none }
def HeadFramesWrongFalsely : Prop := headFramesRow.holds Try.pinned (OpenSpec.ofChange headFramesWrong)

/-- 'millstreamlaw03.HeadSizes': WHATEVER THE INPUT: true; the input reads as it did. -/
def headSizesSpec : ChangeSpec := { name := "headSizes", fn := fun _ => fun
  | [d1, d2, d3] => { results := [.lit (.bool true)], args := [d1, d2, d3] }
  | _ => none }
def headSizesRow : OpenClaim := { program := "ythjmedocjndakaa", sum := "b63eae2c673ad0cd6bcfb3cf79321cc147a37467752f1e79931d73b9d3720660", func := "millstream/millstreamlaw03.HeadSizes", spec := "headSizes", apart := false }
def HeadSizesSaid : Prop := headSizesRow.holds Try.pinned (OpenSpec.ofChange headSizesSpec)

/-- ITS FALSE NEIGHBOUR: 'it returns false'. Refute it at one input. -/
def headSizesWrong : ChangeSpec := { name := "headSizes", fn := fun _ => fun
  | [d1, d2, d3] => { results := [.lit (.bool false)], args := [d1, d2, d3] }
  | _ => none }
def HeadSizesWrongFalsely : Prop := headSizesRow.holds Try.pinned (OpenSpec.ofChange headSizesWrong)

/-- 'millstreamlaw04.PlaceTells': WHATEVER THE INPUT: true; the input reads as it did. -/
def placeTellsSpec : ChangeSpec := { name := "placeTells", fn := fun _ => fun
  | [d1, d2, d3, d4, d5] => { results := [.lit (.bool true)], args := [d1, d2, d3, d4, d5] }
  | _ => none }
def placeTellsRow : OpenClaim := { program := "ythjmedocjndakaa", sum := "b63eae2c673ad0cd6bcfb3cf79321cc147a37467752f1e79931d73b9d3720660", func := "millstream/millstreamlaw04.PlaceTells", spec := "placeTells", apart := false }
def PlaceTellsSaid : Prop := placeTellsRow.holds Try.pinned (OpenSpec.ofChange placeTellsSpec)

/-- ITS FALSE NEIGHBOUR: 'it returns false'. Refute it at one input. -/
def placeTellsWrong : ChangeSpec := { name := "placeTells", fn := fun _ => fun
  | [d1, d2, d3, d4, d5] => { results := [.lit (.bool false)], args := [d1, d2, d3, d4, d5] }
  | _ => none }
def PlaceTellsWrongFalsely : Prop := placeTellsRow.holds Try.pinned (OpenSpec.ofChange placeTellsWrong)

/-- 'millstreamlaw04.PlaceBack': WHATEVER THE INPUT: true; the input reads as it did. -/
def placeBackSpec : ChangeSpec := { name := "placeBack", fn := fun _ => fun
  | [d1, d2, d3] => { results := [.lit (.bool true)], args := [d1, d2, d3] }
  | _ => none }
def placeBackRow : OpenClaim := { program := "ythjmedocjndakaa", sum := "b63eae2c673ad0cd6bcfb3cf79321cc147a37467752f1e79931d73b9d3720660", func := "millstream/millstreamlaw04.PlaceBack", spec := "placeBack", apart := false }
def PlaceBackSaid : Prop := placeBackRow.holds Try.pinned (OpenSpec.ofChange placeBackSpec)

/-- ITS FALSE NEIGHBOUR: 'it returns false'. Refute it at one input. -/
def placeBackWrong : ChangeSpec := { name := "placeBack", fn := fun _ => fun
  | [d1, d2, d3] => { results := [.lit (.bool false)], args := [d1, d2, d3] }
  | _ => none }
def PlaceBackWrongFalsely : Prop := placeBackRow.holds Try.pinned (OpenSpec.ofChange placeBackWrong)

/-- 'millstreamlaw04.PlaceTails': WHATEVER THE INPUT: true; the input reads as it did. -/
def placeTailsSpec : ChangeSpec := { name := "placeTails", fn := fun _ => fun
  | [d1, d2, d3] => { results := [.lit (.bool true)], args := [d1, d2, d3] }
  | _ => none }
def placeTailsRow : OpenClaim := { program := "ythjmedocjndakaa", sum := "b63eae2c673ad0cd6bcfb3cf79321cc147a37467752f1e79931d73b9d3720660", func := "millstream/millstreamlaw04.PlaceTails", spec := "placeTails", apart := false }
def PlaceTailsSaid : Prop := placeTailsRow.holds Try.pinned (OpenSpec.ofChange placeTailsSpec)

/-- ITS FALSE NEIGHBOUR: 'it returns false'. Refute it at one input. -/
def placeTailsWrong : ChangeSpec := { name := "placeTails", fn := fun _ => fun
  | [d1, d2, d3] => { results := [.lit (.bool false)], args := [d1, d2, d3] }
  | _ => none }
def PlaceTailsWrongFalsely : Prop := placeTailsRow.holds Try.pinned (OpenSpec.ofChange placeTailsWrong)

/- THE SECOND FORM. 'bulk': how many values and letters a reading holds, each counted each time it is reached (what is shared counts as often as it is met; a slice's spare places count too). A statement '..UptoSaid' is the law's where the arguments, and the package variables that the reading takes, are together of bulk at most 1048576: NARROWER than '..Said'. Prove '..Said' where nothing that the law and all that it calls make is longer than what came in: it says more and counts as full. Else prove '..UptoSaid'. A law counts once. -/
mutual
def uptoBulk {H : Type} : DataW H → Nat
  | .lit (.string bytes) => bytes.length + 1
  | .lit _ => 1
  | .nil => 1
  | .ptr d => uptoBulk d + 1
  | .slice elems spare => uptoBulkAll elems + uptoBulkAll spare + 1
  | .agg parts => uptoBulkAll parts + 1
  | .iface _ d => uptoBulk d + 1
  | .map entries => uptoBulkEntries entries + 1
  | .held _ => 1
def uptoBulkAll {H : Type} : List (DataW H) → Nat
  | [] => 0
  | d :: r => uptoBulk d + uptoBulkAll r
def uptoBulkEntries {H : Type} : List (Lit × DataW H) → Nat
  | [] => 0
  | x :: r => uptoBulkEntry x + uptoBulkEntries r
def uptoBulkEntry {H : Type} : Lit × DataW H → Nat
  | (.string bytes, d) => bytes.length + uptoBulk d + 1
  | (_, d) => uptoBulk d + 1
 end
def uptoSmall : (H : Type) → List (DataW H) → Bool := fun _ ds => decide (uptoBulkAll ds ≤ 1048576)
def OpenSpec.upto (s : _root_.Go.ChangeSpec) : _root_.Go.OpenSpec := { _root_.Go.OpenSpec.ofChange s with cond := some uptoSmall }

/-- 'millstreamlaw03.HeadRecords', WHERE WHAT IT READS IS OF BULK AT MOST 1048576: true; the input reads as it did. -/
def headRecordsUptoRow : OpenClaim := { program := "ythjmedocjndakaa", sum := "b63eae2c673ad0cd6bcfb3cf79321cc147a37467752f1e79931d73b9d3720660", func := "millstream/millstreamlaw03.HeadRecords", spec := "headRecords", apart := false, narrowed := true }
def HeadRecordsUptoSaid : Prop := headRecordsUptoRow.holds Try.pinned (OpenSpec.upto headRecordsSpec)

/-- 'millstreamlaw03.HeadFrames', WHERE WHAT IT READS IS OF BULK AT MOST 1048576: true; the input reads as it did. -/
def headFramesUptoRow : OpenClaim := { program := "ythjmedocjndakaa", sum := "b63eae2c673ad0cd6bcfb3cf79321cc147a37467752f1e79931d73b9d3720660", func := "millstream/millstreamlaw03.HeadFrames", spec := "headFrames", apart := false, narrowed := true }
def HeadFramesUptoSaid : Prop := headFramesUptoRow.holds Try.pinned (OpenSpec.upto headFramesSpec)

/-- 'millstreamlaw03.HeadSizes', WHERE WHAT IT READS IS OF BULK AT MOST 1048576: true; the input reads as it did. -/
def headSizesUptoRow : OpenClaim := { program := "ythjmedocjndakaa", sum := "b63eae2c673ad0cd6bcfb3cf79321cc147a37467752f1e79931d73b9d3720660", func := "millstream/millstreamlaw03.HeadSizes", spec := "headSizes", apart := false, narrowed := true }
def HeadSizesUptoSaid : Prop := headSizesUptoRow.holds Try.pinned (OpenSpec.upto headSizesSpec)

/-- 'millstreamlaw04.PlaceTells', WHERE WHAT IT READS IS OF BULK AT MOST 1048576: true; the input reads as it did. -/
def placeTellsUptoRow : OpenClaim := { program := "ythjmedocjndakaa", sum := "b63eae2c673ad0cd6bcfb3cf79321cc147a37467752f1e79931d73b9d3720660", func := "millstream/millstreamlaw04.PlaceTells", spec := "placeTells", apart := false, narrowed := true }
def PlaceTellsUptoSaid : Prop := placeTellsUptoRow.holds Try.pinned (OpenSpec.upto placeTellsSpec)

/-- 'millstreamlaw04.PlaceBack', WHERE WHAT IT READS IS OF BULK AT MOST 1048576: true; the input reads as it did. -/
def placeBackUptoRow : OpenClaim := { program := "ythjmedocjndakaa", sum := "b63eae2c673ad0cd6bcfb3cf79321cc147a37467752f1e79931d73b9d3720660", func := "millstream/millstreamlaw04.PlaceBack", spec := "placeBack", apart := false, narrowed := true }
def PlaceBackUptoSaid : Prop := placeBackUptoRow.holds Try.pinned (OpenSpec.upto placeBackSpec)

/-- 'millstreamlaw04.PlaceTails', WHERE WHAT IT READS IS OF BULK AT MOST 1048576: true; the input reads as it did. -/
def placeTailsUptoRow : OpenClaim := { program := "ythjmedocjndakaa", sum := "b63eae2c673ad0cd6bcfb3cf79321cc147a37467752f1e79931d73b9d3720660", func := "millstream/millstreamlaw04.PlaceTails", spec := "placeTails", apart := false, narrowed := true }
def PlaceTailsUptoSaid : Prop := placeTailsUptoRow.holds Try.pinned (OpenSpec.upto placeTailsSpec)

end Rows
end Go.Proofs.Ythjmedocjndakaa
