/-
  No cell of these rows narrows 'for every input' (looked for: loops, veiled, ifaces, maps, wideKeys, modest, calm, conditions, laid).
  DERIVED. THE GIVEN ROWS OF THIS SEAT. 4 by the template 'for every input the law returns true; each argument reads behind the call as it read before'; 0 by the template 'total and deterministic' (their statements: YtpcmjgjdmlgdjaaTotals.lean).
  GIVEN WITH THE SEED: the statements are not yours to turn. If you find one false, say at which input.
  Laid BY PROGRAM, IN A SANDBOX (cutbox-rows.mjs): the forced cells as the released guide's own fill.sh prints them over the translation 4953b410aee32b9e… (all of the seat's roots in one cut). By AI agents, Wed Nov 11 2026. No macro, syntax, notation, axiom, sorry.
-/
import Derived.Test.YtpcmjgjdmlgdjaaChecked
import GoSem.Claim
import GoSem.ClaimJoined
import GoSem.ClaimMapViews
import Derived.JoinedTies
import Derived.KernelRfl
namespace Go.Proofs.Ytpcmjgjdmlgdjaa
/- THE CELL 'sum', in the pinned program and in every row, IS THE sha256 OF THE DUMP (.gsa) THAT YtpcmjgjdmlgdjaaProg.lean LOADS. Nothing in Lean hashes anything: it is a label: what it is worth is what the hold of that sum in a sandbox is worth. -/
noncomputable def Try.pinned : Pinned := { name := "ytpcmjgjdmlgdjaa", sum := "4953b410aee32b9e8e0c4414bc31817ba100c8511057573dae054a58fd345217", checked := Try.checked }
namespace Rows
def none {H : Type} : Left H := { results := [], args := [] }

/-- 'millstreamlaw01.WordPowers': WHATEVER THE INPUT: true; the input reads as it did. -/
def wordPowersSpec : ChangeSpec := { name := "wordPowers", fn := fun _ => fun
  | [d1, d2] => { results := [.lit (.bool true)], args := [d1, d2] }
  | _ => none }
def wordPowersRow : OpenClaim := { program := "ytpcmjgjdmlgdjaa", sum := "4953b410aee32b9e8e0c4414bc31817ba100c8511057573dae054a58fd345217", func := "millstream/millstreamlaw01.WordPowers", spec := "wordPowers", apart := false }
def WordPowersSaid : Prop := wordPowersRow.holds Try.pinned (OpenSpec.ofChange wordPowersSpec)

/-- ITS FALSE NEIGHBOUR: 'it returns false'. Refute it at one input. -/
def wordPowersWrong : ChangeSpec := { name := "wordPowers", fn := fun _ => fun
  | [d1, d2] => { results := [.lit (.bool false)], args := [d1, d2] }
  | _ => none }
def WordPowersWrongFalsely : Prop := wordPowersRow.holds Try.pinned (OpenSpec.ofChange wordPowersWrong)

/-- 'millstreamlaw01.WordAligns': WHATEVER THE INPUT: true; the input reads as it did. -/
def wordAlignsSpec : ChangeSpec := { name := "wordAligns", fn := fun _ => fun
  | [d1, d2] => { results := [.lit (.bool true)], args := [d1, d2] }
  | _ => none }
def wordAlignsRow : OpenClaim := { program := "ytpcmjgjdmlgdjaa", sum := "4953b410aee32b9e8e0c4414bc31817ba100c8511057573dae054a58fd345217", func := "millstream/millstreamlaw01.WordAligns", spec := "wordAligns", apart := false }
def WordAlignsSaid : Prop := wordAlignsRow.holds Try.pinned (OpenSpec.ofChange wordAlignsSpec)

/-- ITS FALSE NEIGHBOUR: 'it returns false'. Refute it at one input. -/
def wordAlignsWrong : ChangeSpec := { name := "wordAligns", fn := fun _ => fun
  | [d1, d2] => { results := [.lit (.bool false)], args := [d1, d2] }
  | _ => none }
def WordAlignsWrongFalsely : Prop := wordAlignsRow.holds Try.pinned (OpenSpec.ofChange wordAlignsWrong)

/-- 'millstreamlaw01.WordBytes': WHATEVER THE INPUT: true; the input reads as it did. -/
def wordBytesSpec : ChangeSpec := { name := "wordBytes", fn := fun _ => fun
  | [d1, d2, d3] => { results := [.lit (.bool true)], args := [d1, d2, d3] }
  | _ => none }
def wordBytesRow : OpenClaim := { program := "ytpcmjgjdmlgdjaa", sum := "4953b410aee32b9e8e0c4414bc31817ba100c8511057573dae054a58fd345217", func := "millstream/millstreamlaw01.WordBytes", spec := "wordBytes", apart := false }
def WordBytesSaid : Prop := wordBytesRow.holds Try.pinned (OpenSpec.ofChange wordBytesSpec)

/-- ITS FALSE NEIGHBOUR: 'it returns false'. Refute it at one input. -/
def wordBytesWrong : ChangeSpec := { name := "wordBytes", fn := fun _ => fun
  | [d1, d2, d3] => { results := [.lit (.bool false)], args := [d1, d2, d3] }
  | _ => none }
def WordBytesWrongFalsely : Prop := wordBytesRow.holds Try.pinned (OpenSpec.ofChange wordBytesWrong)

/-- 'millstreamlaw01.WordChunks': WHATEVER THE INPUT: true; the input reads as it did. -/
def wordChunksSpec : ChangeSpec := { name := "wordChunks", fn := fun _ => fun
  | [d] => { results := [.lit (.bool true)], args := [d] }
  | _ => none }
def wordChunksRow : OpenClaim := { program := "ytpcmjgjdmlgdjaa", sum := "4953b410aee32b9e8e0c4414bc31817ba100c8511057573dae054a58fd345217", func := "millstream/millstreamlaw01.WordChunks", spec := "wordChunks", apart := false }
def WordChunksSaid : Prop := wordChunksRow.holds Try.pinned (OpenSpec.ofChange wordChunksSpec)

/-- ITS FALSE NEIGHBOUR: 'it returns false'. Refute it at one input. -/
def wordChunksWrong : ChangeSpec := { name := "wordChunks", fn := fun _ => fun
  | [d] => { results := [.lit (.bool false)], args := [d] }
  | _ => none }
def WordChunksWrongFalsely : Prop := wordChunksRow.holds Try.pinned (OpenSpec.ofChange wordChunksWrong)

/- THE SECOND FORM. 'bulk': how many values and letters a reading holds, each counted each time it is reached (what is shared counts as often as it is met; a slice's spare places count too). A statement '..UptoSaid' is the law's where the arguments, and the package variables that the reading takes, are together of bulk at most 1048576: NARROWER than '..Said'. Prove '..Said' where nothing that the law and all that it calls make is longer than what came in: it says more and counts as full. Else prove '..UptoSaid'. A law counts once. -/
mutual
def uptoBulk {H : Type} : DataW H → Nat
  | .lit (.string bytes) => bytes.length + 1
  | .lit _ => 1
  | .nil => 1
  | .ptr d => uptoBulk d + 1
  | .slice elems spare => uptoBulkAll elems + uptoBulkAll spare + 1
  | .agg parts => uptoBulkAll parts + 1
  | .iface _ d => uptoBulk d + 1
  | .map entries => uptoBulkEntries entries + 1
  | .held _ => 1
def uptoBulkAll {H : Type} : List (DataW H) → Nat
  | [] => 0
  | d :: r => uptoBulk d + uptoBulkAll r
def uptoBulkEntries {H : Type} : List (Lit × DataW H) → Nat
  | [] => 0
  | x :: r => uptoBulkEntry x + uptoBulkEntries r
def uptoBulkEntry {H : Type} : Lit × DataW H → Nat
  | (.string bytes, d) => bytes.length + uptoBulk d + 1
  | (_, d) => uptoBulk d + 1
 end
def uptoSmall : (H : Type) → List (DataW H) → Bool := fun _ ds => decide (uptoBulkAll ds ≤ 1048576)
def OpenSpec.upto (s : _root_.Go.ChangeSpec) : _root_.Go.OpenSpec := { _root_.Go.OpenSpec.ofChange s with cond := some uptoSmall }

/-- 'millstreamlaw01.WordPowers', WHERE WHAT IT READS IS OF BULK AT MOST 1048576: true; the input reads as it did. -/
def wordPowersUptoRow : OpenClaim := { program := "ytpcmjgjdmlgdjaa", sum := "4953b410aee32b9e8e0c4414bc31817ba100c8511057573dae054a58fd345217", func := "millstream/millstreamlaw01.WordPowers", spec := "wordPowers", apart := false, narrowed := true }
def WordPowersUptoSaid : Prop := wordPowersUptoRow.holds Try.pinned (OpenSpec.upto wordPowersSpec)

/-- 'millstreamlaw01.WordAligns', WHERE WHAT IT READS IS OF BULK AT MOST 1048576: true; the input reads as it did. -/
def wordAlignsUptoRow : OpenClaim := { program := "ytpcmjgjdmlgdjaa", sum := "4953b410aee32b9e8e0c4414bc31817ba100c8511057573dae054a58fd345217", func := "millstream/millstreamlaw01.WordAligns", spec := "wordAligns", apart := false, narrowed := true }
def WordAlignsUptoSaid : Prop := wordAlignsUptoRow.holds Try.pinned (OpenSpec.upto wordAlignsSpec)

/-- 'millstreamlaw01.WordBytes', WHERE WHAT IT READS IS OF BULK AT MOST 1048576: true; the input reads as it did. -/
def wordBytesUptoRow : OpenClaim := { program := "ytpcmjgjdmlgdjaa", sum := "4953b410aee32b9e8e0c4414bc31817ba100c8511057573dae054a58fd345217", func := "millstream/millstreamlaw01.WordBytes", spec := "wordBytes", apart := false, narrowed := true }
def WordBytesUptoSaid : Prop := wordBytesUptoRow.holds Try.pinned (OpenSpec.upto wordBytesSpec)

/-- 'millstreamlaw01.WordChunks', WHERE WHAT IT READS IS OF BULK AT MOST 1048576: true; the input reads as it did. -/
def wordChunksUptoRow : OpenClaim := { program := "ytpcmjgjdmlgdjaa", sum := "4953b410aee32b9e8e0c4414bc31817ba100c8511057573dae054a58fd345217", func := "millstream/millstreamlaw01.WordChunks", spec := "wordChunks", apart := false, narrowed := true }
def WordChunksUptoSaid : Prop := wordChunksUptoRow.holds Try.pinned (OpenSpec.upto wordChunksSpec)

end Rows
end Go.Proofs.Ytpcmjgjdmlgdjaa
