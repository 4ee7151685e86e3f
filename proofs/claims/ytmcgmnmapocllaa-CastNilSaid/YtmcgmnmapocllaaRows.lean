/-
  No cell of these rows narrows 'for every input' (looked for: loops, veiled, ifaces, maps, wideKeys, modest, calm, conditions, laid).
  DERIVED. THE GIVEN ROWS OF THIS SEAT. 4 by the template 'for every input the law returns true; each argument reads behind the call as it read before'; 0 by the template 'total and deterministic' (their statements: YtmcgmnmapocllaaTotals.lean).
  GIVEN WITH THE SEED: the statements are not yours to turn. If you find one false, say at which input.
  Laid BY PROGRAM, IN A SANDBOX (cutbox-rows.mjs): the forced cells as the released guide's own fill.sh prints them over the translation 557e12a0b46ae316… (all of the seat's roots in one cut). By AI agents, Wed Nov 11 2026. No macro, syntax, notation, axiom, sorry.
-/
import Derived.Test.YtmcgmnmapocllaaChecked
import GoSem.Claim
import GoSem.ClaimJoined
import GoSem.ClaimMapViews
import Derived.JoinedTies
import Derived.KernelRfl
namespace Go.Proofs.Ytmcgmnmapocllaa
/- THE CELL 'sum', in the pinned program and in every row, IS THE sha256 OF THE DUMP (.gsa) THAT YtmcgmnmapocllaaProg.lean LOADS. Nothing in Lean hashes anything: it is a label: what it is worth is what the hold of that sum in a sandbox is worth. -/
noncomputable def Try.pinned : Pinned := { name := "ytmcgmnmapocllaa", sum := "557e12a0b46ae316881a901308c494df313030bdb4c08b217771870775fa6d21", checked := Try.checked }
namespace Rows
def none {H : Type} : Left H := { results := [], args := [] }

/-- 'millstreamlaw05.CopiesNil': WHATEVER THE INPUT: true; the input reads as it did. -/
def copiesNilSpec : ChangeSpec := { name := "copiesNil", fn := fun _ => fun
  | [d] => { results := [.lit (.bool true)], args := [d] }
  | _ => none }
def copiesNilRow : OpenClaim := { program := "ytmcgmnmapocllaa", sum := "557e12a0b46ae316881a901308c494df313030bdb4c08b217771870775fa6d21", func := "millstream/millstreamlaw05.CopiesNil", spec := "copiesNil", unfollowed := true, recurses := true, apart := false }
def CopiesNilSaid : Prop := copiesNilRow.holds Try.pinned (OpenSpec.ofChange copiesNilSpec)

/-- ITS FALSE NEIGHBOUR: 'it returns false'. Refute it at one input. -/
def copiesNilWrong : ChangeSpec := { name := "copiesNil", fn := fun _ => fun
  | [d] => { results := [.lit (.bool false)], args := [d] }
  | _ => none }
def CopiesNilWrongFalsely : Prop := copiesNilRow.holds Try.pinned (OpenSpec.ofChange copiesNilWrong)

/-- 'millstreamlaw07.RingputNil': WHATEVER THE INPUT: true; the input reads as it did. -/
def ringputNilSpec : ChangeSpec := { name := "ringputNil", fn := fun _ => fun
  | [d] => { results := [.lit (.bool true)], args := [d] }
  | _ => none }
def ringputNilRow : OpenClaim := { program := "ytmcgmnmapocllaa", sum := "557e12a0b46ae316881a901308c494df313030bdb4c08b217771870775fa6d21", func := "millstream/millstreamlaw07.RingputNil", spec := "ringputNil", inPlace := ["sync/atomic.AddInt64", "sync/atomic.LoadUint64", "sync/atomic.CompareAndSwapUint64", "sync/atomic.AddUint64"], unfollowed := true, recurses := true, apart := false }
def RingputNilSaid : Prop := ringputNilRow.holds Try.pinned (OpenSpec.ofChange ringputNilSpec)

/-- ITS FALSE NEIGHBOUR: 'it returns false'. Refute it at one input. -/
def ringputNilWrong : ChangeSpec := { name := "ringputNil", fn := fun _ => fun
  | [d] => { results := [.lit (.bool false)], args := [d] }
  | _ => none }
def RingputNilWrongFalsely : Prop := ringputNilRow.holds Try.pinned (OpenSpec.ofChange ringputNilWrong)

/-- 'millstreamlaw11.CastNil': WHATEVER THE INPUT: true; the input reads as it did. -/
def castNilSpec : ChangeSpec := { name := "castNil", fn := fun _ => fun
  | [d] => { results := [.lit (.bool true)], args := [d] }
  | _ => none }
def castNilRow : OpenClaim := { program := "ytmcgmnmapocllaa", sum := "557e12a0b46ae316881a901308c494df313030bdb4c08b217771870775fa6d21", func := "millstream/millstreamlaw11.CastNil", spec := "castNil", inPlace := ["sync/atomic.AddInt64", "sync/atomic.LoadUint64", "sync/atomic.CompareAndSwapUint64", "sync/atomic.AddUint64"], unfollowed := true, recurses := true, apart := false }
def CastNilSaid : Prop := castNilRow.holds Try.pinned (OpenSpec.ofChange castNilSpec)

/-- ITS FALSE NEIGHBOUR: 'it returns false'. Refute it at one input. -/
def castNilWrong : ChangeSpec := { name := "castNil", fn := fun _ => fun
  | [d] => { results := [.lit (.bool false)], args := [d] }
  | _ => none }
def CastNilWrongFalsely : Prop := castNilRow.holds Try.pinned (OpenSpec.ofChange castNilWrong)

/-- 'millstreamlaw15.RotateNil': WHATEVER THE INPUT: true; the input reads as it did. -/
def rotateNilSpec : ChangeSpec := { name := "rotateNil", fn := fun _ => fun
  | [d] => { results := [.lit (.bool true)], args := [d] }
  | _ => none }
def rotateNilRow : OpenClaim := { program := "ytmcgmnmapocllaa", sum := "557e12a0b46ae316881a901308c494df313030bdb4c08b217771870775fa6d21", func := "millstream/millstreamlaw15.RotateNil", spec := "rotateNil", inPlace := ["sync/atomic.AddInt64", "sync/atomic.LoadUint64", "sync/atomic.CompareAndSwapUint64", "sync/atomic.AddUint64"], unfollowed := true, recurses := true, apart := false }
def RotateNilSaid : Prop := rotateNilRow.holds Try.pinned (OpenSpec.ofChange rotateNilSpec)

/-- ITS FALSE NEIGHBOUR: 'it returns false'. Refute it at one input. -/
def rotateNilWrong : ChangeSpec := { name := "rotateNil", fn := fun _ => fun
  | [d] => { results := [.lit (.bool false)], args := [d] }
  | _ => none }
def RotateNilWrongFalsely : Prop := rotateNilRow.holds Try.pinned (OpenSpec.ofChange rotateNilWrong)

/- THE SECOND FORM. 'bulk': how many values and letters a reading holds, each counted each time it is reached (what is shared counts as often as it is met; a slice's spare places count too). A statement '..UptoSaid' is the law's where the arguments, and the package variables that the reading takes, are together of bulk at most 1048576: NARROWER than '..Said'. Prove '..Said' where nothing that the law and all that it calls make is longer than what came in: it says more and counts as full. Else prove '..UptoSaid'. A law counts once. -/
mutual
def uptoBulk {H : Type} : DataW H → Nat
  | .lit (.string bytes) => bytes.length + 1
  | .lit _ => 1
  | .nil => 1
  | .ptr d => uptoBulk d + 1
  | .slice elems spare => uptoBulkAll elems + uptoBulkAll spare + 1
  | .agg parts => uptoBulkAll parts + 1
  | .iface _ d => uptoBulk d + 1
  | .map entries => uptoBulkEntries entries + 1
  | .held _ => 1
def uptoBulkAll {H : Type} : List (DataW H) → Nat
  | [] => 0
  | d :: r => uptoBulk d + uptoBulkAll r
def uptoBulkEntries {H : Type} : List (Lit × DataW H) → Nat
  | [] => 0
  | x :: r => uptoBulkEntry x + uptoBulkEntries r
def uptoBulkEntry {H : Type} : Lit × DataW H → Nat
  | (.string bytes, d) => bytes.length + uptoBulk d + 1
  | (_, d) => uptoBulk d + 1
 end
def uptoSmall : (H : Type) → List (DataW H) → Bool := fun _ ds => decide (uptoBulkAll ds ≤ 1048576)
def OpenSpec.upto (s : _root_.Go.ChangeSpec) : _root_.Go.OpenSpec := { _root_.Go.OpenSpec.ofChange s with cond := some uptoSmall }

/-- 'millstreamlaw05.CopiesNil', WHERE WHAT IT READS IS OF BULK AT MOST 1048576: true; the input reads as it did. -/
def copiesNilUptoRow : OpenClaim := { program := "ytmcgmnmapocllaa", sum := "557e12a0b46ae316881a901308c494df313030bdb4c08b217771870775fa6d21", func := "millstream/millstreamlaw05.CopiesNil", spec := "copiesNil", unfollowed := true, recurses := true, apart := false, narrowed := true }
def CopiesNilUptoSaid : Prop := copiesNilUptoRow.holds Try.pinned (OpenSpec.upto copiesNilSpec)

/-- 'millstreamlaw07.RingputNil', WHERE WHAT IT READS IS OF BULK AT MOST 1048576: true; the input reads as it did. -/
def ringputNilUptoRow : OpenClaim := { program := "ytmcgmnmapocllaa", sum := "557e12a0b46ae316881a901308c494df313030bdb4c08b217771870775fa6d21", func := "millstream/millstreamlaw07.RingputNil", spec := "ringputNil", inPlace := ["sync/atomic.AddInt64", "sync/atomic.LoadUint64", "sync/atomic.CompareAndSwapUint64", "sync/atomic.AddUint64"], unfollowed := true, recurses := true, apart := false, narrowed := true }
def RingputNilUptoSaid : Prop := ringputNilUptoRow.holds Try.pinned (OpenSpec.upto ringputNilSpec)

/-- 'millstreamlaw11.CastNil', WHERE WHAT IT READS IS OF BULK AT MOST 1048576: true; the input reads as it did. -/
def castNilUptoRow : OpenClaim := { program := "ytmcgmnmapocllaa", sum := "557e12a0b46ae316881a901308c494df313030bdb4c08b217771870775fa6d21", func := "millstream/millstreamlaw11.CastNil", spec := "castNil", inPlace := ["sync/atomic.AddInt64", "sync/atomic.LoadUint64", "sync/atomic.CompareAndSwapUint64", "sync/atomic.AddUint64"], unfollowed := true, recurses := true, apart := false, narrowed := true }
def CastNilUptoSaid : Prop := castNilUptoRow.holds Try.pinned (OpenSpec.upto castNilSpec)

/-- 'millstreamlaw15.RotateNil', WHERE WHAT IT READS IS OF BULK AT MOST 1048576: true; the input reads as it did. -/
def rotateNilUptoRow : OpenClaim := { program := "ytmcgmnmapocllaa", sum := "557e12a0b46ae316881a901308c494df313030bdb4c08b217771870775fa6d21", func := "millstream/millstreamlaw15.RotateNil", spec := "rotateNil", inPlace := ["sync/atomic.AddInt64", "sync/atomic.LoadUint64", "sync/atomic.CompareAndSwapUint64", "sync/atomic.AddUint64"], unfollowed := true, recurses := true, apart := false, narrowed := true }
def RotateNilUptoSaid : Prop := rotateNilUptoRow.holds Try.pinned (OpenSpec.upto rotateNilSpec)

end Rows
end Go.Proofs.Ytmcgmnmapocllaa
