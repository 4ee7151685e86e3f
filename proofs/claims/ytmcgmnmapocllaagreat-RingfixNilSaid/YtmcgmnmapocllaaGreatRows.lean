/-
  No cell of these rows narrows 'for every input' (looked for: loops, veiled, ifaces, maps, wideKeys, modest, calm, conditions, laid).
  DERIVED. THE GIVEN ROWS OF THIS SEAT. 8 by the template 'for every input the law returns true; each argument reads behind the call as it read before'; 0 by the template 'total and deterministic' (their statements: YtmcgmnmapocllaaGreatTotals.lean).
  GIVEN WITH THE SEED: the statements are not yours to turn. If you find one false, say at which input.
  Laid BY PROGRAM, IN A SANDBOX (cutbox-rows.mjs): the forced cells as the released guide's own fill.sh prints them over the translation 344afb1d9e01bddc… (all of the seat's roots in one cut). By AI agents, Wed Nov 11 2026. No macro, syntax, notation, axiom, sorry.
-/
import Derived.Test.YtmcgmnmapocllaaGreatChecked
import GoSem.Claim
import GoSem.ClaimJoined
import GoSem.ClaimMapViews
import Derived.JoinedTies
import Derived.KernelRfl
namespace Go.Proofs.YtmcgmnmapocllaaGreat
/- THE CELL 'sum', in the pinned program and in every row, IS THE sha256 OF THE DUMP (.gsa) THAT YtmcgmnmapocllaaGreatProg.lean LOADS. Nothing in Lean hashes anything: it is a label: what it is worth is what the hold of that sum in a sandbox is worth. -/
noncomputable def Tryz.pinned : Pinned := { name := "ytmcgmnmapocllaagreat", sum := "344afb1d9e01bddc33e11722f7d9db4b7e43a4b86d3c9390c1cdea3229194892", checked := Tryz.checked }
namespace Rows
def none {H : Type} : Left H := { results := [], args := [] }

/-- 'millstreamlaw08.RinggetNil': WHATEVER THE INPUT: true; the input reads as it did. -/
def ringgetNilSpec : ChangeSpec := { name := "ringgetNil", fn := fun _ => fun
  | [d1, d2] => { results := [.lit (.bool true)], args := [d1, d2] }
  | _ => none }
def ringgetNilRow : OpenClaim := { program := "ytmcgmnmapocllaagreat", sum := "344afb1d9e01bddc33e11722f7d9db4b7e43a4b86d3c9390c1cdea3229194892", func := "millstream/millstreamlaw08.RinggetNil", spec := "ringgetNil", inPlace := ["sync/atomic.AddInt64", "sync/atomic.LoadUint64", "sync/atomic.CompareAndSwapUint64", "sync/atomic.AddUint64"], unfollowed := true, recurses := true, apart := false }
def RinggetNilSaid : Prop := ringgetNilRow.holds Tryz.pinned (OpenSpec.ofChange ringgetNilSpec)

/-- ITS FALSE NEIGHBOUR: 'it returns false'. Refute it at one input. -/
def ringgetNilWrong : ChangeSpec := { name := "ringgetNil", fn := fun _ => fun
  | [d1, d2] => { results := [.lit (.bool false)], args := [d1, d2] }
  | _ => none }
def RinggetNilWrongFalsely : Prop := ringgetNilRow.holds Tryz.pinned (OpenSpec.ofChange ringgetNilWrong)

/-- 'millstreamlaw09.RingfixNil': WHATEVER THE INPUT: true; the input reads as it did. -/
def ringfixNilSpec : ChangeSpec := { name := "ringfixNil", fn := fun _ => fun
  | [d] => { results := [.lit (.bool true)], args := [d] }
  | _ => none }
def ringfixNilRow : OpenClaim := { program := "ytmcgmnmapocllaagreat", sum := "344afb1d9e01bddc33e11722f7d9db4b7e43a4b86d3c9390c1cdea3229194892", func := "millstream/millstreamlaw09.RingfixNil", spec := "ringfixNil", inPlace := ["sync/atomic.AddInt64", "sync/atomic.LoadUint64", "sync/atomic.CompareAndSwapUint64", "sync/atomic.AddUint64"], unfollowed := true, recurses := true, apart := false }
def RingfixNilSaid : Prop := ringfixNilRow.holds Tryz.pinned (OpenSpec.ofChange ringfixNilSpec)

/-- ITS FALSE NEIGHBOUR: 'it returns false'. Refute it at one input. -/
def ringfixNilWrong : ChangeSpec := { name := "ringfixNil", fn := fun _ => fun
  | [d] => { results := [.lit (.bool false)], args := [d] }
  | _ => none }
def RingfixNilWrongFalsely : Prop := ringfixNilRow.holds Tryz.pinned (OpenSpec.ofChange ringfixNilWrong)

/-- 'millstreamlaw10.RingNil': WHATEVER THE INPUT: true; the input reads as it did. -/
def ringNilSpec : ChangeSpec := { name := "ringNil", fn := fun _ => fun
  | [d] => { results := [.lit (.bool true)], args := [d] }
  | _ => none }
def ringNilRow : OpenClaim := { program := "ytmcgmnmapocllaagreat", sum := "344afb1d9e01bddc33e11722f7d9db4b7e43a4b86d3c9390c1cdea3229194892", func := "millstream/millstreamlaw10.RingNil", spec := "ringNil", inPlace := ["sync/atomic.AddInt64", "sync/atomic.LoadUint64", "sync/atomic.CompareAndSwapUint64", "sync/atomic.AddUint64"], unfollowed := true, recurses := true, apart := false }
def RingNilSaid : Prop := ringNilRow.holds Tryz.pinned (OpenSpec.ofChange ringNilSpec)

/-- ITS FALSE NEIGHBOUR: 'it returns false'. Refute it at one input. -/
def ringNilWrong : ChangeSpec := { name := "ringNil", fn := fun _ => fun
  | [d] => { results := [.lit (.bool false)], args := [d] }
  | _ => none }
def RingNilWrongFalsely : Prop := ringNilRow.holds Tryz.pinned (OpenSpec.ofChange ringNilWrong)

/-- 'millstreamlaw12.HearNil': WHATEVER THE INPUT: true; the input reads as it did. -/
def hearNilSpec : ChangeSpec := { name := "hearNil", fn := fun _ => fun
  | [d1, d2] => { results := [.lit (.bool true)], args := [d1, d2] }
  | _ => none }
def hearNilRow : OpenClaim := { program := "ytmcgmnmapocllaagreat", sum := "344afb1d9e01bddc33e11722f7d9db4b7e43a4b86d3c9390c1cdea3229194892", func := "millstream/millstreamlaw12.HearNil", spec := "hearNil", inPlace := ["sync/atomic.AddInt64", "sync/atomic.LoadUint64", "sync/atomic.CompareAndSwapUint64", "sync/atomic.AddUint64"], unfollowed := true, recurses := true, apart := false }
def HearNilSaid : Prop := hearNilRow.holds Tryz.pinned (OpenSpec.ofChange hearNilSpec)

/-- ITS FALSE NEIGHBOUR: 'it returns false'. Refute it at one input. -/
def hearNilWrong : ChangeSpec := { name := "hearNil", fn := fun _ => fun
  | [d1, d2] => { results := [.lit (.bool false)], args := [d1, d2] }
  | _ => none }
def HearNilWrongFalsely : Prop := hearNilRow.holds Tryz.pinned (OpenSpec.ofChange hearNilWrong)

/-- 'millstreamlaw13.RelayNil': WHATEVER THE INPUT: true; the input reads as it did. -/
def relayNilSpec : ChangeSpec := { name := "relayNil", fn := fun _ => fun
  | [d] => { results := [.lit (.bool true)], args := [d] }
  | _ => none }
def relayNilRow : OpenClaim := { program := "ytmcgmnmapocllaagreat", sum := "344afb1d9e01bddc33e11722f7d9db4b7e43a4b86d3c9390c1cdea3229194892", func := "millstream/millstreamlaw13.RelayNil", spec := "relayNil", inPlace := ["sync/atomic.AddInt64", "sync/atomic.LoadUint64", "sync/atomic.CompareAndSwapUint64", "sync/atomic.AddUint64"], unfollowed := true, recurses := true, apart := false }
def RelayNilSaid : Prop := relayNilRow.holds Tryz.pinned (OpenSpec.ofChange relayNilSpec)

/-- ITS FALSE NEIGHBOUR: 'it returns false'. Refute it at one input. -/
def relayNilWrong : ChangeSpec := { name := "relayNil", fn := fun _ => fun
  | [d] => { results := [.lit (.bool false)], args := [d] }
  | _ => none }
def RelayNilWrongFalsely : Prop := relayNilRow.holds Tryz.pinned (OpenSpec.ofChange relayNilWrong)

/-- 'millstreamlaw16.AppendsNil': WHATEVER THE INPUT: true; the input reads as it did. -/
def appendsNilSpec : ChangeSpec := { name := "appendsNil", fn := fun _ => fun
  | [d] => { results := [.lit (.bool true)], args := [d] }
  | _ => none }
def appendsNilRow : OpenClaim := { program := "ytmcgmnmapocllaagreat", sum := "344afb1d9e01bddc33e11722f7d9db4b7e43a4b86d3c9390c1cdea3229194892", func := "millstream/millstreamlaw16.AppendsNil", spec := "appendsNil", inPlace := ["sync/atomic.AddInt64", "sync/atomic.LoadUint64", "sync/atomic.CompareAndSwapUint64", "sync/atomic.AddUint64"], unfollowed := true, recurses := true, apart := false }
def AppendsNilSaid : Prop := appendsNilRow.holds Tryz.pinned (OpenSpec.ofChange appendsNilSpec)

/-- ITS FALSE NEIGHBOUR: 'it returns false'. Refute it at one input. -/
def appendsNilWrong : ChangeSpec := { name := "appendsNil", fn := fun _ => fun
  | [d] => { results := [.lit (.bool false)], args := [d] }
  | _ => none }
def AppendsNilWrongFalsely : Prop := appendsNilRow.holds Tryz.pinned (OpenSpec.ofChange appendsNilWrong)

/-- 'millstreamlaw17.OfferNil': WHATEVER THE INPUT: true; the input reads as it did. -/
def offerNilSpec : ChangeSpec := { name := "offerNil", fn := fun _ => fun
  | [d] => { results := [.lit (.bool true)], args := [d] }
  | _ => none }
def offerNilRow : OpenClaim := { program := "ytmcgmnmapocllaagreat", sum := "344afb1d9e01bddc33e11722f7d9db4b7e43a4b86d3c9390c1cdea3229194892", func := "millstream/millstreamlaw17.OfferNil", spec := "offerNil", inPlace := ["sync/atomic.AddInt64", "sync/atomic.LoadUint64", "sync/atomic.CompareAndSwapUint64", "sync/atomic.AddUint64"], unfollowed := true, recurses := true, apart := false }
def OfferNilSaid : Prop := offerNilRow.holds Tryz.pinned (OpenSpec.ofChange offerNilSpec)

/-- ITS FALSE NEIGHBOUR: 'it returns false'. Refute it at one input. -/
def offerNilWrong : ChangeSpec := { name := "offerNil", fn := fun _ => fun
  | [d] => { results := [.lit (.bool false)], args := [d] }
  | _ => none }
def OfferNilWrongFalsely : Prop := offerNilRow.holds Tryz.pinned (OpenSpec.ofChange offerNilWrong)

/-- 'millstreamlaw18.ClaimNil': WHATEVER THE INPUT: true; the input reads as it did. -/
def claimNilSpec : ChangeSpec := { name := "claimNil", fn := fun _ => fun
  | [d] => { results := [.lit (.bool true)], args := [d] }
  | _ => none }
def claimNilRow : OpenClaim := { program := "ytmcgmnmapocllaagreat", sum := "344afb1d9e01bddc33e11722f7d9db4b7e43a4b86d3c9390c1cdea3229194892", func := "millstream/millstreamlaw18.ClaimNil", spec := "claimNil", inPlace := ["sync/atomic.AddInt64", "sync/atomic.LoadUint64", "sync/atomic.CompareAndSwapUint64", "sync/atomic.AddUint64"], unfollowed := true, recurses := true, apart := false }
def ClaimNilSaid : Prop := claimNilRow.holds Tryz.pinned (OpenSpec.ofChange claimNilSpec)

/-- ITS FALSE NEIGHBOUR: 'it returns false'. Refute it at one input. -/
def claimNilWrong : ChangeSpec := { name := "claimNil", fn := fun _ => fun
  | [d] => { results := [.lit (.bool false)], args := [d] }
  | _ => none }
def ClaimNilWrongFalsely : Prop := claimNilRow.holds Tryz.pinned (OpenSpec.ofChange claimNilWrong)

/- THE SECOND FORM. 'bulk': how many values and letters a reading holds, each counted each time it is reached (what is shared counts as often as it is met; a slice's spare places count too). A statement '..UptoSaid' is the law's where the arguments, and the package variables that the reading takes, are together of bulk at most 1048576: NARROWER than '..Said'. Prove '..Said' where nothing that the law and all that it calls make is longer than what came in: it says more and counts as full. Else prove '..UptoSaid'. A law counts once. -/
mutual
def uptoBulk {H : Type} : DataW H → Nat
  | .lit (.string bytes) => bytes.length + 1
  | .lit _ => 1
  | .nil => 1
  | .ptr d => uptoBulk d + 1
  | .slice elems spare => uptoBulkAll elems + uptoBulkAll spare + 1
  | .agg parts => uptoBulkAll parts + 1
  | .iface _ d => uptoBulk d + 1
  | .map entries => uptoBulkEntries entries + 1
  | .held _ => 1
def uptoBulkAll {H : Type} : List (DataW H) → Nat
  | [] => 0
  | d :: r => uptoBulk d + uptoBulkAll r
def uptoBulkEntries {H : Type} : List (Lit × DataW H) → Nat
  | [] => 0
  | x :: r => uptoBulkEntry x + uptoBulkEntries r
def uptoBulkEntry {H : Type} : Lit × DataW H → Nat
  | (.string bytes, d) => bytes.length + uptoBulk d + 1
  | (_, d) => uptoBulk d + 1
 end
def uptoSmall : (H : Type) → List (DataW H) → Bool := fun _ ds => decide (uptoBulkAll ds ≤ 1048576)
def OpenSpec.upto (s : _root_.Go.ChangeSpec) : _root_.Go.OpenSpec := { _root_.Go.OpenSpec.ofChange s with cond := some uptoSmall }

/-- 'millstreamlaw08.RinggetNil', WHERE WHAT IT READS IS OF BULK AT MOST 1048576: true; the input reads as it did. -/
def ringgetNilUptoRow : OpenClaim := { program := "ytmcgmnmapocllaagreat", sum := "344afb1d9e01bddc33e11722f7d9db4b7e43a4b86d3c9390c1cdea3229194892", func := "millstream/millstreamlaw08.RinggetNil", spec := "ringgetNil", inPlace := ["sync/atomic.AddInt64", "sync/atomic.LoadUint64", "sync/atomic.CompareAndSwapUint64", "sync/atomic.AddUint64"], unfollowed := true, recurses := true, apart := false, narrowed := true }
def RinggetNilUptoSaid : Prop := ringgetNilUptoRow.holds Tryz.pinned (OpenSpec.upto ringgetNilSpec)

/-- 'millstreamlaw09.RingfixNil', WHERE WHAT IT READS IS OF BULK AT MOST 1048576: true; the input reads as it did. -/
def ringfixNilUptoRow : OpenClaim := { program := "ytmcgmnmapocllaagreat", sum := "344afb1d9e01bddc33e11722f7d9db4b7e43a4b86d3c9390c1cdea3229194892", func := "millstream/millstreamlaw09.RingfixNil", spec := "ringfixNil", inPlace := ["sync/atomic.AddInt64", "sync/atomic.LoadUint64", "sync/atomic.CompareAndSwapUint64", "sync/atomic.AddUint64"], unfollowed := true, recurses := true, apart := false, narrowed := true }
def RingfixNilUptoSaid : Prop := ringfixNilUptoRow.holds Tryz.pinned (OpenSpec.upto ringfixNilSpec)

/-- 'millstreamlaw10.RingNil', WHERE WHAT IT READS IS OF BULK AT MOST 1048576: true; the input reads as it did. -/
def ringNilUptoRow : OpenClaim := { program := "ytmcgmnmapocllaagreat", sum := "344afb1d9e01bddc33e11722f7d9db4b7e43a4b86d3c9390c1cdea3229194892", func := "millstream/millstreamlaw10.RingNil", spec := "ringNil", inPlace := ["sync/atomic.AddInt64", "sync/atomic.LoadUint64", "sync/atomic.CompareAndSwapUint64", "sync/atomic.AddUint64"], unfollowed := true, recurses := true, apart := false, narrowed := true }
def RingNilUptoSaid : Prop := ringNilUptoRow.holds Tryz.pinned (OpenSpec.upto ringNilSpec)

/-- 'millstreamlaw12.HearNil', WHERE WHAT IT READS IS OF BULK AT MOST 1048576: true; the input reads as it did. -/
def hearNilUptoRow : OpenClaim := { program := "ytmcgmnmapocllaagreat", sum := "344afb1d9e01bddc33e11722f7d9db4b7e43a4b86d3c9390c1cdea3229194892", func := "millstream/millstreamlaw12.HearNil", spec := "hearNil", inPlace := ["sync/atomic.AddInt64", "sync/atomic.LoadUint64", "sync/atomic.CompareAndSwapUint64", "sync/atomic.AddUint64"], unfollowed := true, recurses := true, apart := false, narrowed := true }
def HearNilUptoSaid : Prop := hearNilUptoRow.holds Tryz.pinned (OpenSpec.upto hearNilSpec)

/-- 'millstreamlaw13.RelayNil', WHERE WHAT IT READS IS OF BULK AT MOST 1048576: true; the input reads as it did. -/
def relayNilUptoRow : OpenClaim := { program := "ytmcgmnmapocllaagreat", sum := "344afb1d9e01bddc33e11722f7d9db4b7e43a4b86d3c9390c1cdea3229194892", func := "millstream/millstreamlaw13.RelayNil", spec := "relayNil", inPlace := ["sync/atomic.AddInt64", "sync/atomic.LoadUint64", "sync/atomic.CompareAndSwapUint64", "sync/atomic.AddUint64"], unfollowed := true, recurses := true, apart := false, narrowed := true }
def RelayNilUptoSaid : Prop := relayNilUptoRow.holds Tryz.pinned (OpenSpec.upto relayNilSpec)

/-- 'millstreamlaw16.AppendsNil', WHERE WHAT IT READS IS OF BULK AT MOST 1048576: true; the input reads as it did. -/
def appendsNilUptoRow : OpenClaim := { program := "ytmcgmnmapocllaagreat", sum := "344afb1d9e01bddc33e11722f7d9db4b7e43a4b86d3c9390c1cdea3229194892", func := "millstream/millstreamlaw16.AppendsNil", spec := "appendsNil", inPlace := ["sync/atomic.AddInt64", "sync/atomic.LoadUint64", "sync/atomic.CompareAndSwapUint64", "sync/atomic.AddUint64"], unfollowed := true, recurses := true, apart := false, narrowed := true }
def AppendsNilUptoSaid : Prop := appendsNilUptoRow.holds Tryz.pinned (OpenSpec.upto appendsNilSpec)

/-- 'millstreamlaw17.OfferNil', WHERE WHAT IT READS IS OF BULK AT MOST 1048576: true; the input reads as it did. -/
def offerNilUptoRow : OpenClaim := { program := "ytmcgmnmapocllaagreat", sum := "344afb1d9e01bddc33e11722f7d9db4b7e43a4b86d3c9390c1cdea3229194892", func := "millstream/millstreamlaw17.OfferNil", spec := "offerNil", inPlace := ["sync/atomic.AddInt64", "sync/atomic.LoadUint64", "sync/atomic.CompareAndSwapUint64", "sync/atomic.AddUint64"], unfollowed := true, recurses := true, apart := false, narrowed := true }
def OfferNilUptoSaid : Prop := offerNilUptoRow.holds Tryz.pinned (OpenSpec.upto offerNilSpec)

/-- 'millstreamlaw18.ClaimNil', WHERE WHAT IT READS IS OF BULK AT MOST 1048576: true; the input reads as it did. -/
def claimNilUptoRow : OpenClaim := { program := "ytmcgmnmapocllaagreat", sum := "344afb1d9e01bddc33e11722f7d9db4b7e43a4b86d3c9390c1cdea3229194892", func := "millstream/millstreamlaw18.ClaimNil", spec := "claimNil", inPlace := ["sync/atomic.AddInt64", "sync/atomic.LoadUint64", "sync/atomic.CompareAndSwapUint64", "sync/atomic.AddUint64"], unfollowed := true, recurses := true, apart := false, narrowed := true }
def ClaimNilUptoSaid : Prop := claimNilUptoRow.holds Tryz.pinned (OpenSpec.upto claimNilSpec)

end Rows
end Go.Proofs.YtmcgmnmapocllaaGreat
