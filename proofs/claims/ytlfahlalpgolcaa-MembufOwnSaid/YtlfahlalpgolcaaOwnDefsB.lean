/- An access's own bytes: stores and swaps, where they may be. -/
import Derived.Test.YtlfahlalpgolcaaOwnDefs
namespace Go.Proofs.Ytlfahlalpgolcaa.membufOwn
open Go.X Go.Proofs.Ytlfahlalpgolcaa.rk

noncomputable def chgAl (k a n : Nat) : Chg := sel (Nat.beq (a % n) 0) (chgOf k a n) []
noncomputable def segN2 (k n a : Nat) : Bool := band (fit doS (doN k a n) [] (eqs k a n)) (band (seg (doG k a n) m1 (doN k a n) []) (okC (chgAl k a n) a n))
noncomputable def segK2 (k n : Nat) : Bool := upTo (segN2 k n) (65 - n)

end Go.Proofs.Ytlfahlalpgolcaa.membufOwn
