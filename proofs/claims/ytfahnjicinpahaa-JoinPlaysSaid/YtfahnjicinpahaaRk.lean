/- The reckoner over this seat's program. -/
import Derived.Test.YtfahnjicinpahaaXThree
import Derived.Test.YtfahnjicinpahaaProg
namespace Go.Proofs.Ytfahnjicinpahaa.rk
open Go.X Go.RowKit

/-- Its functions of sync/atomic. -/
def exts : List (Nat × Atom) := []

theorem exts_ok : ∀ q ∈ exts, ExtOne Try.prog q :=
  fun _ h => by cases h

noncomputable def cfg : Cfg := { P := Try.prog, ext := extOf exts, hook := fun _ _ _ => none, facts := [] }
theorem follows : cfg.P.follows .mixedOrders = true := by kernel_rfl
theorem ext_ok : ExtOk cfg := extOk_of exts rfl exts_ok

end Go.Proofs.Ytfahnjicinpahaa.rk
