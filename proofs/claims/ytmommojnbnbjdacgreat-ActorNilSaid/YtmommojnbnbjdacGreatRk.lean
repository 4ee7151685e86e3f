/- The reckoner over this seat's program. -/
import Derived.Test.YtmommojnbnbjdacGreatXThree
import Derived.Test.YtmommojnbnbjdacGreatProg
namespace Go.Proofs.YtmommojnbnbjdacGreat.rk
open Go.X Go.RowKit

/-- Its functions of sync/atomic. -/
def exts : List (Nat × Atom) := [(174, .add 3), (179, .add 7), (197, .load 7), (198, .cas 7)]

theorem exts_ok : ∀ q ∈ exts, ExtOne Tryz.prog q :=
  List.forall_mem_cons.2 ⟨⟨by kernel_rfl, by kernel_rfl⟩, List.forall_mem_cons.2 ⟨⟨by kernel_rfl, by kernel_rfl⟩, List.forall_mem_cons.2 ⟨⟨by kernel_rfl, by kernel_rfl⟩, List.forall_mem_cons.2 ⟨⟨by kernel_rfl, by kernel_rfl⟩, fun _ h => by cases h⟩⟩⟩⟩

noncomputable def cfg : Cfg := { P := Tryz.prog, ext := extOf exts, hook := fun _ _ _ => none, facts := [] }
theorem follows : cfg.P.follows .mixedOrders = true := by kernel_rfl
theorem ext_ok : ExtOk cfg := extOk_of exts rfl exts_ok

end Go.Proofs.YtmommojnbnbjdacGreat.rk
