/- The reckoner over this seat's program. -/
import Derived.Test.YtmcgmnmapocllaaXThree
import Derived.Test.YtmcgmnmapocllaaProg
namespace Go.Proofs.Ytmcgmnmapocllaa.rk
open Go.X

/-- Its functions of sync/atomic. -/
def exts : List (Nat × Atom) := [(100, .add 3), (104, .add 7), (114, .load 7), (136, .cas 7)]

theorem exts_ok : ∀ q ∈ exts, ExtOne Try.prog q :=
  List.forall_mem_cons.2 ⟨⟨by kernel_rfl, by kernel_rfl⟩, List.forall_mem_cons.2 ⟨⟨by kernel_rfl, by kernel_rfl⟩, List.forall_mem_cons.2 ⟨⟨by kernel_rfl, by kernel_rfl⟩, List.forall_mem_cons.2 ⟨⟨by kernel_rfl, by kernel_rfl⟩, fun _ h => by cases h⟩⟩⟩⟩

noncomputable def cfg : Cfg := { P := Try.prog, ext := extOf exts, hook := fun _ _ _ => none, facts := [] }
theorem follows : cfg.P.follows .mixedOrders = true := by kernel_rfl
theorem ext_ok : ExtOk cfg := extOk_of exts rfl exts_ok

end Go.Proofs.Ytmcgmnmapocllaa.rk
