/- The reckoner over this seat's program. -/
import Derived.Test.YtkmiijmoejcjgaaGreatXThree
import Derived.Test.YtkmiijmoejcjgaaGreatProg
namespace Go.Proofs.YtkmiijmoejcjgaaGreat.rk
open Go.X Go.RowKit

/-- Its functions of sync/atomic. -/
def exts : List (Nat × Atom) := [(57, .load 7), (96, .add 3), (100, .add 7), (102, .cas 7)]

theorem exts_ok : ∀ q ∈ exts, ExtOne Tryz.prog q :=
  List.forall_mem_cons.2 ⟨⟨by kernel_rfl, by kernel_rfl⟩, List.forall_mem_cons.2 ⟨⟨by kernel_rfl, by kernel_rfl⟩, List.forall_mem_cons.2 ⟨⟨by kernel_rfl, by kernel_rfl⟩, List.forall_mem_cons.2 ⟨⟨by kernel_rfl, by kernel_rfl⟩, fun _ h => by cases h⟩⟩⟩⟩

noncomputable def cfg : Cfg := { P := Tryz.prog, ext := extOf exts, hook := fun _ _ _ => none, facts := [] }
theorem follows : cfg.P.follows .mixedOrders = true := by kernel_rfl
theorem ext_ok : ExtOk cfg := extOk_of exts rfl exts_ok

end Go.Proofs.YtkmiijmoejcjgaaGreat.rk
