/- The reckoner over this seat's program. -/
import Derived.Test.YtlfahlalpgolcaaXThree
import Derived.Test.YtlfahlalpgolcaaProg
namespace Go.Proofs.Ytlfahlalpgolcaa.rk
open Go.X Go.RowKit

/-- Its functions of sync/atomic. -/
def exts : List (Nat × Atom) := [(22, .add 3), (26, .add 7), (28, .load 7), (29, .load 3), (30, .cas 7)]

theorem exts_ok : ∀ q ∈ exts, ExtOne Try.prog q :=
  List.forall_mem_cons.2 ⟨⟨by kernel_rfl, by kernel_rfl⟩, List.forall_mem_cons.2 ⟨⟨by kernel_rfl, by kernel_rfl⟩, List.forall_mem_cons.2 ⟨⟨by kernel_rfl, by kernel_rfl⟩, List.forall_mem_cons.2 ⟨⟨by kernel_rfl, by kernel_rfl⟩, List.forall_mem_cons.2 ⟨⟨by kernel_rfl, by kernel_rfl⟩, fun _ h => by cases h⟩⟩⟩⟩⟩

noncomputable def cfg : Cfg := { P := Try.prog, ext := extOf exts, hook := fun _ _ _ => none, facts := [] }
theorem follows : cfg.P.follows .mixedOrders = true := by kernel_rfl
theorem ext_ok : ExtOk cfg := extOk_of exts rfl exts_ok

end Go.Proofs.Ytlfahlalpgolcaa.rk
