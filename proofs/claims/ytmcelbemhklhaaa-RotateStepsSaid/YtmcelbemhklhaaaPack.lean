/- Contracts of Pack and Unpack, the program's and the document's. -/
import Derived.Test.YtmcelbemhklhaaaPlaceMath
import Derived.Test.YtmcelbemhklhaaaProg
import Derived.Lib.Hide
namespace Go.Proofs.Ytmcelbemhklhaaa
open Go.RowKit
set_option linter.unusedVariables false

def upT (r : Int) : Int := wrap32 (r / 4294967296)
def upO (r : Int) : Int := r % 4294967296
theorem pk_up (t o : Int) (h1 : -2147483648 ≤ t) (h2 : t ≤ 2147483647) (h3 : 0 ≤ o) (h4 : o ≤ 4294967295) : upT (pkI t o) = t ∧ upO (pkI t o) = o := by
  unfold upT upO pkI wrap32; omega
theorem up_pk (r : Int) (h1 : 0 ≤ r) (h2 : r ≤ 18446744073709551615) : pkI (upT r) (upO r) = r := by
  unfold upT upO pkI wrap32; omega
theorem pk_range (t o : Int) (h3 : 0 ≤ o) (h4 : o ≤ 4294967295) : 0 ≤ pkI t o ∧ pkI t o ≤ 18446744073709551615 := by unfold pkI; omega
theorem up_range (r : Int) : -2147483648 ≤ upT r ∧ upT r ≤ 2147483647 ∧ 0 ≤ upO r ∧ upO r ≤ 4294967295 := by unfold upT upO wrap32; omega
theorem wraps_u64 (n : Int) (h₀ : 0 ≤ n) (h₁ : n < 2 ^ 64) : IntKind.u64.wrap n = n := IntWalk.u64_in n (by omega)
theorem or_high (x o : Int) (h1 : 0 ≤ x) (h2 : x < 4294967296) (h3 : 0 ≤ o) (h4 : o < 4294967296) : bits .or .u64 (x * 4294967296) o = x * 4294967296 + o :=
  bits_join .u64 64 (by decide) wraps_u64 32 (x * 4294967296) o (by omega) (by omega) (by omega) h3 (by omega) (by omega)

theorem pack_any (t o : Int) (w : World) (h3 : 0 ≤ o) (h4 : o ≤ 4294967295) :
    Calls Try.prog 49 #[.int .i32 t, .int .u32 o] w fun e w' => e = .returned (.int .u64 (pkI t o)) ∧ w = w' := by
  have hx : 0 ≤ t % 4294967296 ∧ t % 4294967296 < 4294967296 := by omega
  have e1 : IntKind.u32.wrap t = t % 4294967296 := IntKind.wrap_u32 t
  have e2 := or_high (t % 4294967296) o hx.1 hx.2 h3 (by omega)
  obtain ⟨hx0, hx1⟩ := hx
  unfold pkI
  generalize t % 4294967296 = x at *
  have H2 := Lib.hid e2
  clear e2
  go_enter Try.func49, Try.ntmps49
  go_wp2
  go_ret
  exact ⟨by rw [← H2.out]; rfl, rfl⟩

theorem unpack_any (r : Int) (w : World) (h1 : 0 ≤ r) (h2 : r ≤ 18446744073709551615) :
    Calls Try.prog 46 #[.int .u64 r] w fun e w' => e = .returned (.tuple #[.int .i32 (upT r), .int .u32 (upO r)]) ∧ w = w' := by
  have e2 : IntKind.u32.wrap r = upO r := IntKind.wrap_u32 r
  go_enter Try.func46, Try.ntmps46
  go_wp2
  go_ret2
  exact ⟨rfl, rfl⟩

theorem rpack_any (t o : Int) (w : World) (h1 : -2147483648 ≤ t) (h2 : t ≤ 2147483647) (h3 : 0 ≤ o) (h4 : o ≤ 4294967295) :
    Calls Try.prog 29 #[.int .i32 t, .int .u32 o] w fun e w' => e = .returned (.int .u64 (pkI t o)) ∧ w = w' := by
  by_cases h : t < 0
  · have H := Lib.hid (show pkI t o = (t + 4294967296) * 4294967296 + o by unfold pkI; omega)
    go_enter Try.func29, Try.ntmps29
    go_wp2
    go_ret
    exact ⟨by rw [H.out]; rfl, rfl⟩
  · have H := Lib.hid (show pkI t o = t * 4294967296 + o by unfold pkI; omega)
    go_enter Try.func29, Try.ntmps29
    go_wp2
    go_ret
    exact ⟨by rw [H.out]; rfl, rfl⟩

theorem runpack_any (r : Int) (w : World) (h1 : 0 ≤ r) (h2 : r ≤ 18446744073709551615) :
    Calls Try.prog 27 #[.int .u64 r] w fun e w' => e = .returned (.tuple #[.int .i32 (upT r), .int .u32 (upO r)]) ∧ w = w' := by
  have hq0 : 0 ≤ r / 4294967296 := by omega
  have hq1 : r / 4294967296 ≤ 4294967295 := by omega
  by_cases h : 2147483648 ≤ r / 4294967296
  · have H := Lib.hid (show upT r = r / 4294967296 - 4294967296 by unfold upT wrap32; omega)
    have H2 := Lib.hid (show upO r = r % 4294967296 from rfl)
    go_enter Try.func27, Try.ntmps27
    go_wp2
    go_ret2
    exact ⟨by rw [H.out, H2.out]; rfl, rfl⟩
  · have H := Lib.hid (show upT r = r / 4294967296 by unfold upT wrap32; omega)
    have H2 := Lib.hid (show upO r = r % 4294967296 from rfl)
    go_enter Try.func27, Try.ntmps27
    go_wp2
    go_ret2
    exact ⟨by rw [H.out, H2.out]; rfl, rfl⟩

end Go.Proofs.Ytmcelbemhklhaaa
