/- A frame is itself, and so are four words. -/
import Derived.Test.YthjmedocjndakaaRefWords
import Derived.Laws.StructEq
namespace Go.Proofs.Ythjmedocjndakaa
open Go.RowKit
set_option linter.unusedVariables false

theorem words_same (x0 x1 x2 x3 : Int) (w : World) : (Op.equalIn 10000 31 (.agg #[.int .u64 x0, .int .u64 x1, .int .u64 x2, .int .u64 x3]) (.agg #[.int .u64 x0, .int .u64 x1, .int .u64 x2, .int .u64 x3])).run Try.prog w = .ok true w := by
  have u3 := Try.underlying22
  have a3 := Try.isAgg22
  have z3 := Try.sizeOf22
  rw [show (10000 : Nat) = 9999 + 1 from rfl, Op.equalIn]
  simp only [Sem.run_bind, run_underlying Try.underlying31, Result.andThen_ok]
  simp only [Std.Legacy.Range.forIn_eq_forIn_range', Std.Legacy.Range.size, Nat.sub_zero, Nat.add_sub_cancel, Nat.div_one, List.range'_succ, List.range'_zero, List.forIn_cons, List.forIn_nil]
  go_simp

theorem frame_same (x0 x1 x2 x3 x4 x5 x6 x7 x8 : Int) (w : World) : (Op.equalIn 10000 30 (.agg #[.int .i32 x0, .int .u8 x1, .int .u8 x2, .int .u16 x3, .int .i32 x4, .int .i32 x5, .int .i32 x6, .int .i32 x7, .int .u64 x8]) (.agg #[.int .i32 x0, .int .u8 x1, .int .u8 x2, .int .u16 x3, .int .i32 x4, .int .i32 x5, .int .i32 x6, .int .i32 x7, .int .u64 x8])).run Try.prog w = .ok true w := by
  have u1 := Try.underlying22
  have u2 := Try.underlying21
  have u3 := Try.underlying5
  have u4 := Try.underlying28
  have z1 := Try.sizeOf22
  have z2 := Try.sizeOf21
  have z3 := Try.sizeOf5
  have z4 := Try.sizeOf28
  have g1 := Try.isAgg22
  have g2 := Try.isAgg21
  have g3 := Try.isAgg5
  have g4 := Try.isAgg28
  have hS : Try.prog.underlying 30 = some (.struct (Try.prog.fieldsOf 30)) := by kernel_rfl
  have hp : Try.prog.stoodInHeld 30 = false := by kernel_rfl
  rw [show (10000 : Nat) = 9999 + 1 from rfl, run_equalIn_agg w 9999 30 _ _ hS hp]
  simp only [Program.fieldsOf, Try.underlying30]
  go_simp

end Go.Proofs.Ythjmedocjndakaa
