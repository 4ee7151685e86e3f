/- A send: the statement changes the bytes that it handed in, one after the other; nothing else is touched. -/
import Derived.Test.YtkmiijmoejcjgaaGreatCastB
namespace Go.Proofs.YtkmiijmoejcjgaaGreat.castSteps
open Go.X Go.RowKit Go.Proofs.YtkmiijmoejcjgaaGreat.rk
set_option linter.unusedSimpArgs false
set_option linter.unusedVariables false

noncomputable def cAt (c : List Code) (k : Nat) : Code := (c[k]?).getD .skip
noncomputable def opsA (c : Code) : Array Oper := match c with | .region _ ops _ => ops | _ => #[]
noncomputable def idA (c : Code) : Nat := match c with | .region id _ _ => id | .block id _ => id | _ => 0
noncomputable def inA (c : Code) : Code := match c with | .block _ b => b | _ => .skip
noncomputable def round : List Code := flat (loopBody body)
noncomputable def inner : List Code := flat (inA (cAt round 2))
noncomputable def op (c : Code) (k : Nat) : Oper := ((opsA c)[k]?).getD ⟨none, .ready 0, 0, "", #[], none⟩
noncomputable def thn : Code := match cAt round 1 with | .cond _ t _ => t | _ => .skip
noncomputable def els : Code := match cAt round 1 with | .cond _ _ e => e | _ => .skip
theorem round_eq : round = [.region (idA (cAt round 0)) (opsA (cAt round 0)) false, .cond (.tmp 33) .skip (.exit 0), .block 1 (inA (cAt round 2)), .region (idA (cAt round 3)) (opsA (cAt round 3)) false] := by kernel_rfl
theorem inner_eq : inner = [.region (idA (cAt inner 0)) (opsA (cAt inner 0)) false, .region (idA (cAt inner 1)) (opsA (cAt inner 1)) false] := by kernel_rfl
theorem ops0 : (opsA (cAt round 0)).toList = [op (cAt round 0) 0] := by kernel_rfl
theorem ops3 : (opsA (cAt round 3)).toList = [op (cAt round 3) 0, op (cAt round 3) 1] := by kernel_rfl
theorem opsI : (opsA (cAt inner 0)).toList = [op (cAt inner 0) 0, op (cAt inner 0) 1] := by kernel_rfl
theorem opsJ : (opsA (cAt inner 1)).toList = [op (cAt inner 1) 0, op (cAt inner 1) 1, op (cAt inner 1) 2, op (cAt inner 1) 3, op (cAt inner 1) 4, op (cAt inner 1) 5, op (cAt inner 1) 6] := by kernel_rfl

structure Is (o : Oper) (d : Option Tmp) (p : Op) : Prop where
  op : o.op = p
  dst : o.dst = d
  guard : o.guard = none
theorem i0 : Is (op (cAt round 0) 0) (some 33) (.binOp .lss 3 (.tmp 32) (.tmp 31) 3) := ⟨by kernel_rfl, by kernel_rfl, by kernel_rfl⟩
theorem i1 : Is (op (cAt inner 0) 0) (some 34) (.move (.tmp 32)) := ⟨by kernel_rfl, by kernel_rfl, by kernel_rfl⟩
theorem i2 : Is (op (cAt inner 0) 1) (some 11) (.assign (.tmp 34)) := ⟨by kernel_rfl, by kernel_rfl, by kernel_rfl⟩
theorem j0 : Is (op (cAt inner 1) 0) (some 35) (.move (.tmp 9)) := ⟨by kernel_rfl, by kernel_rfl, by kernel_rfl⟩
theorem j1 : Is (op (cAt inner 1) 1) (some 36) (.move (.tmp 11)) := ⟨by kernel_rfl, by kernel_rfl, by kernel_rfl⟩
theorem j2 : Is (op (cAt inner 1) 2) (some 37) (.indexAddr 24 (.tmp 35) (.tmp 36)) := ⟨by kernel_rfl, by kernel_rfl, by kernel_rfl⟩
theorem j3 : Is (op (cAt inner 1) 3) (some 38) (.load 5 (.tmp 37)) := ⟨by kernel_rfl, by kernel_rfl, by kernel_rfl⟩
theorem j4 : Is (op (cAt inner 1) 4) (some 39) (.binOp .add 5 (.tmp 38) (.const (.int .u8 1)) 5) := ⟨by kernel_rfl, by kernel_rfl, by kernel_rfl⟩
theorem j5 : Is (op (cAt inner 1) 5) (some 40) (.indexAddr 24 (.tmp 35) (.tmp 36)) := ⟨by kernel_rfl, by kernel_rfl, by kernel_rfl⟩
theorem j6 : Is (op (cAt inner 1) 6) none (.store 5 (.tmp 40) (.tmp 39)) := ⟨by kernel_rfl, by kernel_rfl, by kernel_rfl⟩
theorem k0 : Is (op (cAt round 3) 0) (some 41) (.binOp .add 3 (.tmp 32) (.const (.int .i64 1)) 3) := ⟨by kernel_rfl, by kernel_rfl, by kernel_rfl⟩
theorem k1 : Is (op (cAt round 3) 1) (some 32) (.move (.tmp 41)) := ⟨by kernel_rfl, by kernel_rfl, by kernel_rfl⟩

end Go.Proofs.YtkmiijmoejcjgaaGreat.castSteps
