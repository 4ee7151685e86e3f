/- An access's own bytes: the kernel reckons each piece. -/
import Derived.Test.YtlfahlalpgolcaaOwnDefs
namespace Go.Proofs.Ytlfahlalpgolcaa.membufOwn
open Go.X Go.Proofs.Ytlfahlalpgolcaa.rk

theorem p0 : segP 0 = true := by kernel_rfl
theorem b0 : segB 0 = true := by kernel_rfl
theorem d0 : segD 0 = true := by kernel_rfl
theorem s0 : segS 0 = true := by kernel_rfl
theorem p1 : segP 1 = true := by kernel_rfl
theorem b1 : segB 1 = true := by kernel_rfl
theorem d1 : segD 1 = true := by kernel_rfl
theorem s1 : segS 1 = true := by kernel_rfl
theorem p2 : segP 2 = true := by kernel_rfl
theorem b2 : segB 2 = true := by kernel_rfl
theorem d2 : segD 2 = true := by kernel_rfl
theorem s2 : segS 2 = true := by kernel_rfl
theorem p3 : segP 3 = true := by kernel_rfl
theorem b3 : segB 3 = true := by kernel_rfl
theorem d3 : segD 3 = true := by kernel_rfl
theorem s3 : segS 3 = true := by kernel_rfl
theorem p4 : segP 4 = true := by kernel_rfl
theorem b4 : segB 4 = true := by kernel_rfl
theorem d4 : segD 4 = true := by kernel_rfl
theorem s4 : segS 4 = true := by kernel_rfl
theorem p5 : segP 5 = true := by kernel_rfl
theorem b5 : segB 5 = true := by kernel_rfl
theorem d5 : segD 5 = true := by kernel_rfl
theorem s5 : segS 5 = true := by kernel_rfl
theorem p6 : segP 6 = true := by kernel_rfl
theorem b6 : segB 6 = true := by kernel_rfl
theorem d6 : segD 6 = true := by kernel_rfl
theorem s6 : segS 6 = true := by kernel_rfl
theorem p7 : segP 7 = true := by kernel_rfl
theorem b7 : segB 7 = true := by kernel_rfl
theorem d7 : segD 7 = true := by kernel_rfl
theorem s7 : segS 7 = true := by kernel_rfl
theorem p8 : segP 8 = true := by kernel_rfl
theorem b8 : segB 8 = true := by kernel_rfl
theorem d8 : segD 8 = true := by kernel_rfl
theorem s8 : segS 8 = true := by kernel_rfl
theorem aft : segA = true := by kernel_rfl
theorem hd : segH = true := by kernel_rfl
theorem en : segE = true := by kernel_rfl
theorem ze : segZ = true := by kernel_rfl
end Go.Proofs.Ytlfahlalpgolcaa.membufOwn
