/- A send: ahead of the statement's loops; a send that may not be. -/
import Derived.Test.YtkmiijmoejcjgaaGreatCastDefs
namespace Go.Proofs.YtkmiijmoejcjgaaGreat.castSteps
open Go.X Go.Proofs.YtkmiijmoejcjgaaGreat.rk

/-- Ahead of the bytes' being changed, and behind it. -/
noncomputable def canonO (m : List CO) : Canon := ⟨[vdead, vx 2 (l 2), bV false, vun 7 3 (.len 7) [], vp (pn 2) 0, vdead, vdead, vdead, vdead, vss (pn 13) 0 (l 3) 4 0, vp (pn 3) 0] ++ gone 20 ++ [vx 3 (l 3), vi 3 0] ++ gone 36, bOs false ++ (row 13 4 :: m), [], pn 512, 16⟩
noncomputable def canonA (m : List CO) : Canon := ⟨[vdead, vx 2 (l 2), bV false, vun 7 3 (.len 7) [], vp (pn 2) 0, vdead, vdead, vdead, vdead, vdead, vp (pn 3) 0] ++ gone 58, bOs false ++ m, [], pn 512, 16⟩
noncomputable def own : Code := .block (loopId body) (.loop (loopBody body))
noncomputable def args (z : Bool) : List V := [vagg ringV, vx 2 (l 2), sel z (vun 8 1 (.lit 0) []) (vss Path.zero 0 (l 3) 0 0), vun 7 3 (.len 7) []]
noncomputable def bObj : Go.X.Obj := { cells := .c1 z1, lit := true, room := 0, esz := 1, ro := true, gs := 1, gk := 4, go := 0, gn := l 3 }
noncomputable def start (z : Bool) : St := sel z St.zero (oneSt bObj)
noncomputable def toTail (z : Bool) : SG := .run 0 (sel z (state true 0 0 (mTail true)) (canonO (mTail false))) []
noncomputable def toBad (z : Bool) (e : Int) : SG := sel z (toIdle true 0 (mBad e)) (.run 0 (canonO (mBad e)) [])
noncomputable def limE : IE := .bin .sub .i64 (.bin .sub .i64 (.lit 131072) (l 1)) (.lit 32)
noncomputable def longE : IE := .bin .quo .i64 (l 1) (.lit 8)
noncomputable def treeQ (q z : Bool) : SG := sel q (.split .lss (l 1) (.lit 64) (toBad z 1) (.split .lss (.lit 8192) (l 1) (toBad z 1) (.split .lss (l 0) (.lit 0) (toBad z 1) (.split .lss limE (l 0) (toBad z 1)
  (.split .eql (.bin .rem .i64 (l 0) (.lit 8)) (.lit 0) (.split .lss (l 2) (.lit 1) (toBad z 1) (.split .lss longE (nE z) (toBad z 4) (toTail z))) (toBad z 1)))))) (toBad z 1)
noncomputable def treeP (q z : Bool) : SG := sel z (.split .lss (.lit 60) (.len 7) (.fin 1) (treeQ q true)) (.split .lss (.lit 1100) (l 3) (.fin 1) (.split .lss (.lit 60) (.len 7) (.fin 1) (treeQ q false)))
noncomputable def codeP (z : Bool) : List Code := sel z (preL body ++ (own :: preL rest)) (preL body)
noncomputable def segP (q z : Bool) : Bool := (treeP q z).good (cfgR q z) res 60 69 (codeP z) (frame (args z) 0 noSlots) (start z) (sel z [] [⟨.lss, .lit 0, l 3, true⟩, ⟨.lss, .lit 1099511627776, l 3, false⟩])
theorem ahead_tt : segP true true = true := by kernel_rfl
theorem ahead_tf : segP true false = true := by kernel_rfl
theorem ahead_ft : segP false true = true := by kernel_rfl
theorem ahead_ff : segP false false = true := by kernel_rfl

/-- The second loop is begun. -/
noncomputable def segA (G : SG) (m : List CO) : Bool := seg true false G (preL rest) (canonA m) []
theorem behind_tail : segA (.run 0 (state false 0 0 (mTail false)) []) (mTail false) = true := by kernel_rfl
theorem behind_bad : segA (toIdle false 0 (mBad 1)) (mBad 1) = true := by kernel_rfl
theorem behind_long : segA (toIdle false 0 (mBad 4)) (mBad 4) = true := by kernel_rfl
noncomputable def segA' (G : SG) (m : List CO) : Bool := seg false false G (preL rest) (canonA m) []
theorem behind_bad' : segA' (toIdle false 0 (mBad 1)) (mBad 1) = true := by kernel_rfl

/-- What a ring must be, as it is asked, one after the other; where it isn't: r. -/
noncomputable def mayF (q : Bool) : List Fact := [⟨.lss, l 1, .lit 64, false⟩, ⟨.lss, .lit 8192, l 1, false⟩] ++ sel q [⟨.lss, l 0, .lit 0, false⟩, ⟨.eql, .bin .rem .i64 (l 0) (.lit 8), .lit 0, true⟩, ⟨.lss, limE, l 0, false⟩, ⟨.lss, l 2, .lit 1, false⟩] []
noncomputable def mayTree (r last : SG) (k : List Fact) : SG := List.rec (motive := fun _ => SG) last (fun f _ ih => .split f.op f.a f.b (sel f.r ih r) (sel f.r r ih)) k
noncomputable def badTree (q : Bool) (r : SG) : SG := mayTree r (sel q .dead r) (mayF q)
noncomputable def stay (z : Bool) (m : List CO) : SG := .run 0 (state9 z [] [] m) [(19, next9)]
noncomputable def segBad (q z : Bool) : Bool := band (idleA q z 0 (mBad 1) [] (badTree q (stay z (mBad 1)))) (idleB q z 0 (mBad 1) [] (badTree q (.fin 1)))
theorem bad_tt : segBad true true = true := by kernel_rfl
theorem bad_tf : segBad true false = true := by kernel_rfl
theorem bad_ft : segBad false true = true := by kernel_rfl
theorem bad_ff : segBad false false = true := by kernel_rfl
noncomputable def longF (z : Bool) : List Fact := [⟨.lss, longE, nE z, true⟩] ++ (mayF true ++ sel z [] [⟨.lss, .lit 1100, l 3, false⟩, ⟨.lss, .lit 0, l 3, true⟩])
noncomputable def segLong (z : Bool) : Bool := band (idleA true z 0 (mBad 4) (longF z) (stay z (mBad 4))) (idleB true z 0 (mBad 4) (longF z) (.fin 1))
theorem long_t : segLong true = true := by kernel_rfl
theorem long_f : segLong false = true := by kernel_rfl

end Go.Proofs.YtkmiijmoejcjgaaGreat.castSteps
