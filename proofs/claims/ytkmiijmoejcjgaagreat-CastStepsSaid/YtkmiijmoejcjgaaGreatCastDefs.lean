/- A send: what its machine has at each turn of the statement's loop, in plain words; the turns. -/
import Derived.Test.YtkmiijmoejcjgaaGreatXFour
import Derived.Test.YtkmiijmoejcjgaaGreatRk11
namespace Go.Proofs.YtkmiijmoejcjgaaGreat.castSteps
open Go.X Go.Proofs.YtkmiijmoejcjgaaGreat.rk

noncomputable def body : List Code := bodyOf Tryz.prog 3
noncomputable def rest : List Code := loopRest body
noncomputable def l (j : Nat) : IE := .leaf j
/-- z: there are no bytes; q: the size is a power. -/
noncomputable def nE (z : Bool) : IE := sel z (.lit 0) (l 3)
noncomputable def needE (z : Bool) : IE := sel z (.lit 8) (l 5)
noncomputable def lenV (z : Bool) : V := sel z (vi 2 8) (vx 2 (.conv .i32 (.bin .add .i64 (.lit 8) (.leaf 3))))
noncomputable def la (q z : Bool) : List KnownA := [⟨69, [vx 3 (l 1)], vb q⟩, ⟨32, [vx 3 (l 1)], vb q⟩,
  ⟨15, [vx 3 (l 3)], vtup [vx 3 (l 5), vi 3 0]⟩, ⟨43, [vx 3 (l 3)], vtup [vx 3 (l 5), vi 3 0]⟩,
  ⟨40, [lenV z, vx 2 (l 2)], vx 7 (l 9)⟩, ⟨47, [lenV z, vx 2 (l 2)], vx 7 (l 9)⟩,
  ⟨40, [vx 2 (.conv .i32 (l 12)), vi 2 (-1)], vx 7 (l 10)⟩, ⟨47, [vx 2 (.conv .i32 (l 12)), vi 2 (-1)], vx 7 (l 10)⟩]
noncomputable def lr : List KnownR := [⟨78, l 3, l 4, [], 2⟩, ⟨74, l 3, l 4, [], 2⟩]
noncomputable def bV (z : Bool) : V := sel z (vun 8 1 (.lit 0) []) (vss (pn 1) 0 (l 3) 0 0)
noncomputable def dataV (z : Bool) : V := sel z vns (vss (pn 5) 0 (l 3) 1 0)
noncomputable def row (k : Nat) (c : Nat) : CO := cg (pn k) false c false [] 1 4 0 (l 3)
noncomputable def ringV : List V := [vx 3 (l 0), vx 3 (l 1)]
noncomputable def bOs (z : Bool) : List CO := co (pn 2) true 0 1 false ringV :: sel z [] [cg (pn 1) true 0 true [] 1 4 0 (l 3)]
noncomputable def dOs (z : Bool) : List CO := sel z [] [row 5 1]
noncomputable def gone (n : Nat) : List V := Nat.rec (motive := fun _ => List V) [] (fun _ ih => vdead :: ih) n
noncomputable def upTo (n : Nat) : List Nat := Nat.rec (motive := fun _ => List Nat) [] (fun k ih => ih ++ [k]) n
noncomputable def toldK (k : Nat) : Giv := ⟨pn (100 + k), 7, .lit (.ofNat k), 3, [vx 7 (.leaf (20 + 3 * k)), vo (21 + 3 * k), vo (22 + 3 * k)]⟩
noncomputable def givs (n : Nat) : List Giv := (upTo n).map toldK
noncomputable def wins (n : Nat) : List V := (upTo n).map fun k => vwin (pn (100 + k)) (.lit (.ofNat k))
/-- The place that is number 19. -/
noncomputable def toldH : Giv := ⟨pn 200, 7, l 19, 3, [vx 7 (.leaf 990), vo 991, vo 992]⟩
noncomputable def winH : V := vwin (pn 200) (l 19)
noncomputable def slots (z : Bool) (i : V) (W : List V) : List V := [vdead, vx 2 (l 2), bV z, vun 7 3 (.len 7) W, vp (pn 2) 0, vdead, vdead, vdead, vdead, vdead, vp (pn 3) 0] ++ gone 32 ++ [vx 3 (.len 7), i] ++ gone 24
noncomputable def state (z : Bool) (i n : Nat) (m : List CO) : Canon := ⟨slots z (vi 3 (.ofNat i)) (wins n), bOs z ++ m, givs n, pn 512, 16⟩
noncomputable def stateH (z : Bool) (n : Nat) (m : List CO) : Canon := ⟨slots z (vx 3 (l 19)) (winH :: wins n), bOs z ++ m, toldH :: givs n, pn 512, 16⟩
noncomputable def acc (k : Int) (at' : IE) (v : V) : List V := [vi 3 k, vOf 3 at', vi 3 8, v, vi 7 0, vns]
noncomputable def send (z : Bool) (a : List V) (th inner after tail : V) (e : Int) : CO := co (pn 3) true 0 1 false (a ++ [th, inner, after] ++ ringV ++ [vx 2 (l 2), dataV z, vOf 3 (needE z), tail, vi 3 e])
noncomputable def cell (k : Nat) (v : List V) : CO := co (pn k) true 0 1 false v
noncomputable def stored : V := vfn 61 [] [vp (pn 4) 0]
noncomputable def me : V := vp (pn 3) 0
noncomputable def endE : IE := .bin .add .i64 (l 0) (l 1)
noncomputable def placeE (g : Bool) : IE := sel g (l 0) (.bin .add .i64 (l 0) (l 6))
noncomputable def tailE (g : Bool) : IE := sel g (l 14) (l 15)
noncomputable def tailU (g : Bool) : IE := sel g (l 16) (l 20)
/-- What a machine that waits for its tail has, for its intent, and so on. -/
noncomputable def mTail (z : Bool) : List CO := [send z (acc 1 (.bin .add .i64 endE (.lit 8)) (vi 7 0)) (vfn 19 [] [vp (pn 4) 0]) vni vnf (vi 3 0) 0, cell 4 [me]] ++ dOs z
noncomputable def mIntend (z g : Bool) : List CO := [send z (acc 2 endE (vx 7 (l 11))) stored vni vnf (vx 3 (l 15)) 0, cell 4 [sel g (vfn 38 [] [vp (pn 6) 0, vp (pn 7) 0]) (vfn 37 [me] [])]] ++
  sel g [cell 6 [me], cell 7 [vx 3 (l 12)]] [] ++ dOs z
noncomputable def mPad (z : Bool) : List CO := [send z (acc 2 (.bin .add .i64 (l 0) (l 6)) (vx 7 (l 10))) stored vni vnf (vx 3 (l 15)) 0, cell 4 [vfn 41 [] [vp (pn 6) 0, vp (pn 7) 0]], cell 6 [me], cell 7 [vx 3 (l 12)]] ++ dOs z
noncomputable def mRecord (z g : Bool) : List CO := [send z (acc 2 (placeE g) (vx 7 (l 9))) stored vni vnf (vx 3 (tailE g)) 0, cell 4 [vfn 62 [] [vp (pn 6) 0]], cell 6 [me]] ++ dOs z
noncomputable def atE (g : Bool) (k : Nat) : IE := Nat.rec (motive := fun _ => IE) (.bin .add .i64 (placeE g) (.lit 8)) (fun _ ih => .bin .add .i64 ih (.lit 8)) k
noncomputable def remE (k : Nat) : IE := sel (Nat.beq k 0) (l 3) (.bin .sub .i64 (l 3) (.lit (.ofNat (8 * k))))
noncomputable def cntE (k : Nat) : IE := sel (Nat.beq k 0) (l 4) (.bin .sub .i64 (l 4) (.lit (.ofNat k)))
noncomputable def mPay (g : Bool) (k : Nat) : List CO := [send false (acc 2 (placeE g) (vx 7 (l 9))) vnf (vifc 119 (vp (pn 4) 0)) (vfn 65 [] [vp (pn 6) 0]) (vx 3 (tailE g)) 0,
  cell 4 [vfn 92 [] [vp (pn 7) 0, vp (pn 8) 0], vfn 93 [] [vp (pn 7) 0, vp (pn 9) 0], vx 3 (atE g k), vss (pn 10) k (cntE k) 2 k, vns],
  cell 6 [me], row 5 1, cell 7 [vp (pn 4) 0], cell 8 [vfn 79 [] [vp (pn 11) 0]], cell 9 [vfn 81 [] [vp (pn 11) 0]], cg (pn 10) true 0 false [] 2 3 0 (l 4), cell 11 [vss (pn 12) (8 * k) (remE k) 3 (8 * k)], row 12 3]
noncomputable def mLatest (z g : Bool) : List CO := [send z (acc 2 (.bin .add .i64 endE (.lit 16)) (vx 7 (tailU g))) stored vni vnf (vx 3 (tailE g)) 0, cell 4 [vfn 67 [] [vp (pn 6) 0]], cell 6 [me]] ++ dOs z
noncomputable def mMoved (z g : Bool) : List CO := [send z (acc 2 (.bin .add .i64 endE (.lit 8)) (vx 7 (l 11))) stored vni vnf (vx 3 (tailE g)) 0, cell 4 [vfn 68 [] []]] ++ dOs z
noncomputable def mEnd (z g : Bool) : List CO := [send z [vo 1000, vo 1001, vo 1002, vo 1003, vo 1004, vo 1005] vnf vni vnf (vx 3 (tailE g)) 0] ++ dOs z
noncomputable def mBad (e : Int) : List CO := [co (pn 3) true 0 1 false ([vi 3 0, vi 3 0, vi 3 0, vi 7 0, vi 7 0, vns, vnf, vni, vnf] ++ ringV ++ [vx 2 (l 2), vns, vi 3 0, vi 3 0, vi 3 e])]
/-! What is known. -/
noncomputable def goodF (z : Bool) : List Fact := [⟨.lss, l 1, .lit 64, false⟩, ⟨.lss, .lit 8192, l 1, false⟩, ⟨.lss, l 0, .lit 0, false⟩, ⟨.lss, .bin .sub .i64 (.bin .sub .i64 (.lit 131072) (l 1)) (.lit 32), l 0, false⟩, ⟨.eql, .bin .rem .i64 (l 0) (.lit 8), .lit 0, true⟩,
  ⟨.lss, l 2, .lit 1, false⟩, ⟨.lss, .bin .quo .i64 (l 1) (.lit 8), nE z, false⟩, ⟨.eql, .conv .u64 (l 1), .lit 0, false⟩]
noncomputable def nF (z : Bool) : List Fact := ⟨.lss, .lit 60, .len 7, false⟩ :: sel z [] [⟨.lss, .lit 1100, l 3, false⟩, ⟨.lss, .lit 0, l 3, true⟩]
noncomputable def rewF (z : Bool) : List Fact := [⟨.eql, .conv .i64 (l 20), l 15, true⟩, ⟨.eql, .bin .and .i64 (l 15) (.bin .sub .i64 (l 1) (.lit 1)), l 6, true⟩, ⟨.eql, .conv .i64 (.bin .rem .u64 (l 20) (.conv .u64 (l 1))), l 6, true⟩, ⟨.eql, .conv .i64 (.bin .rem .u64 (.lit 0) (.conv .u64 (l 1))), .lit 0, true⟩,
  ⟨.eql, .bin .sub .i64 endE (.bin .add .i64 (l 0) (l 6)), l 12, true⟩, ⟨.eql, .bin .sub .i64 (l 1) (l 6), l 12, true⟩, ⟨.eql, .bin .add .i64 (l 0) (.lit 0), l 0, true⟩, ⟨.lss, .bin .sub .i64 endE (l 0), needE z, false⟩]
noncomputable def needU (z : Bool) : IE := sel z (.lit 8) (.conv .u64 (l 5))
noncomputable def gF (z g : Bool) : List Fact := sel g [⟨.lss, l 12, needE z, true⟩, ⟨.eql, .bin .add .i64 (l 15) (l 12), l 14, true⟩, ⟨.eql, .conv .u64 (.bin .add .i64 (l 14) (needE z)), l 11, true⟩, ⟨.eql, .bin .add .u64 (l 20) (.conv .u64 (.bin .add .i64 (l 12) (needE z))), l 11, true⟩,
    ⟨.eql, .bin .and .i64 (l 14) (.bin .sub .i64 (l 1) (.lit 1)), .lit 0, true⟩, ⟨.eql, .bin .add .u64 (l 20) (.conv .u64 (l 12)), l 16, true⟩, ⟨.eql, .conv .u64 (l 14), l 16, true⟩, ⟨.eql, .bin .add .u64 (l 16) (needU z), l 11, true⟩, ⟨.eql, .conv .i64 (l 16), l 14, true⟩]
  [⟨.lss, l 12, needE z, false⟩, ⟨.eql, .conv .u64 (.bin .add .i64 (l 15) (needE z)), l 11, true⟩, ⟨.eql, .bin .add .u64 (l 20) (needU z), l 11, true⟩, ⟨.eql, .conv .u64 (l 15), l 20, true⟩]
noncomputable def baseF (z g : Bool) : List Fact := gF z g ++ (rewF z ++ (goodF z ++ nF z))
/-- How many were told: more than i; i. -/
noncomputable def moreF (i : Nat) : List Fact := [⟨.lss, .lit (.ofNat i), .len 7, true⟩]
noncomputable def lastF (i : Nat) : List Fact := [⟨.eql, .len 7, .lit (.ofNat i), true⟩]
noncomputable def chE (k : Nat) : IE := .leaf (gl 2 k)
/-- Part k is there; it is the last. -/
noncomputable def pastsF (k : Nat) : List Fact := (upTo k).map fun j => ⟨.eql, chE j, .lit 8, true⟩
noncomputable def payF (k : Nat) : List Fact := [⟨.lss, .lit (.ofNat (8 * k)), l 3, true⟩, ⟨.lss, .lit (.ofNat k), l 4, true⟩, ⟨.lss, .lit 140, l 4, false⟩, ⟨.lss, chE k, .lit 1, false⟩, ⟨.lss, .lit 8, chE k, false⟩, ⟨.lss, remE k, chE k, false⟩] ++ pastsF k
noncomputable def doneF (k : Nat) : List Fact := [⟨.lss, .lit (.ofNat (8 * k + 8)), l 3, false⟩, ⟨.eql, l 4, .lit (.ofNat (k + 1)), true⟩, ⟨.eql, chE k, remE k, true⟩] ++ payF k

noncomputable def cfgR (q z : Bool) : Cfg := { P := Tryz.prog, ext := extOf exts, hook := knowsR 4 (la q z) lr, facts := [] }
noncomputable def res : List ResultVar := Tryz.f3.results.toList
noncomputable def turn : List Code := [loopBody rest]
noncomputable def seg (q z : Bool) (g : SG) (c : List Code) (C : Canon) (fs : List Fact) : Bool := g.good (cfgR q z) res 60 69 c C.tm C.st fs
noncomputable def fit (C0 C1 : Canon) (th : List (Nat × V)) : Bool := fitsC C1 th 69 C0.tm C0.st
/-- A turn that is followed by another; what comes behind the last one. -/
noncomputable def it (z : Bool) (i : Nat) (m m' : List CO) (fs : List Fact) : Bool := band (fit (state z i 0 m) (state z i (i + 1) m) []) (seg true z (.run 0 (state z (i + 1) 0 m') []) turn (state z i (i + 1) m) (moreF i ++ fs))
noncomputable def ex (z : Bool) (i : Nat) (m : List CO) (fs : List Fact) : Bool := band (fit (state z i 0 m) (state z i i m) []) (band (seg true z (.run 4 (state z i i m) []) turn (state z i i m) (lastF i ++ fs)) (seg true z (.fin 1) (loopRest rest) (state z i i m) (lastF i ++ fs)))
/-- The turns of a machine that is at its end, whatever their number (leaf 19). -/
noncomputable def state9 (z : Bool) (W : List V) (G : List Giv) (m : List CO) : Canon := ⟨slots z (vx 3 (l 19)) W, bOs z ++ m, G, pn 512, 16⟩
noncomputable def next9 : V := vx 3 (.bin .add .i64 (l 19) (.lit 1))
noncomputable def thH : List (Nat × V) := [(990, vdead), (991, vdead), (992, vdead)]
noncomputable def pastL (n : Nat) : List Fact := [⟨.lss, l 19, .lit (.ofNat n), false⟩, ⟨.lss, .lit 60, l 19, false⟩]
noncomputable def moreL : List Fact := [⟨.lss, l 19, .len 7, true⟩, ⟨.lss, .len 7, l 19, false⟩]
noncomputable def lastL (n : Nat) : List Fact := [⟨.lss, l 19, .len 7, false⟩, ⟨.lss, .len 7, .lit (.ofNat n), false⟩]
noncomputable def toIdle (z : Bool) (i : Nat) (m : List CO) : SG := .run 0 (state9 z [] [] m) [(19, vi 3 (.ofNat i))]
noncomputable def idleA (q z : Bool) (n : Nat) (m : List CO) (fs : List Fact) (G : SG) : Bool :=
  band (fit (state9 z [] [] m) (state9 z (winH :: wins n) (toldH :: givs n) m) thH) (seg q z G turn (state9 z (winH :: wins n) (toldH :: givs n) m) (moreL ++ (pastL n ++ fs)))
noncomputable def idleB (q z : Bool) (n : Nat) (m : List CO) (fs : List Fact) (H : SG) : Bool :=
  band (fit (state9 z [] [] m) (state9 z (wins n) (givs n) m) []) (band (seg q z (.run 4 (state9 z (wins n) (givs n) m) []) turn (state9 z (wins n) (givs n) m) (lastL n ++ (pastL n ++ fs))) (seg q z H (loopRest rest) (state9 z (wins n) (givs n) m) (lastL n ++ (pastL n ++ fs))))
noncomputable def itE (z : Bool) (i : Nat) (m m' : List CO) (fs : List Fact) : Bool := band (fit (state z i 0 m) (state z i (i + 1) m) []) (seg true z (toIdle z (i + 1) m') turn (state z i (i + 1) m) (moreF i ++ fs))
/-- Ahead of what is written: the tail, the intent, padding, the record. -/
noncomputable def at0 (g : Bool) : Nat := sel g 3 2
noncomputable def segHead (z g : Bool) : Bool := band (it z 0 (mTail z) (mIntend z g) (baseF z g)) (band (ex z 1 (mIntend z g) (baseF z g)) (sel g (band (it z 1 (mIntend z true) (mPad z) (baseF z true)) (band (ex z 2 (mPad z) (baseF z true)) (it z 2 (mPad z) (mRecord z true) (baseF z true)))) (it z 1 (mIntend z false) (mRecord z false) (baseF z false))))
noncomputable def segFirst (z : Bool) : Bool := ex z 0 (mTail z) (rewF z ++ (goodF z ++ nF z))
noncomputable def segRecord (g : Bool) : Bool := band (ex false (at0 g) (mRecord false g) (baseF false g)) (it false (at0 g) (mRecord false g) (mPay g 0) (payF 0 ++ baseF false g))
/-- Part k: it is told, and another one follows; none follows; it isn't told. -/
noncomputable def segMore (g : Bool) (k : Nat) : Bool := it false (at0 g + 1 + k) (mPay g k) (mPay g (k + 1)) (payF (k + 1) ++ baseF false g)
noncomputable def segStop (g : Bool) (k : Nat) : Bool := ex false (at0 g + 1 + k) (mPay g k) (payF k ++ baseF false g)
noncomputable def segLast (g : Bool) (k : Nat) : Bool := it false (at0 g + 1 + k) (mPay g k) (mLatest false g) (doneF k ++ baseF false g)
/-- Behind what is written: the latest, the tail, nothing. -/
noncomputable def segTa (g : Bool) (k : Nat) : Bool := ex false (at0 g + 2 + k) (mLatest false g) (doneF k ++ baseF false g)
noncomputable def segTb (g : Bool) (k : Nat) : Bool := it false (at0 g + 2 + k) (mLatest false g) (mMoved false g) (doneF k ++ baseF false g)
noncomputable def segTc (g : Bool) (k : Nat) : Bool := ex false (at0 g + 3 + k) (mMoved false g) (doneF k ++ baseF false g)
noncomputable def segTd (g : Bool) (k : Nat) : Bool := itE false (at0 g + 3 + k) (mMoved false g) (mEnd false g) (doneF k ++ baseF false g)
noncomputable def segIa (g : Bool) (k : Nat) : Bool := idleA true false (at0 g + 4 + k) (mEnd false g) (doneF k ++ baseF false g) (.run 0 (state9 false [] [] (mEnd false g)) [(19, next9)])
noncomputable def segIb (g : Bool) (k : Nat) : Bool := idleB true false (at0 g + 4 + k) (mEnd false g) (doneF k ++ baseF false g) (.fin 1)
noncomputable def segNone (g : Bool) : Bool := band (band (ex true (at0 g) (mRecord true g) (baseF true g)) (it true (at0 g) (mRecord true g) (mLatest true g) (baseF true g)))
  (band (band (band (ex true (at0 g + 1) (mLatest true g) (baseF true g)) (it true (at0 g + 1) (mLatest true g) (mMoved true g) (baseF true g))) (band (ex true (at0 g + 2) (mMoved true g) (baseF true g)) (itE true (at0 g + 2) (mMoved true g) (mEnd true g) (baseF true g))))
    (band (idleA true true (at0 g + 3) (mEnd true g) (baseF true g) (.run 0 (state9 true [] [] (mEnd true g)) [(19, next9)])) (idleB true true (at0 g + 3) (mEnd true g) (baseF true g) (.fin 1))))
/-- From k on, n of them. -/
noncomputable def those (f : Nat → Bool) (k n : Nat) : Bool := Nat.rec (motive := fun _ => Bool) true (fun j ih => band ih (f (k + j))) n

end Go.Proofs.YtkmiijmoejcjgaaGreat.castSteps
