/- A rotation: the states at its loop's head. -/
import Derived.Test.YtmcelbemhklhaaaXFour
import Derived.Test.YtmcelbemhklhaaaRk15
namespace Go.Proofs.Ytmcelbemhklhaaa.rotateSteps
open Go.X Go.Proofs.Ytmcelbemhklhaaa.rk

noncomputable def args : List V := [vagg [vx 3 (.leaf 0), vx 3 (.leaf 1), vx 3 (.leaf 2), vx 3 (.leaf 3), vx 2 (.leaf 4), vx 2 (.leaf 5), vx 2 (.leaf 6)], vx 2 (.leaf 8), vun 7 3 (.len 7) []]
noncomputable def body : List Code := bodyOf Try.prog 3
/-- What a raw tail tells, that is leaf j: leaves 200 + j and 400 + j. -/
noncomputable def unpackOf (l : List V) (s : St) : Option (V × St) :=
  match l with
  | [v] => chk (band (v.is 3) (Nat.beq v.a 7)) (match v.x with
    | .leaf j => chk (band (Nat.ble 20 j) (Nat.blt j 143)) (some (vtup [vx 2 (.leaf (200 + j)), vx 6 (.leaf (400 + j))], s))
    | _ => none)
  | _ => none
noncomputable def hookR (g : Nat) (l : List KnownV) (f : FuncId) (args : List V) (s : St) : Option (V × St) :=
  sel (Nat.beq f 46 || Nat.beq f 27) (unpackOf args s) (knowsV g l f args s)
noncomputable def next : IE := .bin .add .i32 (.leaf 8) (.lit 1)
noncomputable def asked (b : Bool) : List KnownV := [⟨41, [(3, .leaf 1)], vb b⟩, ⟨51, [(3, .leaf 1)], vb b⟩, ⟨15, [(2, .leaf 8), (2, .leaf 4)], vx 6 (.leaf 9)⟩, ⟨23, [(2, .leaf 8), (2, .leaf 4)], vx 6 (.leaf 9)⟩,
  ⟨49, [(2, next), (6, .lit 0)], vx 7 (.leaf 10)⟩, ⟨29, [(2, next), (6, .lit 0)], vx 7 (.leaf 10)⟩]
/-- Where a log's numbers stand. -/
noncomputable def base : IE := .bin .add .i64 (.leaf 0) (.bin .mul .i64 (.lit 3) (.leaf 1))
noncomputable def spot (k : Nat) : IE := .bin .add .i64 base (.lit (.ofNat k))
noncomputable def logCells : List V := [vx 3 (.leaf 0), vx 3 (.leaf 1), vx 3 (.leaf 2), vx 3 (.leaf 3), vx 2 (.leaf 4), vx 2 (.leaf 5), vx 2 (.leaf 6)]
noncomputable def logO : CO := ⟨pn 1, true, 0, 1, false, logCells⟩
noncomputable def gone (n : Nat) : List V := Nat.rec (motive := fun _ => List V) [] (fun _ ih => vdead :: ih) n
/-- The machine: its access, what it does then, how it ended. -/
noncomputable def mach (acc : List V) (th : V) (moved : V) (e : Int) : CO := ⟨pn 2, true, 0, 1, false, acc ++ ([th, vni, vnf] ++ (logCells ++ [vx 6 (.leaf 9), vx 2 next, moved, vi 3 e]))⟩
noncomputable def slots (i : V) (l : List V) : List V := [vdead, vx 2 (.leaf 8), vun 7 3 (.len 7) l, vp (pn 1) 0, vdead, vdead, vdead, vp (pn 2) 0, i] ++ gone 78
/-- What was told at places: k, is it a load, or a swap that was done, or not? -/
noncomputable def toldK (q : Nat × Nat) : Giv := ⟨pn (8 + q.1), 7, .lit (.ofNat q.1), 3, [vx 7 (.leaf (20 + 3 * q.1)), sel (Nat.beq q.2 0) (vo (21 + 3 * q.1)) (vb (Nat.beq q.2 1)), vo (22 + 3 * q.1)]⟩
noncomputable def toldW (l : List (Nat × Nat)) : List V := l.map fun q => vwin (pn (8 + q.1)) (.lit (.ofNat q.1))
noncomputable def state (i : V) (m : List CO) (W : List V) (G : List Giv) : Canon := ⟨slots i W, logO :: m, G, pn 512, 0⟩
noncomputable def accEnd : List V := [vo 1000, vo 1001, vo 1002, vo 1003, vo 1004, vo 1005]
noncomputable def mEnd (moved : V) (e : Int) : List CO := [mach accEnd vnf moved e]
noncomputable def mClean : List CO := [mach [vi 3 1, vx 3 (spot 40), vi 3 8, vi 7 0, vi 7 0, vns] (vfn 20 [] [vp (pn 3) 0]) V.F 0, ⟨pn 3, true, 0, 1, false, [vp (pn 2) 0]⟩]
/-- What is known of a log that may be. -/
noncomputable def mayF : List Fact := [⟨.lss, .leaf 2, .lit 32, false⟩, ⟨.lss, .bin .quo .i64 (.leaf 1) (.lit 8), .leaf 2, false⟩, ⟨.eql, .bin .rem .i64 (.leaf 2) (.lit 32), .lit 0, true⟩, ⟨.lss, .leaf 3, .lit 1, false⟩, ⟨.lss, .lit 8, .leaf 3, false⟩, ⟨.lss, .leaf 0, .lit 0, false⟩,
  ⟨.eql, .bin .rem .i64 (.leaf 0) (.lit 8), .lit 0, true⟩, ⟨.lss, .bin .sub .i64 (.bin .sub .i64 (.lit 131072) (.bin .mul .i64 (.lit 3) (.leaf 1))) (.lit 128), .leaf 0, false⟩]
/-- Is there a next term? -/
noncomputable def cntF (b : Bool) : Fact := ⟨.lss, .bin .add .i64 (.conv .i64 (.leaf 9)) (.lit 1), .lit 2147483648, b⟩
noncomputable def moreF (i : Nat) : List Fact := [⟨.lss, .lit (.ofNat i), .len 7, true⟩, ⟨.lss, .len 7, .lit (.ofNat i), false⟩]
noncomputable def lastF (i : Nat) : List Fact := [⟨.lss, .lit (.ofNat i), .len 7, false⟩, ⟨.lss, .len 7, .lit (.ofNat i), false⟩]
/-- The next part, and where its raw tail stands. -/
noncomputable def part : IE := .conv .i64 (.bin .rem .u32 (.bin .add .u32 (.leaf 9) (.lit 1)) (.lit 3))
noncomputable def tailAt : IE := .bin .add .i64 base (.bin .mul .i64 (.lit 8) part)
noncomputable def partF : List Fact := [⟨.lss, part, .lit 0, false⟩, ⟨.lss, part, .lit 3, true⟩]
/-- Is the next part wiped? -/
noncomputable def cleanF (b : Bool) : Fact := ⟨.lss, .conv .i64 (.leaf 20), .bin .sub .i64 (.conv .i64 (.leaf 9)) (.lit 1), b⟩
/-- Is the tail of three terms ahead, at place k? -/
noncomputable def oldF (k : Nat) (b : Bool) : Fact := ⟨.eql, .leaf (220 + 3 * k), .bin .sub .i32 next (.lit 3), b⟩
noncomputable def goF : List Fact := cntF true :: (mayF ++ partF)
noncomputable def mTail : List CO := [mach [vi 3 1, vx 3 tailAt, vi 3 8, vi 7 0, vi 7 0, vns] (vfn 45 [] [vp (pn 3) 0, vp (pn 4) 0]) V.F 0, ⟨pn 3, true, 0, 1, false, [vp (pn 2) 0]⟩, ⟨pn 4, true, 0, 1, false, [vx 3 tailAt]⟩]
noncomputable def mCas (k : Nat) : List CO := [mach [vi 3 4, vx 3 tailAt, vi 3 8, vx 7 (.leaf (20 + 3 * k)), vx 7 (.leaf 10), vns] (vfn 50 [] [vp (pn 3) 0]) V.F 0, ⟨pn 3, true, 0, 1, false, [vp (pn 2) 0]⟩]
noncomputable def mAct : List CO := [mach [vi 3 4, vx 3 (spot 24), vi 3 4, vx 7 (.conv .u64 (.leaf 9)), vx 7 (.conv .u64 (.bin .add .u32 (.leaf 9) (.lit 1))), vns] (vfn 70 [] [vp (pn 3) 0]) V.F 0, ⟨pn 3, true, 0, 1, false, [vp (pn 2) 0]⟩]
/-- What was told till the tail is looked at for the c-th time (from 0 on), and what it said. -/
noncomputable def tailP (c : Nat) : List (Nat × Nat) := Nat.rec (motive := fun _ => List (Nat × Nat)) [(0, 0)] (fun k ih => (2 + 2 * k, 2) :: (1 + 2 * k, 0) :: ih) c
noncomputable def tailF (c : Nat) : List Fact := Nat.rec (motive := fun _ => List Fact) (cleanF false :: goF) (fun k ih => oldF (1 + 2 * k) true :: ih) c
/-- The other ways on from there. -/
noncomputable def casP (c : Nat) : List (Nat × Nat) := (1 + 2 * c, 0) :: tailP c
noncomputable def doneP (c : Nat) : List (Nat × Nat) := (2 + 2 * c, 1) :: casP c
noncomputable def casF (c : Nat) (b : Bool) : List Fact := oldF (1 + 2 * c) b :: tailF c

noncomputable def cfgR (b : Bool) : Cfg := { P := Try.prog, ext := extOf exts, hook := hookR 4 (asked b), facts := [] }
noncomputable def res : List ResultVar := Try.f3.results.toList
noncomputable def seg (b : Bool) (g : SG) (l : List Code) (C : Canon) (fs : List Fact) : Bool := g.good (cfgR b) res 60 87 l C.tm C.st fs
noncomputable def fit (C0 C1 : Canon) (th : List (Nat × V)) : Bool := fitsC C1 th 87 C0.tm C0.st
noncomputable def rest : List Code := loopRest body
noncomputable def turn : List Code := [loopBody body]
noncomputable def st0 (i : V) (m : List CO) : Canon := state i m [] []
noncomputable def stP (i : V) (m : List CO) (P : List (Nat × Nat)) : Canon := state i m (toldW P) (P.map toldK)
noncomputable def num (i : Nat) : V := vi 3 (.ofNat i)
noncomputable def leafI : V := vx 3 (.leaf 16)
noncomputable def nextL : V := vx 3 (.bin .add .i64 (.leaf 16) (.lit 1))
noncomputable def to (i : Nat) (m : List CO) : SG := .run 0 (st0 (num i) m) []
noncomputable def toIdle (i : Nat) (m : List CO) : SG := .run 0 (st0 leafI m) [(16, num i)]
/-- All rounds are done. -/
noncomputable def out (i : V) : Canon := ⟨[vdead, vdead, vun 7 3 (.len 7) [], vdead, vdead, vdead, vdead, vdead, i] ++ gone 78, [], [], pn 512, 0⟩
noncomputable def nothing : Canon := ⟨gone 87, [], [], pn 512, 0⟩
noncomputable def toOut (i : V) : SG := .run 0 (out leafI) [(16, i)]
noncomputable def more (i : Nat) (m : List CO) (P : List (Nat × Nat)) (fs : List Fact) (g : SG) : Bool := band (fit (st0 (num i) m) (stP (num i) m P) []) (seg true g turn (stP (num i) m P) (moreF i ++ fs))
noncomputable def last (i : Nat) (m : List CO) (P : List (Nat × Nat)) (fs : List Fact) : Bool := band (fit (st0 (num i) m) (stP (num i) m P) []) (seg true (toOut (num (i + 1))) turn (stP (num i) m P) (lastF i ++ fs))
/-- The wiped count is looked at. -/
noncomputable def seg1 : Bool := band (more 0 mClean [(0, 0)] goF (.split .lss (.conv .i64 (.leaf 20)) (.bin .sub .i64 (.conv .i64 (.leaf 9)) (.lit 1)) (toIdle 1 (mEnd V.F 5)) (to 1 mTail))) (last 0 mClean [] goF)
/-- A tail is looked at for the c-th time. -/
noncomputable def seg2 (c : Nat) : Bool := band (more (1 + 2 * c) mTail (casP c) (tailF c) (.split .eql (.leaf (220 + 3 * (1 + 2 * c))) (.bin .sub .i32 next (.lit 3)) (to (2 + 2 * c) (mCas (1 + 2 * c))) (to (2 + 2 * c) mAct))) (last (1 + 2 * c) mTail (tailP c) (tailF c))
/-- It is swapped: done, or not. -/
noncomputable def seg3 (c : Nat) : Bool := band (more (2 + 2 * c) (mCas (1 + 2 * c)) ((2 + 2 * c, 1) :: casP c) (casF c true) (to (3 + 2 * c) mAct)) (band (more (2 + 2 * c) (mCas (1 + 2 * c)) ((2 + 2 * c, 2) :: casP c) (casF c true) (to (3 + 2 * c) mTail)) (last (2 + 2 * c) (mCas (1 + 2 * c)) (casP c) (casF c true)))
/-- The count is moved on, behind a tail that was another one's, or that was swapped. -/
noncomputable def seg4 (i : Nat) (P : List (Nat × Nat)) (fs : List Fact) : Bool := band (more i mAct ((i, 1) :: P) fs (toIdle (i + 1) (mEnd V.T 0))) (band (more i mAct ((i, 2) :: P) fs (toIdle (i + 1) (mEnd V.F 0))) (last i mAct P fs))
noncomputable def seg4a (c : Nat) : Bool := seg4 (2 + 2 * c) (casP c) (casF c false)
noncomputable def seg4b (c : Nat) : Bool := seg4 (3 + 2 * c) (doneP c) (casF c true)
/-- Nothing is to be done any more. -/
noncomputable def here : Giv := ⟨pn 7, 7, .leaf 16, 3, [vo 17, vo 18, vo 19]⟩
noncomputable def stH (m : List CO) (P : List (Nat × Nat)) : Canon := state leafI m (vwin (pn 7) (.leaf 16) :: toldW P) (here :: P.map toldK)
noncomputable def thH : List (Nat × V) := [(17, vdead), (18, vdead), (19, vdead)]
noncomputable def pastF (n : Nat) : List Fact := Nat.rec (motive := fun _ => List Fact) [⟨.lss, .leaf 16, .lit 0, false⟩] (fun k ih => ⟨.lss, .lit (.ofNat k), .leaf 16, true⟩ :: ih) n
noncomputable def moreL : List Fact := [⟨.lss, .leaf 16, .len 7, true⟩, ⟨.lss, .len 7, .leaf 16, false⟩]
noncomputable def lastL : List Fact := [⟨.lss, .leaf 16, .len 7, false⟩, ⟨.lss, .len 7, .leaf 16, false⟩]
noncomputable def outL : List Fact := [⟨.lss, .len 7, .leaf 16, true⟩]
noncomputable def stay (m : List CO) : SG := .run 0 (st0 leafI m) [(16, nextL)]
noncomputable def idleG (b : Bool) (g h : SG) (m : List CO) (P : List (Nat × Nat)) (n : Nat) (fs : List Fact) : Bool :=
  band (band (fit (st0 leafI m) (stH m P) thH) (seg b g turn (stH m P) (moreL ++ (pastF n ++ fs)))) (band (fit (st0 leafI m) (stP leafI m P) []) (seg b h turn (stP leafI m P) (lastL ++ (pastF n ++ fs))))
noncomputable def idle (m : List CO) (P : List (Nat × Nat)) (n : Nat) (fs : List Fact) : Bool := idleG true (stay m) (toOut nextL) m P n fs
noncomputable def seg6a (c : Nat) : Bool := band (idle (mEnd V.T 0) ((2 + 2 * c, 1) :: casP c) (3 + 2 * c) (casF c false)) (idle (mEnd V.F 0) ((2 + 2 * c, 2) :: casP c) (3 + 2 * c) (casF c false))
noncomputable def seg6b (c : Nat) : Bool := band (idle (mEnd V.T 0) ((3 + 2 * c, 1) :: doneP c) (4 + 2 * c) (casF c true)) (idle (mEnd V.F 0) ((3 + 2 * c, 2) :: doneP c) (4 + 2 * c) (casF c true))
noncomputable def seg5 : Bool := idle (mEnd V.F 5) [(0, 0)] 1 (cleanF true :: goF)
noncomputable def segM : Bool := idle (mEnd V.F 7) [] 0 (cntF false :: mayF)
/-- What a log must be, one after the other; else r. -/
noncomputable def mayTree (r : SG) (l : List Fact) : SG := List.rec (motive := fun _ => SG) .dead (fun f _ ih => .split f.op f.a f.b (sel f.r ih r) (sel f.r r ih)) l
noncomputable def segB (b : Bool) : Bool := idleG b (sel b (mayTree (stay (mEnd V.F 1)) mayF) (stay (mEnd V.F 1))) (sel b (mayTree (toOut nextL) mayF) (toOut nextL)) (mEnd V.F 1) [] 0 []
noncomputable def segO (b : Bool) : Bool := seg b (.run 2 nothing []) turn (out leafI) outL
noncomputable def segZ (b : Bool) : Bool := seg b (.fin 1) rest nothing []
/-- Ahead of the loop. -/
noncomputable def toBad : SG := toIdle 0 (mEnd V.F 1)
noncomputable def treeT : SG := .split .lss (.lit 40) (.len 7) (.fin 1) (.split .lss (.leaf 3) (.lit 1) toBad (.split .lss (.lit 8) (.leaf 3) toBad (.split .lss (.leaf 2) (.lit 32) toBad (.split .lss (.bin .quo .i64 (.leaf 1) (.lit 8)) (.leaf 2) toBad
  (.split .eql (.bin .rem .i64 (.leaf 2) (.lit 32)) (.lit 0) (.split .lss (.leaf 0) (.lit 0) toBad (.split .lss (.bin .sub .i64 (.bin .sub .i64 (.lit 131072) (.bin .mul .i64 (.lit 3) (.leaf 1))) (.lit 128)) (.leaf 0) toBad
  (.split .eql (.bin .rem .i64 (.leaf 0) (.lit 8)) (.lit 0) (.split .lss (.bin .add .i64 (.conv .i64 (.leaf 9)) (.lit 1)) (.lit 2147483648) (to 0 mClean) (toIdle 0 (mEnd V.F 7))) toBad))) toBad)))))
noncomputable def treeF : SG := .split .lss (.lit 40) (.len 7) (.fin 1) toBad
noncomputable def segP (b : Bool) (g : SG) : Bool := g.good (cfgR b) res 60 87 (preL body) (frame args 0 noSlots) St.zero []
/-- From k on, n of them. -/
noncomputable def those (f : Nat → Bool) (k n : Nat) : Bool := Nat.rec (motive := fun _ => Bool) true (fun j ih => band ih (f (k + j))) n

end Go.Proofs.Ytmcelbemhklhaaa.rotateSteps
