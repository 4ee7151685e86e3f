/- A new log's machine: the states at its loop's head. -/
import Derived.Test.YtlgpfopipkiabaaXFour
import Derived.Test.YtlgpfopipkiabaaRk14
namespace Go.Proofs.Ytlgpfopipkiabaa.metaInit
open Go.X Go.Proofs.Ytlgpfopipkiabaa.rk

noncomputable def args : List V := [vagg [vx 3 (.leaf 0), vx 3 (.leaf 1), vx 3 (.leaf 2), vx 3 (.leaf 3), vx 2 (.leaf 4), vx 2 (.leaf 5), vx 2 (.leaf 6)], vun 7 3 (.len 7) []]
noncomputable def body : List Code := bodyOf Try.prog 3
/-- What is asked of a term, and raw tails, by the program and by the document. -/
noncomputable def asked (b : Bool) : List KnownV := [⟨28, [(3, .leaf 1)], vb b⟩, ⟨30, [(3, .leaf 1)], vb b⟩,
  ⟨14, [(2, .bin .add .i32 (.leaf 4) (.lit 0)), (6, .lit 0)], vx 7 (.leaf 10)⟩, ⟨14, [(2, .bin .add .i32 (.leaf 4) (.lit (-2))), (6, .lit 0)], vx 7 (.leaf 11)⟩, ⟨14, [(2, .bin .add .i32 (.leaf 4) (.lit (-1))), (6, .lit 0)], vx 7 (.leaf 12)⟩,
  ⟨24, [(2, .bin .sub .i32 (.leaf 4) (.lit 0)), (6, .lit 0)], vx 7 (.leaf 10)⟩, ⟨24, [(2, .bin .sub .i32 (.leaf 4) (.lit 2)), (6, .lit 0)], vx 7 (.leaf 11)⟩, ⟨24, [(2, .bin .sub .i32 (.leaf 4) (.lit 1)), (6, .lit 0)], vx 7 (.leaf 12)⟩]
/-- Where a log's numbers stand. -/
noncomputable def base : IE := .bin .add .i64 (.leaf 0) (.bin .mul .i64 (.lit 3) (.leaf 1))
noncomputable def spot (k : Nat) : IE := .bin .add .i64 base (.lit (.ofNat k))
/-- A store. -/
noncomputable def acc (k n : Nat) (v : V) : List V := [vi 3 2, vx 3 (spot k), vi 3 (.ofNat n), v, vi 7 0, vns]
noncomputable def subs (S : Nat) : List V := Nat.rec (motive := fun _ => List V) [] (fun k ih => ih ++ acc (48 + 8 * k) 8 (vi 7 0)) S
noncomputable def accs (S : Nat) : List V := acc 0 8 (vx 7 (.leaf 10)) ++ (acc 8 8 (vx 7 (.leaf 11)) ++ (acc 16 8 (vx 7 (.leaf 12)) ++ (acc 24 4 (vi 7 0) ++ (acc 32 8 (vx 7 (.conv .u64 (.bin .quo .i64 (.leaf 1) (.lit 2)))) ++ (acc 40 8 (vi 7 0) ++ subs S)))))
noncomputable def logO : CO := ⟨pn 1, true, 0, 1, false, [vx 3 (.leaf 0), vx 3 (.leaf 1), vx 3 (.leaf 2), vx 3 (.leaf 3), vx 2 (.leaf 4), vx 2 (.leaf 5), vx 2 (.leaf 6)]⟩
noncomputable def gone (n : Nat) : List V := Nat.rec (motive := fun _ => List V) [] (fun _ ih => vdead :: ih) n
noncomputable def slots (i : V) (l : List (Nat × IE)) : List V := [vdead, vun 7 3 (.len 7) (l.map winAtK), vp (pn 1) 0, vdead, vdead, vp (pn 2) 0, i] ++ gone 67
/-- What the machine has still to do, behind i accesses. -/
noncomputable def left (S i : Nat) : V := sel (Nat.beq i (6 + S)) (vse (pn 3) (6 * (i - 1)) (6 * i) 0 i) (vsv (pn 3) (6 * i) (6 + S - i) 0 i)
/-- The loop's head: a log that may be, d accesses done. -/
noncomputable def good (S d : Nat) (i : V) (l : List (Nat × IE)) : Canon := ⟨slots i l, [logO, ⟨pn 2, true, 0, 1, false, [left S d]⟩, ⟨pn 3, false, 0, 6, false, accs S⟩], l.map (toldAt 7 vos), pn 64, 1⟩
/-- The loop's head: a log that may not be. -/
noncomputable def bad (i : V) (l : List (Nat × IE)) : Canon := ⟨slots i l, [logO, ⟨pn 2, true, 0, 1, false, [vns]⟩], l.map (toldAt 7 vos), pn 64, 1⟩
/-- All rounds are done. -/
noncomputable def out (i : V) : Canon := ⟨[vdead, vun 7 3 (.len 7) [], vdead, vdead, vdead, vdead, i] ++ gone 67, [], [], pn 64, 0⟩
noncomputable def over : Canon := ⟨gone 74, [], [], pn 64, 0⟩
/-- What is known of a log that may be. -/
noncomputable def mayF : List Fact := [⟨.lss, .leaf 2, .lit 32, false⟩, ⟨.lss, .bin .quo .i64 (.leaf 1) (.lit 8), .leaf 2, false⟩, ⟨.eql, .bin .rem .i64 (.leaf 2) (.lit 32), .lit 0, true⟩, ⟨.lss, .leaf 3, .lit 1, false⟩, ⟨.lss, .lit 8, .leaf 3, false⟩, ⟨.lss, .leaf 0, .lit 0, false⟩,
  ⟨.eql, .bin .rem .i64 (.leaf 0) (.lit 8), .lit 0, true⟩, ⟨.lss, .bin .sub .i64 (.bin .sub .i64 (.lit 131072) (.bin .mul .i64 (.lit 3) (.leaf 1))) (.lit 128), .leaf 0, false⟩]
/-- Where subscribers' positions stand. -/
noncomputable def subF (k : Nat) : Fact := ⟨.eql, .bin .add .i64 (.bin .add .i64 base (.lit 48)) (.lit (.ofNat (8 * k))), spot (48 + 8 * k), true⟩
noncomputable def subsF (S : Nat) : List Fact := Nat.rec (motive := fun _ => List Fact) [] (fun k ih => subF k :: ih) S
noncomputable def goodF (S : Nat) : List Fact := ⟨.eql, .leaf 3, .lit (.ofNat S), true⟩ :: (mayF ++ subsF S)
/-- Place k is there; there are but i. -/
noncomputable def moreF (i : Nat) : List Fact := [⟨.lss, .lit (.ofNat i), .len 7, true⟩, ⟨.lss, .len 7, .lit (.ofNat i), false⟩]
noncomputable def lastF (i : Nat) : List Fact := [⟨.lss, .lit (.ofNat i), .len 7, false⟩, ⟨.lss, .len 7, .lit (.ofNat i), false⟩]
/-- So much was told already. -/
noncomputable def pastF (n : Nat) : List Fact := Nat.rec (motive := fun _ => List Fact) [⟨.lss, .leaf 16, .lit 0, false⟩] (fun k ih => ⟨.lss, .lit (.ofNat k), .leaf 16, true⟩ :: ih) n
noncomputable def moreL : List Fact := [⟨.lss, .leaf 16, .len 7, true⟩, ⟨.lss, .len 7, .leaf 16, false⟩]
noncomputable def lastL : List Fact := [⟨.lss, .leaf 16, .len 7, false⟩, ⟨.lss, .len 7, .leaf 16, false⟩]
noncomputable def outL : List Fact := [⟨.lss, .len 7, .leaf 16, true⟩]
noncomputable def nextL : V := vx 3 (.bin .add .i64 (.leaf 16) (.lit 1))

noncomputable def cfgI (b : Bool) : Cfg := { P := Try.prog, ext := extOf exts, hook := knowsV 4 (asked b), facts := [] }
noncomputable def res : List ResultVar := Try.f3.results.toList
noncomputable def seg (b : Bool) (g : SG) (l : List Code) (C : Canon) (fs : List Fact) : Bool := g.good (cfgI b) res 60 74 l C.tm C.st fs
noncomputable def fit (C0 C1 : Canon) (th : List (Nat × V)) : Bool := fitsC C1 th 74 C0.tm C0.st
noncomputable def rest : List Code := loopRest body
noncomputable def turn : List Code := [loopBody body]
/-- From the place behind the last access on the place is a leaf. -/
noncomputable def iAt (S k : Nat) : V := sel (Nat.beq k (6 + S)) (vx 3 (.leaf 16)) (vi 3 (.ofNat k))
noncomputable def thAt (S k : Nat) : List (Nat × V) := sel (Nat.beq k (6 + S)) [(16, vi 3 (.ofNat k))] []
noncomputable def segA (S i : Nat) : Bool := band (fit (good S i (vi 3 (.ofNat i)) []) (good S i (vi 3 (.ofNat i)) (firsts (i + 1))) (fresh (firsts (i + 1))))
  (seg true (.run 0 (good S (i + 1) (iAt S (i + 1)) []) (thAt S (i + 1))) turn (good S i (vi 3 (.ofNat i)) (firsts (i + 1))) (moreF i ++ goodF S))
noncomputable def segB (S i : Nat) : Bool := band (fit (good S i (vi 3 (.ofNat i)) []) (good S i (vi 3 (.ofNat i)) (firsts i)) (fresh (firsts i)))
  (seg true (.run 0 (out (vx 3 (.leaf 16))) [(16, vi 3 (.ofNat (i + 1)))]) turn (good S i (vi 3 (.ofNat i)) (firsts i)) (lastF i ++ goodF S))
noncomputable def upTo (f : Nat → Bool) (n : Nat) : Bool := Nat.rec (motive := fun _ => Bool) true (fun k ih => band ih (f k)) n
noncomputable def segAB (S : Nat) : Bool := upTo (fun i => band (segA S i) (segB S i)) (6 + S)
noncomputable def idle (S : Nat) (l : List (Nat × IE)) : Canon := good S (6 + S) (vx 3 (.leaf 16)) l
noncomputable def segC (S : Nat) : Bool := band (fit (idle S []) (idle S (firsts (6 + S) ++ here)) (fresh (firsts (6 + S) ++ here))) (seg true (.run 0 (idle S []) [(16, nextL)]) turn (idle S (firsts (6 + S) ++ here)) (moreL ++ (pastF (6 + S) ++ goodF S)))
noncomputable def segD (S : Nat) : Bool := band (fit (idle S []) (idle S (firsts (6 + S))) (fresh (firsts (6 + S)))) (seg true (.run 0 (out (vx 3 (.leaf 16))) [(16, nextL)]) turn (idle S (firsts (6 + S))) (lastL ++ (pastF (6 + S) ++ goodF S)))
/-- What a log must be, one after the other; else r. -/
noncomputable def mayTree (r : SG) (l : List Fact) : SG := List.rec (motive := fun _ => SG) .dead (fun f _ ih => .split f.op f.a f.b (sel f.r ih r) (sel f.r r ih)) l
noncomputable def badL (l : List (Nat × IE)) : Canon := bad (vx 3 (.leaf 16)) l
noncomputable def segE (b : Bool) : Bool := band (fit (badL []) (badL here) (fresh here)) (seg b (sel b (mayTree (.run 0 (badL []) [(16, nextL)]) mayF) (.run 0 (badL []) [(16, nextL)])) turn (badL here) (moreL ++ pastF 0))
noncomputable def segG (b : Bool) : Bool := seg b (sel b (mayTree (.run 0 (out (vx 3 (.leaf 16))) [(16, nextL)]) mayF) (.run 0 (out (vx 3 (.leaf 16))) [(16, nextL)])) turn (badL []) (lastL ++ pastF 0)
noncomputable def segO (b : Bool) : Bool := seg b (.run 2 over []) turn (out (vx 3 (.leaf 16))) outL
noncomputable def segZ (b : Bool) : Bool := seg b (.fin 1) rest over []
/-- Ahead of the loop. -/
noncomputable def toBad : SG := .run 0 (badL []) [(16, vi 3 0)]
noncomputable def toGood (S : Nat) : SG := .run 0 (good S 0 (vi 3 0) []) []
noncomputable def subsTree (n : Nat) : Nat → SG := Nat.rec (motive := fun _ => Nat → SG) (fun k => toGood k) (fun _ ih k => .split .lss (.lit (.ofNat k)) (.leaf 3) (ih (Nat.succ k)) (sel (Nat.beq k 0) .dead (toGood k))) n
noncomputable def treeT : SG := .split .lss (.lit 40) (.len 7) (.fin 1) (.split .lss (.leaf 3) (.lit 1) toBad (.split .lss (.lit 8) (.leaf 3) toBad (.split .lss (.leaf 2) (.lit 32) toBad (.split .lss (.bin .quo .i64 (.leaf 1) (.lit 8)) (.leaf 2) toBad
  (.split .eql (.bin .rem .i64 (.leaf 2) (.lit 32)) (.lit 0) (.split .lss (.leaf 0) (.lit 0) toBad (.split .lss (.bin .sub .i64 (.bin .sub .i64 (.lit 131072) (.bin .mul .i64 (.lit 3) (.leaf 1))) (.lit 128)) (.leaf 0) toBad
  (.split .eql (.bin .rem .i64 (.leaf 0) (.lit 8)) (.lit 0) (subsTree 8 0) toBad))) toBad)))))
noncomputable def treeF : SG := .split .lss (.lit 40) (.len 7) (.fin 1) toBad
noncomputable def segP (b : Bool) (g : SG) : Bool := g.good (cfgI b) res 60 74 (preL body) (frame args 0 noSlots) St.zero []

end Go.Proofs.Ytlgpfopipkiabaa.metaInit
