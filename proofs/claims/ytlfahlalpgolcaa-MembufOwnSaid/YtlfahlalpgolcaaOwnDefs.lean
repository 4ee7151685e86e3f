/- An access's own bytes: the states between the pieces of the statement's code. -/
import Derived.Test.YtlfahlalpgolcaaXFour
import Derived.Test.YtlfahlalpgolcaaRk02
namespace Go.Proofs.Ytlfahlalpgolcaa.membufOwn
open Go.X Go.Proofs.Ytlfahlalpgolcaa.rk

/-- The access's bytes: none that are looked at (0), or a row of so many. -/
noncomputable def argB (n : Nat) : V := sel (Nat.beq n 0) (vosl 8) (vsv Path.zero 0 n 0 0)
noncomputable def acc (q : V) : List V := [vx 3 (.leaf 0), vx 3 (.leaf 1), vx 3 (.leaf 2), vx 7 (.leaf 3), vx 7 (.leaf 4), q]
noncomputable def args (n : Nat) : List V := [vun 7 1 (.len 7) [], vagg (acc (argB n))]
noncomputable def body : List Code := bodyOf Try.prog 3
noncomputable def mid : List Code := preL (loopRest body)
noncomputable def body2 : List Code := loopRest body
noncomputable def gone (n : Nat) : List V := Nat.rec (motive := fun _ => List V) [] (fun _ ih => vdead :: ih) n
/-- Eight of a kind. -/
noncomputable def eight (f : Nat → V) : List V := [f 0, f 1, f 2, f 3, f 4, f 5, f 6, f 7]
/-- What the access's bytes are: opaque (0), or a row. -/
noncomputable def keepB (n : Nat) : V := sel (Nat.beq n 0) (vosl 8) (vsv (pn 5) 0 n 0 0)
noncomputable def rowB (n : Nat) : List V := Nat.rec (motive := fun _ => List V) [] (fun k ih => ih ++ [vx 4 (.leaf (40 + k))]) n
noncomputable def rowO (n : Nat) : List CO := sel (Nat.beq n 0) [] [⟨pn 5, true, 0, 1, true, rowB n⟩]
noncomputable def accO (q : V) : CO := ⟨pn 1, true, 0, 1, false, acc q⟩
noncomputable def bufO (q : V) : CO := ⟨pn 2, true, 0, 1, false, [vsl (pn 3) 0 8 8, q]⟩
noncomputable def wordsO (f : Nat → V) : CO := ⟨pn 3, true, 0, 1, false, eight f⟩
noncomputable def wd (k : Nat) : V := vx 7 (.leaf (20 + k))
noncomputable def num (i : Nat) : V := vi 3 (.ofNat i)
noncomputable def slots1 (i : Nat) (W : List V) : List V := [vdead, vdead, vdead, vp (pn 1) 0, vdead, vp (pn 2) 0, vi 3 0] ++ (gone 22 ++ ([vun 7 1 (.len 7) W, vx 3 (.len 7), num i] ++ gone 62))
/-- The first loop's head. -/
noncomputable def head1 (n i : Nat) (W : List V) (G : List Giv) : Canon := ⟨slots1 i W, [accO (keepB n), bufO (vx 3 (.leaf 28)), wordsO wd] ++ rowO n, G, pn 64, 1⟩
noncomputable def winI (i : Nat) : V := vwin (pn 6) (.lit (.ofNat i))
noncomputable def givI (i : Nat) : Giv := ⟨pn 6, 7, .lit (.ofNat i), 1, [vx 4 (.leaf 30)]⟩
noncomputable def moreF (i : Nat) : List Fact := [⟨.lss, .lit (.ofNat i), .len 7, true⟩]
noncomputable def lastF (i : Nat) : List Fact := [⟨.lss, .lit (.ofNat i), .len 7, false⟩]
noncomputable def mid0 (n : Nat) : Canon := ⟨[vdead, vdead, vdead, vp (pn 1) 0, vdead, vp (pn 2) 0, vi 3 0] ++ gone 87, [accO (keepB n), bufO (vx 3 (.leaf 28)), wordsO wd] ++ rowO n, [], pn 64, 1⟩
/-- 64 of a kind. -/
noncomputable def upL (f : Nat → V) (n : Nat) : List V := Nat.rec (motive := fun _ => List V) [] (fun k ih => ih ++ [f k]) n
noncomputable def leafL (j k : Nat) : V := vx 4 (.leaf (j + k))
noncomputable def bytesO (p : Nat) (j : Nat) : CO := ⟨pn p, true, 0, 1, false, upL (leafL j) 64⟩
noncomputable def slotsB : List V := [vdead, vdead, vdead, vp (pn 1) 0, vdead, vp (pn 2) 0, vi 3 0, vdead, vdead, vsl (pn 4) 0 64 64] ++ gone 84
/-- Behind the first look at all bytes: the access. -/
noncomputable def doA (k a n : V) (q : V) (r : List CO) : Canon := ⟨slotsB, [⟨pn 1, true, 0, 1, false, [k, a, n, vx 7 (.leaf 3), vx 7 (.leaf 4), q]⟩, bufO (vx 3 (.leaf 28)), wordsO wd, bytesO 4 100] ++ r, [], pn 64, 1⟩
noncomputable def do0 (n : Nat) : Canon := doA (vx 3 (.leaf 0)) (vx 3 (.leaf 1)) (vx 3 (.leaf 2)) (keepB n) (rowO n)
noncomputable def doN (k a n : Nat) : Canon := doA (num k) (num a) (num n) (vo 1000) []
noncomputable def doW (a n : Nat) : Canon := doA (num 6) (num a) (num n) (keepB n) (rowO n)
/-- Byte i of eight words that are leaves j and on. -/
noncomputable def byteE (j i : Nat) : V := vx 4 (.conv .u8 (.shr (.leaf (j + i / 8)) (8 * (i % 8))))
noncomputable def thBytes (to from_ : Nat) (n : Nat) : List (Nat × V) := Nat.rec (motive := fun _ => List (Nat × V)) [] (fun k ih => (to + k, byteE from_ k) :: ih) n
/-- Behind the access: the words are leaves 50 and on, what it answered is leaf 29, its place and length are leaves 31 and 32. -/
noncomputable def did : Canon := ⟨[vdead, vdead, vdead, vp (pn 1) 0, vdead, vp (pn 2) 0, vi 3 0, vdead, vdead, vsl (pn 4) 0 64 64, vdead, vx 3 (.leaf 29)] ++ gone 82, [⟨pn 1, true, 0, 1, false, [vo 1001, vx 3 (.leaf 31), vx 3 (.leaf 32), vo 1002, vo 1003, vo 1004]⟩, bufO (vo 1005), wordsO (fun k => vx 7 (.leaf (50 + k))), bytesO 4 100], [], pn 64, 1⟩
/-- The second loop's head. -/
noncomputable def head2 (i : Nat) : Canon := ⟨[vdead, vdead, vdead, vp (pn 1) 0, vdead, vdead, vi 3 0, vdead, vdead, vsl (pn 4) 0 64 64, vdead, vx 3 (.leaf 29), vsl (pn 5) 0 64 64] ++ (gone 41 ++ ([vi 3 64, num i] ++ gone 38)), [⟨pn 1, true, 0, 1, false, [vo 1001, vx 3 (.leaf 31), vx 3 (.leaf 32), vo 1002, vo 1003, vo 1004]⟩, bytesO 4 100, bytesO 5 200], [], pn 64, 1⟩
noncomputable def over2 : Canon := ⟨[vdead, vdead, vdead, vdead, vdead, vdead, vi 3 0, vdead, vdead, vdead, vdead, vdead, vsl (pn 5) 0 64 64] ++ gone 81, [bytesO 5 200], [], pn 64, 1⟩
/-- A word, but that bytes of it are another number's. -/
noncomputable def newW (w : Nat) (x : IE) (s m : Nat) : V := vx 7 (.bin .or .u64 (.bin .andNot .u64 (.leaf (20 + w)) (.lit (.ofNat m))) (.bin .and .u64 (.shl .u64 x s) (.lit (.ofNat m))))
noncomputable def maskN (o n : Nat) : Nat := Nat.mul (Nat.sub (Nat.pow 2 (8 * n)) 1) (Nat.pow 2 (8 * o))
/-- A number out of bytes. -/
noncomputable def numE (f : Nat → IE) (n : Nat) : IE := Nat.rec (motive := fun _ => IE) (.lit 0) (fun k ih => .bin .or .u64 ih (.shl .u64 (.conv .u64 (f k)) (8 * k))) n
noncomputable def ofV (k : Nat) : IE := .conv .u8 (.shr (.leaf 3) (8 * k))
noncomputable def ofB (o k : Nat) : IE := .leaf (40 + o + k)
/-- What an access leaves: words that turn (word, number, shift, mask). -/
abbrev Chg := List (Nat × IE × Nat × Nat)
noncomputable def storeC (a n : Nat) : Chg := [(a / 8, numE ofV n, 8 * (a % 8), maskN (a % 8) n)]
noncomputable def casC (a n : Nat) : Chg := [(a / 8, .leaf 4, 8 * (a % 8), maskN (a % 8) n)]
noncomputable def writeC (a n : Nat) : Chg := sel (Nat.ble (a % 8 + n) 8) [(a / 8, numE (ofB 0) n, 8 * (a % 8), maskN (a % 8) n)]
  [(a / 8, numE (ofB 0) (8 - a % 8), 8 * (a % 8), maskN (a % 8) (8 - a % 8)), (a / 8 + 1, numE (ofB (8 - a % 8)) (a % 8 + n - 8), 0, maskN 0 (a % 8 + n - 8))]
noncomputable def chgGet (l : Chg) (w : Nat) : V := List.rec (motive := fun _ => V) (wd w) (fun q _ ih => sel (Nat.beq q.1 w) (newW w q.2.1 q.2.2.1 q.2.2.2) ih) l
noncomputable def thWords (f : Nat → V) : List (Nat × V) := [(50, f 0), (51, f 1), (52, f 2), (53, f 3), (54, f 4), (55, f 5), (56, f 6), (57, f 7)]
noncomputable def toDid (f : Nat → V) (e a n : V) : SG := .run 0 did ([(29, e), (31, a), (32, n)] ++ thWords f)

noncomputable def cfgO : Cfg := { P := Try.prog, ext := extOf exts, hook := knowsV 4 [], facts := [] }
noncomputable def res : List ResultVar := Try.f3.results.toList
noncomputable def seg (g : SG) (l : List Code) (C : Canon) (fs : List Fact) : Bool := g.good cfgO res 60 94 l C.tm C.st fs
noncomputable def fit (C0 C1 : Canon) (th : List (Nat × V)) (F : List Fact) : Bool := fitsF F C1 th 94 C0.tm C0.st
noncomputable def turn1 : List Code := [loopBody body]
noncomputable def turn2 : List Code := [loopBody body2]
noncomputable def rest2 : List Code := loopRest body2
noncomputable def m0 : List Code := mid.take 1
noncomputable def m1 : List Code := (mid.drop 1).take 1
noncomputable def m2 : List Code := (mid.drop 1).drop 1
noncomputable def upTo (f : Nat → Bool) (n : Nat) : Bool := Nat.rec (motive := fun _ => Bool) true (fun k ih => band ih (f k)) n
/-- Ahead of the first loop; bytes that are a row lie there from the beginning. -/
noncomputable def rowSt0 (n : Nat) : St := { heap := hPut Path.zero (some { cells := ofList (rowB n) 0 (.c2 z2), lit := true, room := 0, esz := 1, ro := true }) noObjs, nid := ⟨.d0, .d0, .d0, .d0, .d1⟩, ncap := 1 }
noncomputable def thP : List (Nat × V) := [(20, vi 7 0), (21, vi 7 0), (22, vi 7 0), (23, vi 7 0), (24, vi 7 0), (25, vi 7 0), (26, vi 7 0), (27, vi 7 0), (28, vi 3 0)]
noncomputable def goP (n : Nat) : SG := .run 0 (head1 n 0 [] []) thP
noncomputable def treeP (n : Nat) : SG := .split .lss (.lit 64) (.len 7) (.fin 1) (sel (Nat.beq n 0) (.split .lss (.lit 100) (.len 8) (.fin 1) (goP 0)) (goP n))
noncomputable def segP (n : Nat) : Bool := (treeP n).good cfgO res 60 94 (preL body) (frame (args n) 0 noSlots) (sel (Nat.beq n 0) St.zero (rowSt0 n)) []
noncomputable def newI (i : Nat) : V := newW (i / 8) (numE (fun _ => .leaf 30) 1) (8 * (i % 8)) (maskN (i % 8) 1)
noncomputable def thPut (i : Nat) : List (Nat × V) := [(20 + i / 8, newI i), (28, vx 3 (.bin .add .i64 (.leaf 28) (.lit 1)))]
noncomputable def segR (n i : Nat) : Bool := band (fit (head1 n i [] []) (head1 n i [winI i] [givI i]) [(30, vdead)] []) (seg (.run 0 (head1 n (i + 1) [] []) (thPut i)) turn1 (head1 n i [winI i] [givI i]) (moreF i))
noncomputable def segX (n i : Nat) : Bool := seg (.run 2 (mid0 n) []) turn1 (head1 n i [] []) (lastF i)
noncomputable def segRX (n : Nat) : Bool := band (upTo (fun i => band (segR n i) (segX n i)) 64) (segX n 64)
noncomputable def segB (n : Nat) : Bool := seg (.run 0 (do0 n) (thBytes 100 20 64)) m0 (mid0 n) []
/-- An access that is refused, or that takes no bytes: nothing turns. -/
noncomputable def no (e : Int) : SG := toDid wd (vi 3 e) (vx 3 (.leaf 1)) (vx 3 (.leaf 2))
noncomputable def rng (g : SG) : SG := .split .lss (.leaf 1) (.lit 0) (no 2) (.split .lss (.lit 64) (.leaf 1) (no 2) (.split .lss (.bin .sub .i64 (.lit 64) (.leaf 1)) (.leaf 2) (no 2) g))
noncomputable def num48 : SG := .split .eql (.leaf 2) (.lit 4) (rng .dead) (.split .eql (.leaf 2) (.lit 8) (rng .dead) (no 1))
noncomputable def writeT (n : Nat) : SG := sel (Nat.beq n 0) (.split .eql (.leaf 2) (.len 8) (.split .lss (.lit 8) (.leaf 2) (no 1) (rng (.split .lss (.lit 0) (.len 8) .dead (no 0)))) (no 1)) (.split .eql (.leaf 2) (.lit (.ofNat n)) (rng .dead) (no 1))
noncomputable def treeD (n : Nat) : SG := .split .eql (.leaf 0) (.lit 1) num48 (.split .eql (.leaf 0) (.lit 2) num48 (.split .eql (.leaf 0) (.lit 4) num48 (.split .eql (.leaf 0) (.lit 3) (.split .eql (.leaf 2) (.lit 8) (rng .dead) (no 1))
  (.split .eql (.leaf 0) (.lit 5) (.split .lss (.leaf 2) (.lit 0) (no 1) (.split .lss (.lit 8) (.leaf 2) (no 1) (rng .dead))) (.split .eql (.leaf 0) (.lit 6) (writeT n) (no 1))))))
noncomputable def segD (n : Nat) : Bool := seg (treeD n) m1 (do0 n) []
/-- The access's bytes aren't looked at. -/
noncomputable def doS : Canon := doA (vx 3 (.leaf 0)) (vx 3 (.leaf 1)) (vx 3 (.leaf 2)) (vo 1000) []
noncomputable def eqs (k a n : Nat) : List Fact := [⟨.eql, .leaf 0, .lit (.ofNat k), true⟩, ⟨.eql, .leaf 1, .lit (.ofNat a), true⟩, ⟨.eql, .leaf 2, .lit (.ofNat n), true⟩]
noncomputable def segS (n : Nat) : Bool := fit (do0 n) doS [] []
noncomputable def same (e : Int) (a n : Nat) : SG := toDid wd (vi 3 e) (num a) (num n)
noncomputable def chg (l : Chg) (a n : Nat) : SG := toDid (chgGet l) (vi 3 0) (num a) (num n)
noncomputable def addC (a : Nat) (w : Nat) : V := sel (Nat.beq w (a / 8)) (vx 7 (.bin .add .u64 (.leaf (20 + w)) (.leaf 3))) (wd w)
noncomputable def doG (k a n : Nat) : SG :=
  sel (Nat.beq k 5) (same 0 a n) (sel (bnot (Nat.beq (a % n) 0)) (same 3 a n) (sel (Nat.beq k 1) (same 0 a n) (sel (Nat.beq k 2) (chg (storeC a n) a n) (sel (Nat.beq k 3) (toDid (addC a) (vi 3 0) (num a) (num n))
    (.split .eql (.shr (.bin .and .u64 (.leaf (20 + a / 8)) (.lit (.ofNat (maskN (a % 8) n)))) (8 * (a % 8))) (.bin .and .u64 (.leaf 3) (.lit (.ofNat (maskN 0 n)))) (chg (casC a n) a n) (same 0 a n))))))
/-- Bytes outside of the access's stand in no mask. -/
noncomputable def clear (l : Chg) (a n : Nat) : Bool := upTo (fun i => (Nat.ble a i && Nat.blt i (a + n)) || List.rec (motive := fun _ => Bool) true (fun q _ ih => band (bnot (Nat.beq q.1 (i / 8)) || Nat.beq (Nat.mod (Nat.div q.2.2.2 (Nat.pow 2 (8 * (i % 8)))) 256) 0) ih) l) 64
/-- Masks and shifts are of words. -/
noncomputable def small (l : Chg) : Bool := List.rec (motive := fun _ => Bool) true (fun q _ ih => band (band (Nat.blt q.2.2.2 18446744073709551616) (Nat.ble q.2.2.1 64)) ih) l
noncomputable def okC (l : Chg) (a n : Nat) : Bool := band (clear l a n) (small l)
noncomputable def chgOf (k a n : Nat) : Chg := sel (Nat.beq k 2) (storeC a n) (sel (Nat.beq k 4) (casC a n) [])
noncomputable def segN (k n a : Nat) : Bool := band (fit doS (doN k a n) [] (eqs k a n)) (band (seg (doG k a n) m1 (doN k a n) []) (okC (chgOf k a n) a n))
noncomputable def segK (k n : Nat) : Bool := upTo (segN k n) (65 - n)
noncomputable def segW1 (n a : Nat) : Bool := band (fit (do0 n) (doW a n) [] (eqs 6 a n)) (band (seg (chg (writeC a n) a n) m1 (doW a n) []) (okC (writeC a n) a n))
noncomputable def segW (n : Nat) : Bool := upTo (segW1 n) (65 - n)
noncomputable def segA : Bool := seg (.run 0 (head2 0) (thBytes 200 50 64)) m2 did []
noncomputable def tree2 (i : Nat) : SG := .split .eql (.leaf (200 + i)) (.leaf (100 + i)) (.run 0 (head2 (i + 1)) []) (.split .eql (.leaf 29) (.lit 0) (.split .lss (.lit (.ofNat i)) (.leaf 31) .dead (.split .lss (.lit (.ofNat i)) (.bin .add .i64 (.leaf 31) (.leaf 32)) (.run 0 (head2 (i + 1)) []) .dead)) .dead)
noncomputable def segH : Bool := upTo (fun i => seg (tree2 i) turn2 (head2 i) []) 64
noncomputable def segE : Bool := seg (.run 4 over2 []) turn2 (head2 64) []
noncomputable def segZ : Bool := seg (.fin 1) rest2 over2 []

end Go.Proofs.Ytlfahlalpgolcaa.membufOwn
