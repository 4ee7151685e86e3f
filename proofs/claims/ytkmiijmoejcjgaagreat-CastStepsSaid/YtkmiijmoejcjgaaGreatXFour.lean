/- The reckoner's cuts: states in other words, pieces of code, loops. -/
import Derived.Test.YtkmiijmoejcjgaaGreatXThree

/-
  Cuts: a state of the reckoner is told anew, in other words: what nobody needs is dropped, blocks are renamed, numbers become leaves.
-/
namespace Go.X
open Go.RowKit
set_option linter.unusedSimpArgs false
set_option linter.unusedVariables false

/-- A block that is kept. -/
structure CO where
  p : Path
  lit : Bool
  room : Nat
  esz : Nat
  ro : Bool
  cells : List V
  /-- a told row: which, of which kind, from where on, how long -/
  gs : Nat := 0
  gk : Nat := 0
  go : Nat := 0
  gn : IE := .lit 0

/-- What stands at place y of the slice that is leaf j. -/
structure Giv where
  p : Path
  j : Nat
  y : IE
  esz : Nat
  cells : List V

/-- A state in plain words. Leaves from 1000 on are what nobody looks at. -/
structure Canon where
  slots : List V
  objs : List CO
  giv : List Giv
  nid : Path
  ncap : Nat

noncomputable section

/-- A block's name, by number. -/
def pn (n : Nat) : Path := ⟨dig (Nat.shiftRight n 12), dig (Nat.shiftRight n 9), dig (Nat.shiftRight n 6), dig (Nat.shiftRight n 3), dig n⟩
/-- A slice that was handed in: leaf j, cells an element, how long, what stands at which places. -/
def vun (j esz : Nat) (x : IE) (l : List V) : V := ⟨20, j, esz, 0, 0, 0, Path.zero, [], x, l, []⟩
def vwin (p : Path) (y : IE) : V := ⟨22, 0, 0, 0, 0, 0, p, [], y, [], []⟩

def objOf (c : CO) : Obj := { cells := (cellsOf c.cells).getD (.c1 z1), lit := c.lit, room := c.room, esz := c.esz, ro := c.ro, gs := c.gs, gk := c.gk, go := c.go, gn := c.gn }
/-- A block that is a told row. -/
def cg (p : Path) (lit : Bool) (room : Nat) (ro : Bool) (cells : List V) (gs gk go : Nat) (gn : IE) : CO := { p, lit, room, esz := 1, ro, cells, gs, gk, go, gn }
/-- A block that is no told row. -/
def co (p : Path) (lit : Bool) (room esz : Nat) (ro : Bool) (cells : List V) : CO := { p, lit, room, esz, ro, cells }
def givOf (g : Giv) : Obj := { cells := (cellsOf g.cells).getD (.c1 z1), lit := true, room := 0, esz := g.esz, ro := true }

def heapC (l : List CO) (h : Heap) : Heap := List.rec (motive := fun _ => Heap) h (fun c _ ih => hPut c.p (some (objOf c)) ih) l
def heapG (l : List Giv) (h : Heap) : Heap := List.rec (motive := fun _ => Heap) h (fun g _ ih => hPut g.p (some (givOf g)) ih) l

def Canon.st (C : Canon) : St := { heap := heapG C.giv (heapC C.objs noObjs), nid := C.nid, ncap := C.ncap }
def Canon.tm (C : Canon) : Tm := frame C.slots 0 noSlots

/-- Which leaf becomes what; which block, which room is which. -/
structure Mt where
  th : List (Nat × V)
  phi : List (Path × Path)
  psi : List (Nat × Nat)
  giv : List Giv
  /-- what is known of the elder words' numbers -/
  facts : List Fact

def thGet (l : List (Nat × V)) (j : Nat) : Option V := List.rec (motive := fun _ => Option V) none (fun q _ ih => sel (Nat.beq q.1 j) (some q.2) ih) l
def phiGet (l : List (Path × Path)) (p : Path) : Option Path := List.rec (motive := fun _ => Option Path) none (fun q _ ih => sel (Path.beq q.1 p) (some q.2) ih) l
def psiGet (l : List (Nat × Nat)) (k : Nat) : Option Nat := List.rec (motive := fun _ => Option Nat) none (fun q _ ih => sel (Nat.beq q.1 k) (some q.2) ih) l

/-- A number that a leaf becomes. -/
def numOf (j : Nat) (v : V) : IE := sel (v.is 2) (.lit v.n) (sel (v.is 3) v.x (sel (v.is 17) (.leaf v.a) (sel (Nat.ble v.tag 1) (.lit 0) (.leaf j))))
def thNum (l : List (Nat × V)) (j : Nat) : IE := Option.rec (motive := fun _ => IE) (.leaf j) (numOf j) (thGet l j)

/-- A leaf that is new. -/
def thDead (l : List (Nat × V)) (j : Nat) : Bool := Option.rec (motive := fun _ => Bool) false (fun u => u.is 21) (thGet l j)

def isP (o : Option Path) (p : Path) : Bool := Option.rec (motive := fun _ => Bool) false (fun q => Path.beq q p) o
def isK (o : Option Nat) (k : Nat) : Bool := Option.rec (motive := fun _ => Bool) false (fun q => Nat.beq q k) o

def IE.mt (th : List (Nat × V)) : IE → IE → Bool
  | .lit n, y => (IE.lit n).beq y
  | .leaf j, y => sel (Nat.ble 4096 j) ((IE.leaf j).beq y) (band (Nat.blt j 1000) (band (bnot (thDead th j)) ((thNum th j).beq y)))
  | .len j, y => band (Nat.blt j 16) ((IE.len j).beq y)
  | .bin o k a b, .bin o' k' a' b' => (o == o') && (k == k') && IE.mt th a a' && IE.mt th b b'
  | .conv k a, .conv k' a' => (k == k') && IE.mt th a a'
  | .shl k a n, .shl k' a' n' => (k == k') && IE.mt th a a' && Nat.beq n n'
  | .shr a n, .shr a' n' => IE.mt th a a' && Nat.beq n n'
  | _, _ => false

/-- What stands at places is what is given. -/
def givGet (l : List Giv) (p : Path) : Option Giv := List.rec (motive := fun _ => Option Giv) none (fun g _ ih => sel (Path.beq g.p p) (some g) ih) l
def winIn (l : List Giv) (j esz : Nat) (u : V) : Bool := match givGet l u.id with
  | some g => Nat.beq g.j j && Nat.beq g.esz esz && g.y.beq u.x
  | none => false

mutual
def V.mt (m : Mt) : V → V → Bool
  | ⟨t, a, b, c, d, n, id, s, x, l, k⟩, v =>
    bif Nat.beq t 17 then Option.rec (motive := fun _ => Bool) (band (Nat.blt a 1000) (band (v.is 17) (Nat.beq v.a a))) (fun u => V.same u v) (thGet m.th a)
    else bif Nat.beq t 3 then Option.rec (motive := fun _ => Bool) false (fun y => IE.mt m.th x y) (v.num a)
    else bif Nat.beq t 4 || Nat.beq t 6 then v.is t && Nat.beq a v.a && Nat.beq b v.b && Nat.beq c v.c && isP (phiGet m.phi id) v.id
    else bif Nat.beq t 7 || Nat.beq t 9 then v.is t && Nat.beq a v.a && Nat.beq b v.b && isK (psiGet m.psi c) v.c && Nat.beq d v.d && isP (phiGet m.phi id) v.id
    else bif Nat.beq t 25 then v.is t && Nat.beq a v.a && isK (psiGet m.psi c) v.c && Nat.beq d v.d && isP (phiGet m.phi id) v.id && IE.mt m.th x v.x
    else bif Nat.beq t 12 then v.is t && Nat.beq a v.a && V.mts m l v.l && V.mts m k v.m
    else bif Nat.beq t 13 || Nat.beq t 15 || Nat.beq t 16 then v.is t && Nat.beq a v.a && V.mts m l v.l
    else bif Nat.beq t 18 then v.is 18 && Nat.beq a v.a && Nat.blt a 16
    else bif Nat.beq t 20 then v.is 20 && Nat.beq a v.a && Nat.blt a 16 && Nat.beq b v.b && IE.mt m.th x v.x && l.all (winIn m.giv a b)
    else bif Nat.beq t 19 || Nat.beq t 26 || Nat.beq t 27 then false
    else bif Nat.beq t 2 && v.is 3 then Nat.beq a v.a && (match v.x.known m.facts with | some z => eqF n z | none => false)
    else V.same ⟨t, a, b, c, d, n, id, s, x, l, k⟩ v
def V.mts (m : Mt) : List V → List V → Bool
  | [], [] => true
  | a :: l, a' :: l' => V.mt m a a' && V.mts m l l'
  | _, _ => false
end

/-! Code -/

def flat (c : Code) : List Code :=
  Code.rec (motive := fun _ => List Code) [.skip] (fun id ops d => [.region id ops d]) (fun _ _ a b => a ++ b) (fun c t e _ _ => [.cond c t e]) (fun id b _ => [.block id b]) (fun b _ => [.loop b])
    (fun f p a b _ _ => [.rangeFunc f p a b]) (fun id => [.exit id]) (fun b _ => [.scope b]) (fun l => [.label l]) (fun l => [.goto l]) [.ret] (fun w => [.refuse w]) c


def execs (c : Cfg) (call : CallF) (N : Nat) (l : List Code) : Go1 :=
  List.rec (motive := fun _ => Go1) (ends 0 0) (fun k _ ih => xSeq (exec c call N k 10000) ih) l


def isLoop (c : Code) : Bool := match c with | .block _ (.loop _) => true | _ => false
/-- What stands ahead of the first loop; it; what stands behind it. -/
def preL (l : List Code) : List Code := l.takeWhile fun c => !isLoop c
def fromL (l : List Code) : List Code := l.dropWhile fun c => !isLoop c
def hasLoop (l : List Code) : Bool := match fromL l with | .block _ (.loop _) :: _ => true | _ => false
def loopId (l : List Code) : Nat := match fromL l with | .block id (.loop _) :: _ => id | _ => 0
def loopBody (l : List Code) : Code := match fromL l with | .block _ (.loop b) :: _ => b | _ => .skip
def loopRest (l : List Code) : List Code := match fromL l with | .block _ (.loop _) :: r => r | _ => []
def bodyOf (P : Program) (f : FuncId) : List Code := match P.funcs[f]? with | some fn => (match fn.body with | some c => flat c | none => []) | none => []

/-! What the blocks are called: found, then looked at again. -/

mutual
/-- Leaves from 1000 on, and what they are. -/
def V.dead : V → V → List (Nat × V)
  | ⟨t, a, b, c, d, n, id, s, x, l, k⟩, v =>
    bif Nat.beq t 17 && Nat.ble 1000 a then [(a, v)] else bif Nat.beq t 15 || Nat.beq t 16 || Nat.beq t 12 || Nat.beq t 13 then V.deads l v.l ++ V.deads k v.m else []
def V.deads : List V → List V → List (Nat × V)
  | a :: l, a' :: l' => V.dead a a' ++ V.deads l l'
  | _, _ => []
end
mutual
def V.paths : V → V → List (Path × Path)
  | ⟨t, a, b, c, d, n, id, s, x, l, k⟩, v =>
    bif Nat.beq t 4 || Nat.beq t 6 || Nat.beq t 7 || Nat.beq t 9 || Nat.beq t 25 then [(id, v.id)] else bif Nat.beq t 12 || Nat.beq t 13 || Nat.beq t 15 || Nat.beq t 16 then V.pathss l v.l ++ V.pathss k v.m else []
def V.pathss : List V → List V → List (Path × Path)
  | a :: l, a' :: l' => V.paths a a' ++ V.pathss l l'
  | _, _ => []
end

mutual
/-- Rooms that aren't known. -/
def V.caps : V → V → List (Nat × Nat)
  | ⟨t, a, b, c, d, n, id, s, x, l, k⟩, v =>
    bif Nat.beq t 7 || Nat.beq t 9 || Nat.beq t 25 then [(c, v.c)] else bif Nat.beq t 12 || Nat.beq t 13 || Nat.beq t 15 || Nat.beq t 16 then V.capss l v.l ++ V.capss k v.m else []
def V.capss : List V → List V → List (Nat × Nat)
  | a :: l, a' :: l' => V.caps a a' ++ V.capss l l'
  | _, _ => []
end

/-- Those that are at the front of a list stay, others of the same name go. -/
def dedup (l : List (Path × Path)) : List (Path × Path) :=
  List.rec (motive := fun _ => List (Path × Path) → List (Path × Path)) (fun r => r) (fun q _ ih r => sel (phiGet r q.1).isSome (ih r) (ih (q :: r))) l []

def cellsAt (s : St) (p : Path) (n : Nat) : List V := ((hGet p s.heap).bnd fun o => loadCells o.cells 0 n).getD []

/-- One step further into the heap. -/
def morePaths (s : St) (objs : List CO) (phi : List (Path × Path)) : List (Path × Path) :=
  dedup (objs.flatMap (fun o => match phiGet phi o.p with | some q => V.pathss o.cells (cellsAt s q (llen o.cells)) | none => []) ++ phi)

def findPaths (s : St) (objs : List CO) : Nat → List (Path × Path) → List (Path × Path)
  | 0, phi => phi
  | n + 1, phi => findPaths s objs n (morePaths s objs phi)

def slotsOf (tm : Tm) (n k : Nat) : List V := Nat.rec (motive := fun _ => Nat → List V) (fun _ => []) (fun _ ih k => tmGet (path k) tm :: ih (Nat.succ k)) n k

def mkPsi (s : St) (objs : List CO) (phi : List (Path × Path)) : List (Nat × Nat) :=
  objs.filterMap fun o => bif o.lit then none else (phiGet phi o.p).bind fun q => (hGet q s.heap).bind fun o' => some (o.room, o'.room)

def mkMt (F : List Fact) (C : Canon) (th : List (Nat × V)) (tm : Tm) (s : St) : Mt :=
  let phi := findPaths s C.objs 5 (dedup (V.pathss C.slots (slotsOf tm (llen C.slots) 0)))
  { th := th ++ (V.deads C.slots (slotsOf tm (llen C.slots) 0) ++ C.objs.flatMap (fun o => match phiGet phi o.p with | some q => V.deads o.cells (cellsAt s q (llen o.cells)) | none => [])), phi, psi := mkPsi s C.objs phi ++ (V.capss C.slots (slotsOf tm (llen C.slots) 0) ++ C.objs.flatMap (fun o => match phiGet phi o.p with | some q => V.capss o.cells (cellsAt s q (llen o.cells)) | none => [])), giv := C.giv, facts := F }

/-! The check -/

def objMt (m : Mt) (s : St) (o : CO) : Bool :=
  match phiGet m.phi o.p with
  | some q => match hGet q s.heap with
    | some o' => (o.lit == o'.lit) && Nat.beq o.esz o'.esz && (o.ro == o'.ro) && (o.lit || isK (psiGet m.psi o.room) o'.room) && (Nat.beq o.gs 0 || (Nat.beq o.gs o'.gs && Nat.beq o.gk o'.gk && Nat.beq o.go o'.go && IE.mt m.th o.gn o'.gn)) && (match loadCells o'.cells 0 (llen o.cells) with | some l => V.mts m o.cells l | none => false)
    | none => false
  | none => false

def slotsMt (m : Mt) : List V → List V → Bool
  | [], [] => true
  | a :: l, b :: r => (a.is 21 || (bnot (b.is 21) && V.mt m a b)) && slotsMt m l r
  | _, _ => false

def notIn (l : List (Path × Path)) (p : Path) : Bool := l.all fun q => bnot (Path.beq q.2 p)
/-- No two have one image. -/
def oneEach : List (Path × Path) → Bool
  | [] => true
  | q :: r => notIn r q.2 && oneEach r
def thOk (q : Nat × V) : Bool := (Nat.ble 1000 q.1 && Nat.blt q.1 4096 && q.2.one) || (Nat.ble 16 q.1 && Nat.blt q.1 1000 && (Nat.ble q.2.tag 3 || q.2.is 21 || (q.2.is 17 && Nat.blt q.2.a 1000)))

def numB (p : Path) : Nat := Nat.add (Nat.mul (Nat.add (Nat.mul (Nat.add (Nat.mul (Nat.add (Nat.mul p.y4.code 8) p.y3.code) 8) p.y2.code) 8) p.y1.code) 8) p.y0.code

def fitsM (C : Canon) (N : Nat) (m : Mt) (tm : Tm) (s : St) : Bool :=
  Nat.beq (llen C.slots) N && Nat.ble N 512 && slotsMt m C.slots (slotsOf tm N 0) && C.objs.all (objMt m s) && oneEach m.phi && m.th.all thOk &&
    m.phi.all (fun q => Nat.blt (numB q.1) (numB C.nid)) && m.psi.all (fun q => Nat.blt q.1 C.ncap) &&
    C.giv.all (fun g => Nat.blt (numB g.p) (numB C.nid) && (phiGet m.phi g.p).isNone && Nat.blt g.j 16)

def fitsF (F : List Fact) (C : Canon) (th : List (Nat × V)) (N : Nat) (tm : Tm) (s : St) : Bool := fitsM C N (mkMt F C th tm s) tm s && (mkMt F C th tm s).th.all (fun q => Nat.ble 1000 q.1 || (thGet th q.1).isSome)
def fitsC (C : Canon) (th : List (Nat × V)) (N : Nat) (tm : Tm) (s : St) : Bool := fitsF [] C th N tm s

end

end Go.X

/-
  Cuts: the check is sound.
-/
namespace Go.X
open Go.RowKit
set_option linter.unusedSimpArgs false
set_option linter.unusedVariables false

variable {L L' : Nat → Value} {F : Nat → Prop} {w0 w : World} {e e' : Env} {s s' : St} {P : Program}

theorem thGet_mem : ∀ {l : List (Nat × V)} {j : Nat} {u : V}, thGet l j = some u → (j, u) ∈ l
  | [], _, _, h => by cases h
  | q :: l, j, u, h => by
    have h : sel (Nat.beq q.1 j) (some q.2) (thGet l j) = some u := h
    rw [sel_eq] at h
    split at h
    · rename_i hb
      cases h
      obtain rfl := beq_true.1 hb
      exact List.mem_cons_self
    · exact List.mem_cons_of_mem _ (thGet_mem h)
theorem thGet_append : ∀ (l m : List (Nat × V)) (j : Nat), thGet (l ++ m) j = match thGet l j with | some u => some u | none => thGet m j
  | [], m, j => rfl
  | q :: l, m, j => by
    show sel (Nat.beq q.1 j) (some q.2) (thGet (l ++ m) j) = match sel (Nat.beq q.1 j) (some q.2) (thGet l j) with | some u => some u | none => thGet m j
    rw [sel_eq, sel_eq]
    split
    · rfl
    · exact thGet_append l m j
theorem phiGet_mem : ∀ {l : List (Path × Path)} {p q : Path}, phiGet l p = some q → (p, q) ∈ l
  | [], _, _, h => by cases h
  | r :: l, p, q, h => by
    have h : sel (Path.beq r.1 p) (some r.2) (phiGet l p) = some q := h
    rw [sel_eq] at h
    split at h
    · rename_i hb
      cases h
      obtain rfl := Path.beq_eq hb
      exact List.mem_cons_self
    · exact List.mem_cons_of_mem _ (phiGet_mem h)
theorem psiGet_mem : ∀ {l : List (Nat × Nat)} {p q : Nat}, psiGet l p = some q → (p, q) ∈ l
  | [], _, _, h => by cases h
  | r :: l, p, q, h => by
    have h : sel (Nat.beq r.1 p) (some r.2) (psiGet l p) = some q := h
    rw [sel_eq] at h
    split at h
    · rename_i hb
      cases h
      obtain rfl := beq_true.1 hb
      exact List.mem_cons_self
    · exact List.mem_cons_of_mem _ (psiGet_mem h)
theorem givGet_mem : ∀ {l : List Giv} {p : Path} {g : Giv}, givGet l p = some g → g ∈ l ∧ g.p = p
  | [], _, _, h => by cases h
  | r :: l, p, q, h => by
    have h : sel (Path.beq r.p p) (some r) (givGet l p) = some q := h
    rw [sel_eq] at h
    split at h
    · rename_i hb
      cases h
      exact ⟨List.mem_cons_self, Path.beq_eq hb⟩
    · exact ⟨List.mem_cons_of_mem _ (givGet_mem h).1, (givGet_mem h).2⟩

theorem isP_eq {o : Option Path} {p : Path} (h : isP o p = true) : o = some p := by
  cases o with
  | none => cases h
  | some q => rw [Path.beq_eq (show Path.beq q p = true from h)]
theorem isK_eq {o : Option Nat} {k : Nat} (h : isK o k = true) : o = some k := by
  cases o with
  | none => cases h
  | some q => rw [beq_true.1 (show Nat.beq q k = true from h)]

/-- What the new words mean. -/
structure MtOk (L L' : Nat → Value) (e e' : Env) (m : Mt) : Prop where
  th : ∀ a u x, thGet m.th a = some u → iv L e u = some x → L' a = x
  thn : ∀ a, a < 1000 → thGet m.th a = none → L' a = L a
  told : ∀ j, 4096 ≤ j → L' j = L j
  num : ∀ j, j < 1000 → thDead m.th j = false → valInt (L' j) = (thNum m.th j).eval L
  low : ∀ j, j < 16 → L' j = L j
  phi : ∀ p q r, phiGet m.phi p = some q → e.blk q = some r → e'.blk p = some r
  psi : ∀ p q r, psiGet m.psi p = some q → e.cap q = some r → e'.cap p = some r
  facts : FactsOk L m.facts
  win : ∀ j esz u, winIn m.giv j esz u = true → ∃ b off n c, L j = .slice (some ⟨b, off, none⟩) n c ∧ winOk L' e' b off esz n u = true

theorem IE.mt_eval {m : Mt} (hm : MtOk L L' e e' m) : ∀ {x y : IE}, IE.mt m.th x y = true → x.eval L' = y.eval L := by
  intro x
  induction x with
  | lit n => intro y h; rw [← IE.beq_eq (show (IE.lit n).beq y = true by simpa [IE.mt] using h)]; rfl
  | leaf j =>
    intro y h
    have h : sel (Nat.ble 4096 j) ((IE.leaf j).beq y) (band (Nat.blt j 1000) (band (bnot (thDead m.th j)) ((thNum m.th j).beq y))) = true := by simpa [IE.mt] using h
    rw [sel_eq] at h
    split at h
    · rename_i hj
      rw [← IE.beq_eq h]
      show valInt (L' j) = valInt (L j)
      rw [hm.told j (ble_true.1 hj)]
    obtain ⟨h1, h2⟩ := band_true.1 h
    obtain ⟨h3, h2⟩ := band_true.1 h2
    rw [← IE.beq_eq h2, ← hm.num j (blt_true.1 h1) (bnot_true.1 h3)]
    rfl
  | len j =>
    intro y h
    have h : band (Nat.blt j 16) ((IE.len j).beq y) = true := by simpa [IE.mt] using h
    obtain ⟨h1, h2⟩ := band_true.1 h
    rw [← IE.beq_eq h2]
    show valLen (L' j) = valLen (L j)
    rw [hm.low j (blt_true.1 h1)]
  | bin o k a b iha ihb =>
    intro y h
    cases y with
    | bin o' k' a' b' =>
      simp only [IE.mt, Bool.and_eq_true, beq_iff_eq] at h
      obtain ⟨⟨⟨rfl, rfl⟩, h1⟩, h2⟩ := h
      simp only [IE.eval, iha h1, ihb h2]
    | _ => simp [IE.mt] at h
  | conv k a iha =>
    intro y h
    cases y with
    | conv k' a' =>
      simp only [IE.mt, Bool.and_eq_true, beq_iff_eq] at h
      obtain ⟨rfl, h1⟩ := h
      simp only [IE.eval, iha h1]
    | _ => simp [IE.mt] at h
  | shl k a n iha =>
    intro y h
    cases y with
    | shl k' a' n' =>
      simp only [IE.mt, Bool.and_eq_true, beq_iff_eq] at h
      obtain ⟨⟨rfl, h1⟩, h2⟩ := h
      obtain rfl := beq_true.1 h2
      simp only [IE.eval, iha h1]
    | _ => simp [IE.mt] at h
  | shr a n iha =>
    intro y h
    cases y with
    | shr a' n' =>
      simp only [IE.mt, Bool.and_eq_true] at h
      obtain ⟨h1, h2⟩ := h
      obtain rfl := beq_true.1 h2
      simp only [IE.eval, iha h1]
    | _ => simp [IE.mt] at h

mutual
theorem V.mt_sound {m : Mt} (hm : MtOk L L' e e' m) : ∀ (v v' : V) (x : Value), V.mt m v v' = true → iv L e v' = some x → iv L' e' v = some x
  | ⟨t, a, b, c, d, n, id, s, xx, l, k⟩, v', x, h, hx => by
    unfold V.mt at h
    simp only [cond_eq_ite, Bool.or_eq_true, beq_true] at h
    by_cases n17 : t = 17
    · rw [if_pos n17] at h
      subst n17
      rw [iv17 rfl]
      show some (L' a) = _
      cases hq : thGet m.th a with
      | some u =>
        rw [hq] at h
        have h := V.same_eq _ _ (show V.same u v' = true from h)
        subst h
        rw [hm.th a u x hq hx]
      | none =>
        rw [hq] at h
        obtain ⟨h1, h2⟩ := band_true.1 (show band (Nat.blt a 1000) (band (v'.is 17) (Nat.beq v'.a a)) = true from h)
        obtain ⟨h2, h3⟩ := band_true.1 h2
        rw [iv17 (V.is_true.1 h2), beq_true.1 h3] at hx
        rw [hm.thn a (blt_true.1 h1) hq]
        exact hx
    · rw [if_neg n17] at h
      by_cases n3 : t = 3
      · rw [if_pos n3] at h
        subst n3
        rw [iv3 rfl]
        cases hq : v'.num a with
        | none => rw [hq] at h; cases h
        | some y =>
          rw [hq] at h
          have h : IE.mt m.th xx y = true := h
          rw [num_iv hq] at hx
          rw [← hx]
          show some (Value.int (kindOf a) (xx.eval L')) = _
          rw [IE.mt_eval hm h]
      · rw [if_neg n3] at h
        split at h
        · rename_i ht
          simp only [Bool.and_eq_true] at h
          obtain ⟨⟨⟨⟨h1, h2⟩, h3⟩, h4⟩, h5⟩ := h
          have h1 := V.is_true.1 h1
          have h2 := beq_true.1 h2
          have h3 := beq_true.1 h3
          have h4 := beq_true.1 h4
          have h5 := isP_eq h5
          rcases ht with rfl | rfl
          · rw [iv4 h1, Option.bind_eq_some_iff] at hx
            obtain ⟨q, hq, hx⟩ := hx
            rw [iv4 rfl]
            show (e'.blk id).bind _ = _
            rw [hm.phi _ _ _ h5 hq, h2]
            exact hx
          · rw [iv6 h1, Option.bind_eq_some_iff] at hx
            obtain ⟨q, hq, hx⟩ := hx
            rw [iv6 rfl]
            show (e'.blk id).bind _ = _
            rw [hm.phi _ _ _ h5 hq, h2, h3, h4]
            exact hx
        · split at h
          · rename_i ht
            simp only [Bool.and_eq_true] at h
            obtain ⟨⟨⟨⟨⟨h1, h2⟩, h3⟩, h4⟩, h6⟩, h5⟩ := h
            have h1 := V.is_true.1 h1
            have h2 := beq_true.1 h2
            have h3 := beq_true.1 h3
            have h4 := isK_eq h4
            have h6 := beq_true.1 h6
            have h5 := isP_eq h5
            rcases ht with rfl | rfl
            · rw [iv7 h1, Option.bind_eq_some_iff] at hx
              obtain ⟨q, hq, hx⟩ := hx
              obtain ⟨z, hz, hx⟩ := Option.bind_eq_some_iff.1 hx
              rw [iv7 rfl]
              show (e'.blk id).bind (fun q => (e'.cap c).bind _) = _
              rw [hm.phi _ _ _ h5 hq]
              simp only [Option.bind_some]
              rw [hm.psi _ _ _ h4 hz, h2, h3, h6]
              exact hx
            · rw [iv9 h1, Option.bind_eq_some_iff] at hx
              obtain ⟨q, hq, hx⟩ := hx
              obtain ⟨z, hz, hx⟩ := Option.bind_eq_some_iff.1 hx
              rw [iv9 rfl]
              show (e'.blk id).bind (fun q => (e'.cap c).bind _) = _
              rw [hm.phi _ _ _ h5 hq]
              simp only [Option.bind_some]
              rw [hm.psi _ _ _ h4 hz, h2, h3, h6]
              exact hx
          · split at h
            · rename_i ht
              subst ht
              simp only [Bool.and_eq_true] at h
              obtain ⟨⟨⟨⟨⟨h1, h2⟩, h4⟩, h6⟩, h5⟩, h7⟩ := h
              have h1 := V.is_true.1 h1
              have h2 := beq_true.1 h2
              have h4 := isK_eq h4
              have h6 := beq_true.1 h6
              have h5 := isP_eq h5
              have h7 := IE.mt_eval hm h7
              obtain ⟨q, z, hq, hz, g0, g1, rfl⟩ := iv25_some h1 hx
              have := iv25_of (L := L') (e := e') (v := ⟨25, a, b, c, d, n, id, s, xx, l, k⟩) (q := q) (k := z) rfl (hm.phi _ _ _ h5 hq) (hm.psi _ _ _ h4 hz) (by show 0 ≤ xx.eval L'; rw [h7]; exact g0) (by show d + (xx.eval L').toNat ≤ z; rw [h7, h6]; exact g1)
              rw [this]
              show some (Value.slice (some ⟨q.1, q.2 + a, none⟩) (xx.eval L').toNat (z - d)) = _
              rw [h7, h2, h6]
            split at h
            · rename_i ht
              subst ht
              simp only [Bool.and_eq_true] at h
              obtain ⟨⟨⟨h1, h2⟩, h3⟩, h4⟩ := h
              have h2 := beq_true.1 h2
              rw [iv12 (V.is_true.1 h1), Option.bind_eq_some_iff] at hx
              obtain ⟨f, hf, hx⟩ := hx
              obtain ⟨g, hg, hx⟩ := Option.bind_eq_some_iff.1 hx
              cases hx
              rw [iv12 rfl]
              show (il L' e' l).bind (fun f => (il L' e' k).bind fun c => some (Value.func (.func a) f.toArray c.toArray)) = _
              rw [V.mts_sound hm l v'.l f h3 hf, V.mts_sound hm k v'.m g h4 hg, h2]
              rfl
            · split at h
              · rename_i ht
                simp only [Bool.and_eq_true] at h
                obtain ⟨⟨h1, h2⟩, h3⟩ := h
                have h1 := V.is_true.1 h1
                have h2 := beq_true.1 h2
                rcases ht with (rfl | rfl) | rfl
                · rw [iv13 h1, Option.bind_eq_some_iff] at hx
                  obtain ⟨f, hf, hx⟩ := hx
                  rw [iv13 rfl]
                  show (il L' e' l).bind _ = _
                  rw [V.mts_sound hm l v'.l f h3 hf, h2]
                  exact hx
                · rw [iv15 h1, Option.bind_eq_some_iff] at hx
                  obtain ⟨f, hf, hx⟩ := hx
                  rw [iv15 rfl]
                  show (il L' e' l).bind _ = _
                  rw [V.mts_sound hm l v'.l f h3 hf]
                  exact hx
                · rw [iv16 h1, Option.bind_eq_some_iff] at hx
                  obtain ⟨f, hf, hx⟩ := hx
                  rw [iv16 rfl]
                  show (il L' e' l).bind _ = _
                  rw [V.mts_sound hm l v'.l f h3 hf]
                  exact hx
              · split at h
                · rename_i ht
                  subst ht
                  simp only [Bool.and_eq_true] at h
                  obtain ⟨⟨h1, h2⟩, h3⟩ := h
                  have h2 := beq_true.1 h2
                  rw [iv18 (V.is_true.1 h1)] at hx
                  rw [iv18 rfl]
                  show (match L' a with | .slice p n c => some (Value.slice p n c) | _ => none) = _
                  rw [hm.low a (blt_true.1 h3), h2]
                  exact hx
                · split at h
                  · rename_i ht
                    subst ht
                    simp only [Bool.and_eq_true] at h
                    obtain ⟨⟨⟨⟨⟨h1, h2⟩, h3⟩, h4⟩, h5⟩, h6⟩ := h
                    have h1 := V.is_true.1 h1
                    have h2 := beq_true.1 h2
                    have h3 := blt_true.1 h3
                    have h4 := beq_true.1 h4
                    have h5 := IE.mt_eval hm h5
                    have h6 := List.all_eq_true.1 h6
                    rw [iv_S (by omega) (by omega) (by omega) (by omega)] at hx
                    rw [iv_S (show (20 : Nat) ≠ 12 by decide) (show (20 : Nat) ≠ 13 by decide) (show (20 : Nat) ≠ 15 by decide) (show (20 : Nat) ≠ 16 by decide)]
                    rcases ivS20_cases h1 hx with ⟨ad, n', c', hl, g0, g1, g2, hw, hsp, rfl⟩ | ⟨hl, g0, hnl, rfl⟩
                    · rw [← h5] at g0 g1 ⊢
                      refine ivS20_some (v := ⟨20, a, b, c, d, n, id, s, xx, l, k⟩) rfl (by rw [hm.low a h3, h2]; exact hl) g0 g1 g2 (fun u hu => ?_) ?_
                      · obtain ⟨b2, off2, n2, c2, k1, k2⟩ := hm.win a b u (h6 u hu)
                        rw [h2, hl] at k1
                        cases k1
                        exact k2
                      · cases l with
                        | nil => exact .inr rfl
                        | cons u r =>
                          obtain ⟨b2, off2, n2, c2, k1, k2⟩ := hm.win a b u (h6 u List.mem_cons_self)
                          rw [h2, hl] at k1
                          cases k1
                          exact .inl rfl
                    · refine ivS20_nil (v := ⟨20, a, b, c, d, n, id, s, xx, l, k⟩) rfl (by rw [hm.low a h3, h2]; exact hl) (by show xx.eval L' = 0; rw [h5]; exact g0) ?_
                      cases l with
                      | nil => rfl
                      | cons u r =>
                        obtain ⟨b2, off2, n2, c2, k1, k2⟩ := hm.win a b u (h6 u List.mem_cons_self)
                        rw [h2, hl] at k1
                        cases k1
                  · split at h
                    · cases h
                    split at h
                    · rename_i h23
                      simp only [Bool.and_eq_true, Go.X.beq_true, V.is_true] at h23 h
                      obtain ⟨ht2, hv3⟩ := h23
                      obtain ⟨ha, h⟩ := h
                      subst ht2
                      rw [iv3 hv3] at hx
                      cases hx
                      rw [iv2 rfl]
                      split at h
                      · rename_i z hz
                        rw [eqF_eq, beq_iff_eq] at h
                        show some (Value.int (kindOf a) n) = _
                        rw [h, ha, known_sound hm.facts hz]
                      · cases h
                    · rename_i n4 n7 n25 n12 n13 n18 n20 n19 n23
                      have h := V.same_eq _ _ h
                      subst h
                      have q12 : t ≠ 12 := n12
                      rw [iv_S n12 (fun hh => n13 (.inl (.inl hh))) (fun hh => n13 (.inl (.inr hh))) (fun hh => n13 (.inr hh))] at hx ⊢
                      simp only [ivS, show t ≠ 17 from n17, show t ≠ 3 from n3, show t ≠ 4 from fun hh => n4 (.inl hh), show t ≠ 6 from fun hh => n4 (.inr hh), show t ≠ 7 from fun hh => n7 (.inl hh), show t ≠ 9 from fun hh => n7 (.inr hh), show t ≠ 18 from n18, show t ≠ 20 from n20, show t ≠ 19 from fun hh => n19 (.inl (.inl hh)), show t ≠ 25 from n25, show t ≠ 26 from fun hh => n19 (.inl (.inr hh)), show t ≠ 27 from fun hh => n19 (.inr hh), if_false] at hx ⊢
                      exact hx
theorem V.mts_sound {m : Mt} (hm : MtOk L L' e e' m) : ∀ (l l' : List V) (q : List Value), V.mts m l l' = true → il L e l' = some q → il L' e' l = some q
  | [], [], q, _, h => by rw [il_nil] at h ⊢; exact h
  | [], _ :: _, _, h, _ => by unfold V.mts at h; cases h
  | _ :: _, [], _, h, _ => by unfold V.mts at h; cases h
  | v :: l, v' :: l', q, h, hx => by
    unfold V.mts at h
    simp only [Bool.and_eq_true] at h
    obtain ⟨x, y, h1, h2, rfl⟩ := il_cons.1 hx
    exact il_cons.2 ⟨x, y, V.mt_sound hm v v' x h.1 h1, V.mts_sound hm l l' y h.2 h2, rfl⟩
end

end Go.X

/-
  Cuts: a state in other words; pieces of code between two cuts; loops.
-/
namespace Go.X
open Go.RowKit
set_option linter.unusedSimpArgs false
set_option linter.unusedVariables false

variable {L L' : Nat → Value} {F : Nat → Prop} {w0 w : World} {e e' : Env} {s s' : St} {P : Program}

def noEnv : Env := ⟨fun _ => none, fun _ => none, 0⟩

/-- What the leaves are, in new words. -/
noncomputable def Lth (th : List (Nat × V)) (X L : Nat → Value) (j : Nat) : Value :=
  match thGet th j with
  | some u => if u.tag = 21 then X j else (ivS L noEnv u).getD (.bool false)
  | none => L j

/-- What is given stands there. -/
def GivOk (L1 : Nat → Value) (F : Nat → Prop) (w0 : World) (low : Nat) (g : Giv) : Prop :=
  ∃ b off n c cs t fr i, L1 g.j = .slice (some ⟨b, off, none⟩) n c ∧ F b ∧ b < low ∧ w0.heap[b]? = some (.cells cs t fr) ∧ i < n ∧
    (∀ L' : Nat → Value, (∀ j, j < 1000 ∨ 4096 ≤ j → L' j = L1 j) → g.y.eval L' = (i : Int)) ∧
    ∀ k v, g.cells[k]? = some v → ∃ x, cs[off + i * g.esz + k]? = some x ∧ ∀ (L' : Nat → Value) (e' : Env), (∀ j, j < 1000 ∨ 4096 ≤ j → L' j = L1 j) → iv L' e' v = some x

theorem ivS_free {u : V} (h : u.tag ≤ 3 ∨ u.tag = 17) : ivS L e u = ivS L noEnv u := by
  unfold ivS
  rcases h with h | h
  · have : u.tag = 0 ∨ u.tag = 1 ∨ u.tag = 2 ∨ u.tag = 3 := by omega
    rcases this with h | h | h | h <;> simp [h]
  · simp [h]

theorem slotsOf_get : ∀ (n k : Nat) (tm : Tm) (t : Nat), t < n → (slotsOf tm n k)[t]? = some (tmGet (path (k + t)) tm)
  | 0, _, _, _, h => absurd h (by omega)
  | n + 1, k, tm, 0, _ => rfl
  | n + 1, k, tm, t + 1, h => by
    show (tmGet (path k) tm :: slotsOf tm n (k + 1))[t + 1]? = _
    rw [List.getElem?_cons_succ, slotsOf_get n (k + 1) tm t (by omega), show k + 1 + t = k + (t + 1) by omega]
theorem slotsMt_get {m : Mt} : ∀ {l l' : List V} {k : Nat} {v v' : V}, slotsMt m l l' = true → l[k]? = some v → l'[k]? = some v' → v.tag = 21 ∨ (v'.tag ≠ 21 ∧ V.mt m v v' = true)
  | [], _, k, v, v', _, hv, _ => by simp at hv
  | _ :: _, [], _, _, _, h, _, _ => by unfold slotsMt at h; cases h
  | a :: l, a' :: l', k, v, v', h, hv, hv' => by
    unfold slotsMt at h
    simp only [Bool.and_eq_true, Bool.or_eq_true, bnot_true] at h
    cases k with
    | zero =>
      simp at hv hv'
      rw [← hv, ← hv']
      rcases h.1 with h1 | h1
      · exact .inl (V.is_true.1 h1)
      · refine .inr ⟨fun hc => ?_, h1.2⟩
        have h2 := h1.1
        rw [V.is_true.2 hc] at h2
        cases h2
    | succ k => simp at hv hv'; exact slotsMt_get h.2 hv hv'

theorem V.mts_get {m : Mt} : ∀ {l l' : List V} {k : Nat} {v : V}, V.mts m l l' = true → l[k]? = some v → ∃ v', l'[k]? = some v' ∧ V.mt m v v' = true
  | [], _, k, v, _, hv => by simp at hv
  | _ :: _, [], _, _, h, _ => by unfold V.mts at h; cases h
  | a :: l, a' :: l', k, v, h, hv => by
    unfold V.mts at h
    simp only [Bool.and_eq_true] at h
    cases k with
    | zero => simp at hv; subst hv; exact ⟨a', rfl, h.1⟩
    | succ k => simp at hv; simpa using V.mts_get h.2 hv

theorem cellsGet {l : List V} {k : Nat} {v : V} (h : ((cellsOf l).getD (.c1 z1)).get k = some v) : l[k]? = some v := by
  cases hc : cellsOf l with
  | some t => rw [hc] at h; rw [← cellsOf_get hc]; exact h
  | none =>
    rw [hc] at h
    have h : CT.get k (.c1 z1) = some v := h
    simp only [CT.get, z1, N8.get_all] at h
    cases hb : Nat.blt k 8 <;> rw [hb] at h <;> cases h

theorem heapC_get : ∀ {l : List CO} {h : Heap} {id : Path} {o : Obj}, hGet id (heapC l h) = some o → (∃ c ∈ l, c.p = id ∧ o = objOf c) ∨ hGet id h = some o
  | [], _, _, _, hg => .inr hg
  | c :: l, h, id, o, hg => by
    have hg : hGet id (hPut c.p (some (objOf c)) (heapC l h)) = some o := hg
    rw [hGet_put] at hg
    split at hg
    · rename_i hid
      cases hg
      exact .inl ⟨c, List.mem_cons_self, hid.symm, rfl⟩
    · rcases heapC_get hg with ⟨c', h1, h2⟩ | h1
      · exact .inl ⟨c', List.mem_cons_of_mem _ h1, h2⟩
      · exact .inr h1
theorem D.beq_self (d : D) : D.beq d d = true := by cases d <;> rfl
theorem Path.beq_self (p : Path) : Path.beq p p = true := by
  unfold Path.beq
  rw [D.beq_self, D.beq_self, D.beq_self, D.beq_self, D.beq_self]
  rfl
theorem heapG_get : ∀ {l : List Giv} {h : Heap} {id : Path} {o : Obj}, hGet id (heapG l h) = some o → (∃ g, givGet l id = some g ∧ o = givOf g) ∨ hGet id h = some o
  | [], _, _, _, hg => .inr hg
  | g :: l, h, id, o, hg => by
    have hg : hGet id (hPut g.p (some (givOf g)) (heapG l h)) = some o := hg
    rw [hGet_put] at hg
    split at hg
    · rename_i hid
      cases hg
      refine .inl ⟨g, ?_, rfl⟩
      show sel (Path.beq g.p id) (some g) (givGet l id) = some g
      rw [hid, Path.beq_self]
      rfl
    · rename_i hid
      rcases heapG_get hg with ⟨g', h1, h2⟩ | h1
      · refine .inl ⟨g', ?_, h2⟩
        show sel (Path.beq g.p id) (some g) (givGet l id) = some g'
        rw [sel_eq, if_neg (fun hb => hid (Path.beq_eq hb).symm)]
        exact h1
      · exact .inr h1

theorem notIn_mem {l : List (Path × Path)} {p : Path} (h : notIn l p = true) {a : Path} : (a, p) ∉ l := fun hm => by
  have := List.all_eq_true.1 h _ hm
  rw [bnot_true] at this
  rw [Path.beq_self] at this
  cases this
theorem oneEach_eq : ∀ {l : List (Path × Path)} {a b p : Path}, oneEach l = true → (a, p) ∈ l → (b, p) ∈ l → a = b
  | [], _, _, _, _, h, _ => by cases h
  | q :: l, a, b, p, h, ha, hb => by
    unfold oneEach at h
    simp only [Bool.and_eq_true] at h
    rcases List.mem_cons.1 ha with ha1 | ha1
    · rcases List.mem_cons.1 hb with hb1 | hb1
      · rw [← ha1] at hb1
        cases hb1; rfl
      · rw [← ha1] at h
        exact absurd hb1 (notIn_mem h.1)
    · rcases List.mem_cons.1 hb with hb1 | hb1
      · rw [← hb1] at h
        exact absurd ha1 (notIn_mem h.1)
      · exact oneEach_eq h.2 ha1 hb1

theorem numB_eq (p : Path) : numB p = p.num := rfl

/-- Where blocks lie, in new words. -/
noncomputable def envM (m : Mt) (L1 : Nat → Value) (e : Env) : Env where
  blk p := match phiGet m.phi p with
    | some q => e.blk q
    | none => match givGet m.giv p with
      | some g => (match L1 g.j with | .slice (some ⟨b, off, none⟩) n c => some (b, off + (g.y.eval L1).toNat * g.esz) | _ => none)
      | none => none
  cap k := match psiGet m.psi k with
    | some q => e.cap q
    | none => none
  low := e.low

/-- **A state in other words.** -/
theorem fitsF_sound {X : Nat → Value} (hX : Leafy X) (hL : Leafy L) {FF : List Fact} (hFF : FactsOk L FF) {C : Canon} {th : List (Nat × V)} {N : Nat} {tm : Tm} {a : Act} (h : fitsF FF C th N tm s = true) (ha : ARel L e tm N a) (hr : Rel L F w0 e s w) (hg : ∀ g ∈ C.giv, GivOk (Lth th X L) F w0 e.low g) :
    ∃ L' e', (∀ j, j < 1000 ∨ 4096 ≤ j → L' j = Lth th X L j) ∧ Leafy L' ∧ e'.low = e.low ∧ ARel L' e' C.tm N a ∧ Rel L' F w0 e' C.st w := by
  unfold fitsF at h
  simp only [Bool.and_eq_true] at h
  obtain ⟨h, hkeys⟩ := h
  obtain ⟨D, hD⟩ : ∃ D, (mkMt FF C th tm s).th = th ++ D := ⟨_, rfl⟩
  have hgiv : (mkMt FF C th tm s).giv = C.giv := rfl
  have hfac : (mkMt FF C th tm s).facts = FF := rfl
  generalize mkMt FF C th tm s = m at h hkeys hD hgiv hfac
  unfold fitsM at h
  simp only [Bool.and_eq_true] at h
  obtain ⟨⟨⟨⟨⟨⟨⟨⟨hN, h5⟩, hsl⟩, hob⟩, hone⟩, hth⟩, hphi⟩, hpsi⟩, hgv⟩ := h
  have hN := beq_true.1 hN
  rw [llen_eq] at hN
  have h5 := ble_true.1 h5
  have hob := List.all_eq_true.1 hob
  have hth := List.all_eq_true.1 hth
  have hphi := List.all_eq_true.1 hphi
  have hpsi := List.all_eq_true.1 hpsi
  have hgv := List.all_eq_true.1 hgv
  have hkeys := List.all_eq_true.1 hkeys
  let L1 : Nat → Value := fun j => match thGet m.th j with
    | some u => if u.tag = 21 then X j else (iv L e u).getD (.bool false)
    | none => if j < 1000 ∨ 4096 ≤ j then L j else .bool false
  have hLs : ∀ j u, thGet m.th j = some u → L1 j = if u.tag = 21 then X j else (iv L e u).getD (.bool false) := fun j u hq => by simp only [L1, hq]
  have hLn : ∀ j, thGet m.th j = none → L1 j = if j < 1000 ∨ 4096 ≤ j then L j else .bool false := fun j hq => by simp only [L1, hq]
  have hthk : ∀ j u, thGet m.th j = some u → ((1000 ≤ j ∧ j < 4096) ∧ u.one = true) ∨ (16 ≤ j ∧ j < 1000 ∧ (u.tag ≤ 3 ∨ u.tag = 21 ∨ (u.tag = 17 ∧ u.a < 1000))) := fun j u hq => by
    have hk := hth _ (thGet_mem hq)
    unfold thOk at hk
    simp only [Bool.or_eq_true, Bool.and_eq_true, ble_true, blt_true, V.is_true] at hk
    rcases hk with hk | hk
    · exact .inl hk
    · exact .inr ⟨hk.1.1, hk.1.2, or_assoc.1 hk.2⟩
  have hfree : ∀ j u, j < 1000 → thGet m.th j = some u → u.tag ≠ 21 → iv L e u = ivS L noEnv u ∧ (u.tag ≤ 3 ∨ (u.tag = 17 ∧ u.a < 1000)) := fun j u hj hq hn => by
    rcases hthk j u hq with hk | ⟨_, _, hk⟩
    · omega
    · have hk : u.tag ≤ 3 ∨ (u.tag = 17 ∧ u.a < 1000) := hk.imp_right fun hk => hk.resolve_left hn
      refine ⟨?_, hk⟩
      rw [iv_S (by omega) (by omega) (by omega) (by omega)]
      exact ivS_free (hk.imp_right (·.1))
  have hA : ∀ j, j < 1000 ∨ 4096 ≤ j → L1 j = Lth th X L j := fun j hj => by
    have happ : thGet m.th j = match thGet th j with | some u => some u | none => thGet D j := by rw [hD]; exact thGet_append th D j
    unfold Lth
    cases hq : thGet m.th j with
    | some u =>
      have hk := hkeys _ (thGet_mem hq)
      simp only [Bool.or_eq_true, ble_true] at hk
      have hj : j < 1000 := by
        rcases hthk j u hq with h1 | h1 <;> omega
      rcases hk with hk | hk
      · omega
      · obtain ⟨u', hu'⟩ := Option.isSome_iff_exists.1 hk
        rw [hu'] at happ ⊢
        rw [hq] at happ
        cases happ
        rw [hLs j u hq]
        show _ = if u.tag = 21 then X j else (ivS L noEnv u).getD (.bool false)
        split
        · rfl
        · rename_i hn
          rw [(hfree j u hj hq hn).1]
    | none =>
      rw [hLn j hq, if_pos hj]
      rw [hq] at happ
      cases ht : thGet th j with
      | some u => rw [ht] at happ; cases happ
      | none => rfl
  have hLeafy : Leafy L1 := fun j => by
    cases hq : thGet m.th j with
    | some u =>
      rw [hLs j u hq]
      split
      · exact hX j
      rename_i hn21
      cases hi : iv L e u with
      | none => rfl
      | some x =>
        show x.oneCell' = true
        rcases hthk j u hq with ⟨_, hk⟩ | ⟨_, _, hk⟩
        · unfold V.one at hk
          rw [sel_eq] at hk
          split at hk
          · cases hk
          · rename_i h15
            rw [bnot_true] at hk
            exact iv_one hL hi (fun hc => h15 (V.is_true.2 hc)) (fun hc => by rw [V.is_true.2 hc] at hk; cases hk)
        · have hk := hk.imp_right fun hk => hk.resolve_left hn21
          exact iv_one hL hi (by omega) (by omega)
    | none =>
      rw [hLn j hq]
      split
      · exact hL j
      · rfl
  have hlow : ∀ j, j < 16 → L1 j = L j := fun j hj => by
    cases hq : thGet m.th j with
    | some u => rcases hthk j u hq with hk | hk <;> omega
    | none => rw [hLn j hq, if_pos (by omega)]
  have hm : MtOk L L1 e (envM m (Lth th X L) e) m := by
    refine ⟨fun a u x hq hx => ?_, fun a ha hq => ?_, fun j hj => ?_, fun j hj hnd => ?_, hlow, fun p q r hq hb => ?_, fun p q r hq hb => ?_, by rw [hfac]; exact hFF, fun j esz u hw => ?_⟩
    · have hn : u.tag ≠ 21 := fun hc => by
        rw [iv_S (by omega) (by omega) (by omega) (by omega)] at hx
        unfold ivS at hx
        simp [hc] at hx
      rw [hLs a u hq, if_neg hn, hx]; rfl
    · rw [hLn a hq, if_pos (.inl ha)]
    · cases hq : thGet m.th j with
      | some u => rcases hthk j u hq with h1 | h1 <;> omega
      | none => rw [hLn j hq, if_pos (.inr hj)]
    · unfold thNum
      cases hq : thGet m.th j with
      | none =>
        rw [hLn j hq, if_pos (.inl hj)]
        rfl
      | some u =>
        have hn : u.tag ≠ 21 := fun hc => by
          unfold thDead at hnd
          rw [hq] at hnd
          have hnd : u.is 21 = false := hnd
          rw [V.is_true.2 hc] at hnd
          cases hnd
        obtain ⟨h1, h2⟩ := hfree j u hj hq hn
        rw [hLs j u hq, if_neg hn, h1]
        show valInt ((ivS L noEnv u).getD (.bool false)) = (numOf j u).eval L
        unfold numOf ivS
        have hcase : u.tag = 0 ∨ u.tag = 1 ∨ u.tag = 2 ∨ u.tag = 3 ∨ u.tag = 17 := by omega
        rcases hcase with h | h | h | h | h <;> simp [h, V.is, sel, IE.eval, valInt, Nat.beq, Nat.ble]
    · show (match phiGet m.phi p with | some q => e.blk q | none => _) = some r
      rw [hq]; exact hb
    · show (match psiGet m.psi p with | some q => e.cap q | none => none) = some r
      rw [hq]; exact hb
    · unfold winIn at hw
      split at hw
      · rename_i g hgg
        rw [hgiv] at hgg
        obtain ⟨hgm, hgp⟩ := givGet_mem hgg
        simp only [Bool.and_eq_true] at hw
        obtain ⟨⟨w1, w2⟩, w3⟩ := hw
        have w1 := beq_true.1 w1
        have w2 := beq_true.1 w2
        have w3 := IE.beq_eq w3
        have hk := hgv g hgm
        simp only [Bool.and_eq_true, blt_true, Option.isNone_iff_eq_none] at hk
        obtain ⟨⟨k1, k2⟩, k3⟩ := hk
        obtain ⟨b, off, n, c, cs, t, fr, i, g1, g2, g3, g4, g5, g6, g7⟩ := hg g hgm
        refine ⟨b, off, n, c, ?_, ?_⟩
        · rw [← w1, ← hlow _ k3, hA _ (by omega)]
          exact g1
        · have e1 : u.x.eval L1 = i := by rw [← w3]; exact g6 L1 hA
          refine winOk_of ?_ (by rw [e1]; omega) (by rw [e1]; omega)
          show (match phiGet m.phi u.id with | some q => e.blk q | none => match givGet m.giv u.id with | some g => _ | none => none) = _
          rw [← hgp, k2, hgp, hgiv, hgg]
          simp only [g1]
          rw [g6 (Lth th X L) (fun _ _ => rfl), e1, w2]
      · cases hw
  refine ⟨L1, envM m (Lth th X L) e, hA, hLeafy, rfl, ⟨ha.size, ha.calm, fun t ht => ?_⟩, ?_⟩
  · unfold Canon.tm
    rw [frame_get C.slots 0 noSlots t ht (by omega), noSlots_get]
    by_cases hlt : t < N
    · rw [if_pos (by omega)]
      obtain ⟨v, hv⟩ : ∃ v, C.slots[t]? = some v := ⟨C.slots[t], by simp [hN, hlt]⟩
      rw [Nat.sub_zero, hv, Option.getD_some]
      have hs := slotsOf_get N 0 tm t hlt
      rw [Nat.zero_add] at hs
      rcases slotsMt_get hsl hv hs with h1 | ⟨h1, h2⟩
      · exact .inl h1
      · exact .inr (V.mt_sound hm _ _ _ h2 ((ha.tmps t ht).resolve_left h1))
    · refine .inr ?_
      rw [if_neg (by omega), iv_undef, Array.getD_eq_getD_getElem?, Array.getElem?_eq_none (by rw [ha.size]; omega)]
      rfl
  · have hobj : ∀ id o, hGet id C.st.heap = some o → (∃ g, g ∈ C.giv ∧ givGet C.giv id = some g ∧ g.p = id ∧ o = givOf g ∧ phiGet m.phi id = none) ∨
        ∃ c q o', c ∈ C.objs ∧ c.p = id ∧ o = objOf c ∧ phiGet m.phi id = some q ∧ hGet q s.heap = some o' ∧ c.lit = o'.lit ∧ c.esz = o'.esz ∧ c.ro = o'.ro ∧ (c.lit = true ∨ psiGet m.psi c.room = some o'.room) ∧ (c.gs = 0 ∨ (c.gs = o'.gs ∧ c.gk = o'.gk ∧ c.go = o'.go ∧ IE.mt m.th c.gn o'.gn = true)) ∧
          ∃ l, loadCells o'.cells 0 c.cells.length = some l ∧ V.mts m c.cells l = true := by
      intro id o ho
      have ho : hGet id (heapG C.giv (heapC C.objs noObjs)) = some o := ho
      rcases heapG_get ho with ⟨g, h1, h2⟩ | ho
      · obtain ⟨hgm, hgp⟩ := givGet_mem h1
        have hk := hgv g hgm
        simp only [Bool.and_eq_true, Option.isNone_iff_eq_none] at hk
        exact .inl ⟨g, hgm, h1, hgp, h2, by rw [← hgp]; exact hk.1.2⟩
      · rcases heapC_get ho with ⟨c, h1, h2, h3⟩ | ho
        · have hk := hob c h1
          unfold objMt at hk
          split at hk
          · rename_i q hq
            split at hk
            · rename_i o' ho'
              simp only [Bool.and_eq_true, Bool.or_eq_true, beq_iff_eq] at hk
              obtain ⟨⟨⟨⟨⟨k1, k2⟩, k3⟩, k4⟩, k6⟩, k5⟩ := hk
              have k7 : c.gs = 0 ∨ (c.gs = o'.gs ∧ c.gk = o'.gk ∧ c.go = o'.go ∧ IE.mt m.th c.gn o'.gn = true) := k6.imp beq_true.1 fun hh => ⟨beq_true.1 hh.1.1.1, beq_true.1 hh.1.1.2, beq_true.1 hh.1.2, hh.2⟩
              split at k5
              · rename_i l hl
                rw [llen_eq] at hl
                exact .inr ⟨c, q, o', h1, h2, h3, by rw [← h2]; exact hq, ho', k1, beq_true.1 k2, k3, k4.imp_right isK_eq, k7, l, hl, k5⟩
              · cases k5
            · cases hk
          · cases hk
        · rw [hGet_none] at ho; cases ho
    refine ⟨hr.os, hr.tape, hr.output, hr.size, hr.old, hr.keep, fun id o ho => ?_, fun id id' o o' q q' ho ho' hne hro hb hb' => ?_, fun id hid => ?_, fun k hk => ?_, hr.low⟩
    · rcases hobj id o ho with ⟨g, hgm, hgg, hgp, rfl, hph⟩ | ⟨c, q, o', hc, hcp, rfl, hq, ho', k1, k2, k3, k4, k7, l, hl, hms⟩
      · obtain ⟨b, off, n, c, cs, t, fr, i, g1, g2, g3, g4, g5, g6, g7⟩ := hg g hgm
        refine ⟨b, off + i * g.esz, cs, t, fr, ?_, ?_, ⟨fun h => (by cases h), fun _ => g3⟩, fun h => (by cases h), ⟨fun h => (by cases h), fun h => absurd rfl h⟩, fun k v hv => ?_⟩
        · show (match phiGet m.phi id with | some q => e.blk q | none => match givGet m.giv id with | some g => _ | none => none) = _
          rw [hph, hgiv, hgg]
          simp only [g1]
          rw [g6 (Lth th X L) (fun _ _ => rfl), Int.toNat_natCast]
        · rw [hr.keep b g2]; exact g4
        · obtain ⟨x, hx, hxi⟩ := g7 k v (cellsGet hv)
          exact ⟨x, hx, hxi L1 _ hA⟩
      · obtain ⟨b, base, cs, t, fr, e1, e2, e3, e4, e5, e6⟩ := hr.objs q o' ho'
        refine ⟨b, base, cs, t, fr, hm.phi _ _ _ hq e1, e2, ⟨fun h => e3.1 (k3 ▸ h), fun h => e3.2 (k3 ▸ h)⟩, fun h => e4 (k3 ▸ h), ⟨fun h => ?_, fun h => ?_⟩, fun k v hv => ?_⟩
        rotate_left
        · have h : c.gs ≠ 0 := h
          obtain ⟨m1, m2, m3, m4⟩ := k7.resolve_left h
          obtain ⟨f0, f1, f2⟩ := e5.2 (by rw [← m1]; exact h)
          have m4 := IE.mt_eval hm m4
          refine ⟨by show 0 ≤ c.gn.eval L1; rw [m4]; exact f0, by show c.gn.eval L1 ≤ _; rw [m4]; exact f1, fun i hi => ?_⟩
          have hi : (i : Int) < c.gn.eval L1 := hi
          rw [m4] at hi
          show cs[base + i]? = some (.int (kindOf c.gk) (valInt (L1 (gl c.gs (c.go + i)))))
          have hgl : 4096 ≤ gl c.gs (c.go + i) := by
            show 4096 ≤ 4096 * c.gs + (c.go + i)
            omega
          rw [f2 i hi, hm.told _ hgl, m1, m2, m3]
        rotate_left
        · have h : c.lit = false := h
          obtain ⟨z, hz, hzs⟩ := e5.1 (k1 ▸ h)
          rcases k4 with k4 | k4
          · rw [k4] at h; cases h
          · refine ⟨z, hm.psi _ _ _ k4 hz, ?_⟩
            show base + z * c.esz ≤ cs.size
            rw [k2]; exact hzs
        · have hv := cellsGet (show ((cellsOf c.cells).getD (.c1 z1)).get k = some v from hv)
          obtain ⟨v', hv', hmt⟩ := V.mts_get hms hv
          obtain ⟨hlen, hlg⟩ := loadCells_get hl
          have hk : k < c.cells.length := (List.getElem?_eq_some_iff.1 hv).1
          obtain ⟨v2, hg2, hl2⟩ := hlg k hk
          rw [hl2] at hv'
          cases hv'
          rw [Nat.zero_add] at hg2
          obtain ⟨x, hx, hxi⟩ := e6 k _ hg2
          exact ⟨x, hx, V.mt_sound hm v _ x hmt hxi⟩
    · rcases hobj id o ho with ⟨g, _, _, _, rfl, _⟩ | ⟨c, p1, o1, hc, hcp, rfl, hq1, ho1, k1, k2, k3, _⟩
      · cases hro
      · obtain ⟨b, base, cs, t, fr, e1, e2, e3, _⟩ := hr.objs p1 o1 ho1
        have hbq : (envM m (Lth th X L) e).blk id = some (b, base) := hm.phi _ _ _ hq1 e1
        rw [hbq] at hb
        cases hb
        have hro1 : o1.ro = false := by rw [← k3]; exact hro
        rcases hobj id' o' ho' with ⟨g, hgm, hgg, hgp, rfl, hph⟩ | ⟨c', p2, o2, hc', hcp', rfl, hq2, ho2, _⟩
        · obtain ⟨b2, off, n, c2, cs2, t2, fr2, i, g1, g2, _⟩ := hg g hgm
          have : (envM m (Lth th X L) e).blk id' = some (b2, off + (g.y.eval (Lth th X L)).toNat * g.esz) := by
            show (match phiGet m.phi id' with | some q => e.blk q | none => match givGet m.giv id' with | some g => _ | none => none) = _
            rw [hph, hgiv, hgg]
            simp only [g1]
          rw [this] at hb'
          cases hb'
          exact fun hbb => e3.1 hro1 (by show F b; rw [show b = b2 from hbb]; exact g2)
        · obtain ⟨b2, base2, cs2, t2, fr2, f1, _⟩ := hr.objs p2 o2 ho2
          have hb2 : (envM m (Lth th X L) e).blk id' = some (b2, base2) := hm.phi _ _ _ hq2 f1
          rw [hb2] at hb'
          cases hb'
          have hp : p1 ≠ p2 := fun hp => hne (oneEach_eq hone (phiGet_mem hq1) (hp ▸ phiGet_mem hq2))
          exact hr.inj p1 p2 o1 o2 _ _ ho1 ho2 hp hro1 e1 f1
    · show (match phiGet m.phi id with | some q => e.blk q | none => match givGet m.giv id with | some g => _ | none => none) = none
      have hid : C.nid.num ≤ id.num := hid
      cases hq : phiGet m.phi id with
      | some q =>
        have := blt_true.1 (hphi _ (phiGet_mem hq))
        rw [numB_eq, numB_eq] at this
        exact absurd this (by show ¬ id.num < C.nid.num; omega)
      | none =>
        simp only
        cases hgg : givGet m.giv id with
        | some g =>
          rw [hgiv] at hgg
          obtain ⟨hgm, hgp⟩ := givGet_mem hgg
          have hk := hgv g hgm
          simp only [Bool.and_eq_true, blt_true, numB_eq] at hk
          rw [hgp] at hk
          exact absurd hk.1.1 (by omega)
        | none => rfl
    · show (match psiGet m.psi k with | some q => e.cap q | none => none) = none
      cases hq : psiGet m.psi k with
      | some q =>
        have := blt_true.1 (hpsi _ (psiGet_mem hq))
        have hk : C.ncap ≤ k := hk
        exact absurd this (by show ¬ k < C.ncap; omega)
      | none => rfl

theorem fits_sound {X : Nat → Value} (hX : Leafy X) (hL : Leafy L) {C : Canon} {th : List (Nat × V)} {N : Nat} {tm : Tm} {a : Act} (h : fitsC C th N tm s = true) (ha : ARel L e tm N a) (hr : Rel L F w0 e s w) (hg : ∀ g ∈ C.giv, GivOk (Lth th X L) F w0 e.low g) :
    ∃ L' e', (∀ j, j < 1000 ∨ 4096 ≤ j → L' j = Lth th X L j) ∧ Leafy L' ∧ e'.low = e.low ∧ ARel L' e' C.tm N a ∧ Rel L' F w0 e' C.st w := fitsF_sound hX hL (FF := []) (fun _ h => by cases h) h ha hr hg

end Go.X

/-
  Pieces of code between two cuts; loops by invariants.
-/
namespace Go.X
open Go.RowKit
set_option linter.unusedSimpArgs false
set_option linter.unusedVariables false

variable {L L' : Nat → Value} {F : Nat → Prop} {w0 w : World} {e e' : Env} {s s' : St} {P : Program}

/-- Codes in a row, and what comes behind them. -/
def wps (P : Program) (K : Act → World → Prop) (Q : Exit → Act → World → Prop) : List Code → Act → World → Prop
  | [] => K
  | c :: r => c.wp P (Exit.then (wps P K Q r) Q)

theorem then_mono {K K' : Act → World → Prop} {Q Q' : Exit → Act → World → Prop} (hK : ∀ a w, K a w → K' a w) (hQ : ∀ ex a w, ex ≠ .normal → Q ex a w → Q' ex a w) : ∀ ex a w, Exit.then K Q ex a w → Exit.then K' Q' ex a w := by
  intro ex a w h
  cases ex with
  | normal => exact hK a w h
  | exit id => exact hQ _ a w (by simp) h
  | goto l => exact hQ _ a w (by simp) h
  | ret => exact hQ _ a w (by simp) h
  | panic c => exact hQ _ a w (by simp) h
  | outgrown => exact hQ _ a w (by simp) h
theorem wps_mono {K K' : Act → World → Prop} {Q Q' : Exit → Act → World → Prop} (hK : ∀ a w, K a w → K' a w) (hQ : ∀ ex a w, ex ≠ .normal → Q ex a w → Q' ex a w) : ∀ (l : List Code) (a : Act) (w : World), wps P K Q l a w → wps P K' Q' l a w
  | [], a, w, h => hK a w h
  | c :: r, a, w, h => wp_mono h (then_mono (wps_mono hK hQ r) hQ)
theorem wps_append {K : Act → World → Prop} {Q : Exit → Act → World → Prop} : ∀ (l m : List Code), wps P K Q (l ++ m) = wps P (wps P K Q m) Q l
  | [], m => rfl
  | c :: l, m => by
    show c.wp P (Exit.then (wps P K Q (l ++ m)) Q) = c.wp P (Exit.then (wps P (wps P K Q m) Q l) Q)
    rw [wps_append l m]

theorem wp_flat : ∀ (c : Code) (Q : Exit → Act → World → Prop) (a : Act) (w : World), wps P (Q .normal) Q (flat c) a w → c.wp P Q a w := by
  have one : ∀ (c : Code) (Q : Exit → Act → World → Prop) (a : Act) (w : World), wps P (Q .normal) Q [c] a w → c.wp P Q a w := fun c Q a w h => wp_mono h fun ex a w h => by cases ex <;> exact h
  intro c
  induction c with
  | seq x y hx hy =>
    intro Q a w h
    have h : wps P (Q .normal) Q (flat x ++ flat y) a w := h
    rw [wps_append] at h
    refine wp_seq (hx _ a w (wps_mono (fun a w h => hy Q a w h) (fun ex a w hne h => ?_) _ a w h))
    cases ex <;> first | exact absurd rfl hne | exact h
  | _ => exact one _

/-- How pieces end. -/
inductive SG where
  | run (ex : Nat) (C : Canon) (th : List (Nat × V))
  | fin (ex : Nat)
  | dead
  | split (op : BinOp) (a b : IE) (t e : SG)

noncomputable section

def runGood (ex : Nat) (C : Canon) (th : List (Nat × V)) (N : Nat) (r : Option (Ex × Tm × St)) : Bool := Option.rec (motive := fun _ => Bool) false (fun r => band (Nat.beq r.1 ex) (fitsC C th N r.2.1 r.2.2)) r
def finGood (ex : Nat) (P : Program) (res : List ResultVar) (r : Option (Ex × Tm × St)) : Bool :=
  Option.rec (motive := fun _ => Bool) false (fun r => band (Nat.beq r.1 ex) (Option.rec (motive := fun _ => Bool) false (fun l => (result1 l).is 1) (resultsOf P r.2.1 r.2.2 res))) r

def SG.good (c : Cfg) (res : List ResultVar) (n N : Nat) (l : List Code) (tm : Tm) (s : St) (g : SG) : List Fact → Bool :=
  SG.rec (motive := fun _ => List Fact → Bool)
    (fun ex C th fs => runGood ex C th N (execs (c.under fs) (callFn (c.under fs) n) N l tm s))
    (fun ex fs => finGood ex c.P res (execs (c.under fs) (callFn (c.under fs) n) N l tm s))
    (fun _ => true)
    (fun op a b _ _ t e fs => band (cmpB op).isSome (band (t (⟨op, a, b, true⟩ :: fs)) (e (⟨op, a, b, false⟩ :: fs)))) g

end

/-- What is to be shown of each end. -/
def SG.Holds (X L : Nat → Value) (F : Nat → Prop) (w0 : World) (low : Nat) (P : Program) (fn : Func) (N : Nat) (Q : Exit → Act → World → Prop) : SG → List Fact → Prop
  | .run ex C th, fs => FactsOk L fs → (∀ g ∈ C.giv, GivOk (Lth th X L) F w0 low g) ∧
      ∀ L' e' a' w', (∀ j, j < 1000 ∨ 4096 ≤ j → L' j = Lth th X L j) → Leafy L' → e'.low = low → ARel L' e' C.tm N a' → Rel L' F w0 e' C.st w' → Q (exOf ex) a' w'
  | .fin ex, fs => FactsOk L fs → ∀ a' w' e' s', a'.defers = [] → (results fn a'.tmps).run P w' = .ok (.bool true) w' → Rel L F w0 e' s' w' → Q (exOf ex) a' w'
  | .dead, fs => ¬ FactsOk L fs
  | .split op a b t e, fs => t.Holds X L F w0 low P fn N Q (⟨op, a, b, true⟩ :: fs) ∧ e.Holds X L F w0 low P fn N Q (⟨op, a, b, false⟩ :: fs)

theorem execs_sound (hL : Leafy L) {c : Cfg} (hfol : c.P.follows .mixedOrders = true) (hF : FactsOk L c.facts) (hE : ExtOk c) (hH : HookOk L c) (n N : Nat) {K : Act → World → Prop} {Q : Exit → Act → World → Prop} :
    ∀ (l : List Code) (tm : Tm) (s : St) (r : Ex × Tm × St) (e : Env) (a : Act) (w : World), execs c (callFn c n) N l tm s = some r → ARel L e tm N a → Rel L F w0 e s w →
    (∀ e' a' w', Ext e e' s r.2.2 → ARel L e' r.2.1 N a' → Rel L F w0 e' r.2.2 w' → Exit.then K Q (exOf r.1) a' w') → wps c.P K Q l a w
  | [], tm, s, r, e, a, w, h, ha, hr, hQ => by
    have h : some ((0, tm, s) : Ex × Tm × St) = some r := h
    cases h
    exact hQ e a w (Ext.refl _ _) ha hr
  | k :: l, tm, s, r, e, a, w, h, ha, hr, hQ => by
    obtain ⟨q, hq, h⟩ := bnd_some.1 (show (exec c (callFn c n) N k 10000 tm s).bnd (fun q => sel (Nat.beq q.1 0) (execs c (callFn c n) N l q.2.1 q.2.2) (some q)) = some r from h)
    refine exec_good hL hF hE (draw_ok hL hF hE hfol) (callFn_knows hL hF hE (fun F w0 => draw_ok hL hF hE hfol) hH n) N k 10000 tm s q e a w _ hq ha hr fun e' a' w' he ha' hr' => ?_
    rw [sel_eq] at h
    split at h
    · rename_i h0
      rw [beq_true.1 h0]
      exact execs_sound hL hfol hF hE hH n N l _ _ r e' a' w' h ha' hr' fun e'' a'' w'' he' => hQ e'' a'' w'' (he.trans he')
    · rename_i h0
      cases h
      have hne : r.1 ≠ 0 := fun hc => h0 (beq_true.2 hc)
      have := hQ e' a' w' he ha' hr'
      match hq1 : r.1, hne with
      | 1, _ => rw [hq1] at this; exact this
      | n + 2, _ => rw [hq1] at this; exact this

/-- **A piece of code**, reckoned by the kernel in all cases. -/
theorem SG.sound {X : Nat → Value} (hX : Leafy X) (hL : Leafy L) {c : Cfg} (hfol : c.P.follows .mixedOrders = true) (hE : ExtOk c) (hH : HookOk L c) {fn : Func} {n N : Nat} {l : List Code} {tm : Tm} {a : Act} {K : Act → World → Prop} {Q : Exit → Act → World → Prop}
    (ha : ARel L e tm N a) (hr : Rel L F w0 e s w) : ∀ (g : SG) (fs : List Fact), g.good c fn.results.toList n N l tm s fs = true → FactsOk L fs → g.Holds X L F w0 e.low c.P fn N (Exit.then K Q) fs → wps c.P K Q l a w
  | .run ex C th, fs, h, hF, hq => by
    have h : runGood ex C th N (execs (c.under fs) (callFn (c.under fs) n) N l tm s) = true := h
    cases hx : execs (c.under fs) (callFn (c.under fs) n) N l tm s with
    | none => rw [hx] at h; cases h
    | some r =>
      rw [hx] at h
      obtain ⟨h1, h2⟩ := band_true.1 (show band (Nat.beq r.1 ex) (fitsC C th N r.2.1 r.2.2) = true from h)
      obtain rfl := beq_true.1 h1
      obtain ⟨hg, hq⟩ := hq hF
      refine execs_sound (c := c.under fs) hL hfol hF hE hH n N l tm s r e a w hx ha hr fun e' a' w' he ha' hr' => ?_
      have hlow : e'.low = e.low := he.le.low
      obtain ⟨L', e2, k1, k2, k3, k4, k5⟩ := fits_sound hX hL h2 ha' hr' (by rw [hlow]; exact hg)
      exact hq L' e2 a' w' k1 k2 (k3.trans hlow) k4 k5
  | .fin ex, fs, h, hF, hq => by
    have h : finGood ex c.P fn.results.toList (execs (c.under fs) (callFn (c.under fs) n) N l tm s) = true := h
    cases hx : execs (c.under fs) (callFn (c.under fs) n) N l tm s with
    | none => rw [hx] at h; cases h
    | some r =>
      rw [hx] at h
      obtain ⟨h1, h2⟩ := band_true.1 (show band (Nat.beq r.1 ex) (Option.rec (motive := fun _ => Bool) false (fun l => (result1 l).is 1) (resultsOf c.P r.2.1 r.2.2 fn.results.toList)) = true from h)
      obtain rfl := beq_true.1 h1
      cases hv : resultsOf c.P r.2.1 r.2.2 fn.results.toList with
      | none => rw [hv] at h2; cases h2
      | some vs =>
        rw [hv] at h2
        have h2 : (result1 vs).is 1 = true := h2
        refine execs_sound (c := c.under fs) hL hfol hF hE hH n N l tm s r e a w hx ha hr fun e' a' w' he ha' hr' => ?_
        obtain ⟨x, hxi, hrun⟩ := results_sound (P := c.P) hr' ha' hv
        rw [iv1 (V.is_true.1 h2)] at hxi
        cases hxi
        exact hq hF a' w' e' r.2.2 ha'.calm hrun hr'
  | .dead, fs, _, hF, hq => absurd hF hq
  | .split op a' b t e2, fs, h, hF, hq => by
    obtain ⟨hs, h⟩ := band_true.1 (show band (cmpB op).isSome (band (t.good c fn.results.toList n N l tm s (⟨op, a', b, true⟩ :: fs)) (e2.good c fn.results.toList n N l tm s (⟨op, a', b, false⟩ :: fs))) = true from h)
    obtain ⟨ht, he⟩ := band_true.1 h
    obtain ⟨g, hg⟩ := Option.isSome_iff_exists.1 hs
    cases hr1 : g (a'.eval L) (b.eval L) with
    | true => exact SG.sound hX hL hfol hE hH ha hr t _ ht (factsOk_cons ⟨g, hg, hr1⟩ hF) hq.1
    | false => exact SG.sound hX hL hfol hE hH ha hr e2 _ he (factsOk_cons ⟨g, hg, hr1⟩ hF) hq.2

theorem takeDrop {l : List Code} (h : hasLoop l = true) : l = preL l ++ .block (loopId l) (.loop (loopBody l)) :: loopRest l := by
  have hl : preL l ++ fromL l = l := List.takeWhile_append_dropWhile
  unfold hasLoop at h
  unfold loopId loopBody loopRest
  generalize fromL l = m at h hl ⊢
  split at h
  · exact hl.symm
  · cases h

/-- Where a loop is left. -/
def atExit (id : Nat) (K : Act → World → Prop) (Q : Exit → Act → World → Prop) : Exit → Act → World → Prop
  | .exit n, a, w => if n = id then K a w else Q (.exit n) a w
  | ex, a, w => Q ex a w

/-- **A loop**, by an invariant that tells how many rounds there are still. -/
theorem wps_loop {id : Nat} {b : Code} {r : List Code} {K : Act → World → Prop} {Q : Exit → Act → World → Prop} {a : Act} {w : World} (I : Nat → Act → World → Prop) {n : Nat} (h0 : I n a w)
    (round : ∀ n a w, I n a w → wps P (fun a' w' => ∃ m, m < n ∧ I m a' w') (atExit id (wps P K Q r) Q) [b] a w) : wps P K Q (.block id (.loop b) :: r) a w := by
  refine wp_block (wp_loop_rec I h0 fun n a w hI => wp_mono (round n a w hI) fun ex a' w' h => ?_)
  cases ex with
  | normal => exact h
  | exit k =>
    have h : (if k = id then wps P K Q r a' w' else Q (.exit k) a' w') := h
    show (if k = id then _ else _)
    split at h
    · rename_i hk
      rw [if_pos hk]
      exact h
    · rename_i hk
      rw [if_neg hk]
      exact h
  | _ => exact h

end Go.X

/-
  Functions that are known to answer something; a statement's own code, cut at its loops.
-/
namespace Go.X
open Go.RowKit
set_option linter.unusedSimpArgs false
set_option linter.unusedVariables false

variable {L L' : Nat → Value} {F : Nat → Prop} {w0 w : World} {e e' : Env} {s s' : St} {P : Program}

/-- A call that is known: the function, its arguments (kinds, numbers), what it answers. -/
structure KnownV where
  f : Nat
  args : List (Nat × IE)
  r : V

noncomputable section
def knownInV (l : List KnownV) (f : FuncId) (args : List V) (s : St) : Option (V × St) :=
  List.rec (motive := fun _ => Option (V × St)) none (fun k _ ih => sel (band (Nat.beq f k.f) (argsAre args k.args)) (some (k.r, s)) ih) l
/-- One function that answers true, and some that are known. -/
def knowsV (g : Nat) (l : List KnownV) (f : FuncId) (args : List V) (s : St) : Option (V × St) := sel (band (Nat.beq f g) (Nat.beq (llen args) 0)) (some (V.T, s)) (knownInV l f args s)
end

/-- What a known call does. -/
structure KnownV.Ok (L : Nat → Value) (P : Program) (k : KnownV) : Prop where
  enter : enterTest P k.f = true
  does : ∃ x, (∀ e, iv L e k.r = some x) ∧ ∀ w, Calls P k.f (k.args.map fun q => Value.int (kindOf q.1) (q.2.eval L)).toArray w fun en w' => en = .returned x ∧ Below w.heap.size w w'

theorem hookOk_V {c : Cfg} {g : Nat} {l : List KnownV} (hc : c.hook = knowsV g l) (ht : enterTest c.P g = true) (hg : ∀ w, Calls c.P g #[] w fun en w' => en = .returned (.bool true) ∧ Below w.heap.size w w') (hl : ∀ k ∈ l, k.Ok L c.P) : HookOk L c := by
  intro F w0 f args s v s' xs e w h hx hr
  rw [hc] at h
  unfold knowsV at h
  rw [sel_eq] at h
  split at h
  · rename_i hb
    have h0 : (knows g f args s) = some (v, s') := by unfold knows; rw [sel_eq, if_pos hb]; exact h
    exact hookOk_of (L := L) (c := { P := c.P, ext := c.ext, hook := knows g, facts := c.facts }) rfl ht hg F w0 f args s v s' xs e w h0 hx hr
  · clear hc
    induction l with
    | nil => cases h
    | cons k r ih =>
      have h : sel (band (Nat.beq f k.f) (argsAre args k.args)) (some (k.r, s)) (knownInV r f args s) = some (v, s') := h
      rw [sel_eq] at h
      split at h
      · rename_i hb
        cases h
        obtain ⟨h1, h2⟩ := band_true.1 hb
        obtain rfl := beq_true.1 h1
        rw [argsAre_il h2 hx]
        obtain ⟨k1, x, k3, k2⟩ := hl k List.mem_cons_self
        refine ⟨enter_run k1 _ _, fun R hR => (k2 w).mono fun en w' ⟨hen, hb⟩ => ?_⟩
        subst hen
        exact hR e x w' (Ext.refl _ _) (k3 e) (hr.grew hb)
      · exact ih (fun k hk => hl k (List.mem_cons_of_mem _ hk)) h

theorem Lth_low {th : List (Nat × V)} {X : Nat → Value} (h : th.all (fun q => Nat.ble 16 q.1) = true) {j : Nat} (hj : j < 16) : Lth th X L j = L j := by
  unfold Lth
  cases hq : thGet th j with
  | none => rfl
  | some u =>
    have := List.all_eq_true.1 h _ (thGet_mem hq)
    have := ble_true.1 this
    omega

/-- At the beginning nothing is there. -/
def env0 (w : World) : Env := ⟨fun _ => none, fun _ => none, w.heap.size⟩
theorem Rel.start0 (L : Nat → Value) (w : World) : Rel L (fun b => b < w.heap.size) w (env0 w) St.zero w :=
  ⟨rfl, rfl, rfl, Nat.le_refl _, fun _ h => h, fun _ _ => rfl, fun id o h => (by have h : hGet id noObjs = some o := h; rw [hGet_none] at h; cases h),
    fun id id' o o' q q' h => (by have h : hGet id noObjs = some o := h; rw [hGet_none] at h; cases h), fun _ _ => rfl, fun _ _ => rfl, Nat.le_refl _⟩

/-- What a statement's code must come to. -/
def lawPost (P : Program) (fn : Func) (w : World) : Exit → Act → World → Prop := bodyPost P fn fun en w' => en = .returned (.bool true) ∧ Below w.heap.size w w'

/-- **A statement**, by its own code. -/
theorem law_calls {f : FuncId} {fn : Func} {k : Code} (hfn : P.funcs[f]? = some fn) (hk : fn.body = some k) {l : List V} {xs : List Value} {w : World} (hl : il L (env0 w) l = some xs) (hN : l.length ≤ fn.ntmps) (h5 : l.length ≤ 512)
    (h : ∀ a, ARel L (env0 w) (frame l 0 noSlots) fn.ntmps a → wps P (lawPost P fn w .normal) (lawPost P fn w) (flat k) a w) :
    Calls P f xs.toArray w fun en w' => en = .returned (.bool true) ∧ Below w.heap.size w w' :=
  calls_of_wp hfn hk (wp_flat _ _ _ _ (h _ (frame_rel hl hN h5)))

theorem law_of {f : FuncId} {fn : Func} {N : Nat} (hfn : P.funcs[f]? = some fn) (hb : fn.body.isSome = true) {l : List V} {xs : List Value} {w : World} (hl : il L (env0 w) l = some xs) (hn : fn.ntmps = N) (hN : l.length ≤ N) (h5 : l.length ≤ 512)
    (h : ∀ a, ARel L (env0 w) (frame l 0 noSlots) N a → wps P (lawPost P fn w .normal) (lawPost P fn w) (bodyOf P f) a w) :
    Calls P f xs.toArray w fun en w' => en = .returned (.bool true) ∧ Below w.heap.size w w' := by
  subst hn
  obtain ⟨k, hk⟩ := Option.isSome_iff_exists.1 hb
  have hbk : bodyOf P f = flat k := by unfold bodyOf; rw [hfn]; simp only [hk]
  rw [hbk] at h
  exact law_calls hfn hk hl hN h5 h

theorem post_fin {fn : Func} {w : World} {K : Act → World → Prop} {a' : Act} {w' : World} {e' : Env} {s' : St} (hd : a'.defers = []) (hrun : (results fn a'.tmps).run P w' = .ok (.bool true) w') (hr : Rel L (fun b => b < w.heap.size) w e' s' w') :
    Exit.then K (lawPost P fn w) .ret a' w' := ⟨hd, .bool true, hrun, rfl, hr.below⟩

/-- Answers in a row, three cells each. -/
def Told (w : World) (p : Option Addr) (len cap : Nat) (g : Nat → Nat → Value) : Prop :=
  (p = none ∧ len = 0 ∧ cap = 0) ∨ (∃ a, p = some a ∧ len = 0 ∧ len ≤ cap) ∨ ∃ b off cs t fr, p = some ⟨b, off, none⟩ ∧ len ≤ cap ∧ w.heap[b]? = some (.cells cs t fr) ∧ ∀ k j, k < len → j < 3 → cs[off + k * 3 + j]? = some (g k j)

end Go.X

/-
  Rows of answers that were told: what stands at their places, in new leaves.
-/
namespace Go.X
open Go.RowKit
set_option linter.unusedSimpArgs false
set_option linter.unusedVariables false

variable {L L' : Nat → Value} {F : Nat → Prop} {w0 w : World} {e e' : Env} {s s' : St} {P : Program}

/-! Facts -/

def Fact.plain (f : Fact) : Bool := match f.op with | .eql => true | .lss => true | _ => false
theorem factsOk_of : ∀ {gs : List Fact}, gs.all Fact.plain = true → allSay L gs → FactsOk L gs
  | [], _, _ => fun _ h => by cases h
  | f :: r, hp, h => by
    simp only [List.all_cons, Bool.and_eq_true] at hp
    refine factsOk_cons ?_ (factsOk_of hp.2 h.2)
    obtain ⟨op, a, b, q⟩ := f
    have h1 := h.1
    have hp1 := hp.1
    unfold Fact.plain at hp1
    cases op <;> simp at hp1
    · refine ⟨eqF, rfl, ?_⟩
      cases q
      · have h1 : a.eval L ≠ b.eval L := h1
        show eqF (a.eval L) (b.eval L) = false
        rw [eqF_eq]; simpa using h1
      · have h1 : a.eval L = b.eval L := h1
        show eqF (a.eval L) (b.eval L) = true
        rw [eqF_eq]; simpa using h1
    · refine ⟨ltF, rfl, ?_⟩
      cases q
      · have h1 : b.eval L ≤ a.eval L := h1
        show ltF (a.eval L) (b.eval L) = false
        rw [ltF_eq]; simpa using h1
      · have h1 : a.eval L < b.eval L := h1
        show ltF (a.eval L) (b.eval L) = true
        rw [ltF_eq]; simpa using h1

theorem factsOk_append {a b : List Fact} : FactsOk L (a ++ b) ↔ FactsOk L a ∧ FactsOk L b :=
  ⟨fun h => ⟨fun f hf => h f (List.mem_append_left _ hf), fun f hf => h f (List.mem_append_right _ hf)⟩, fun h f hf => (List.mem_append.1 hf).elim (h.1 f) (h.2 f)⟩
theorem allSay_append : ∀ {a b : List Fact}, allSay L (a ++ b) ↔ allSay L a ∧ allSay L b
  | [], b => by simp [allSay]
  | f :: a, b => by
    show (f.says L ∧ allSay L (a ++ b)) ↔ _
    rw [allSay_append]
    exact and_assoc.symm

/-- Leaves below a bound alone. -/
def IE.upTo (n : Nat) : IE → Bool
  | .lit _ => true
  | .leaf j => Nat.blt j n
  | .len j => Nat.blt j n
  | .bin _ _ a b => a.upTo n && b.upTo n
  | .conv _ a => a.upTo n
  | .shl _ a _ => a.upTo n
  | .shr a _ => a.upTo n
theorem eval_below {n : Nat} (h : ∀ j, j < n → L' j = L j) : ∀ {x : IE}, x.upTo n = true → x.eval L' = x.eval L := by
  intro x
  induction x with
  | lit => intro _; rfl
  | leaf j => intro hx; show valInt (L' j) = valInt (L j); rw [h j (blt_true.1 hx)]
  | len j => intro hx; show valLen (L' j) = valLen (L j); rw [h j (blt_true.1 hx)]
  | bin o k a b iha ihb => intro hx; simp only [IE.upTo, Bool.and_eq_true] at hx; simp only [IE.eval, iha hx.1, ihb hx.2]
  | conv k a iha => intro hx; simp only [IE.eval, iha hx]
  | shl k a m iha => intro hx; simp only [IE.eval, iha hx]
  | shr a m iha => intro hx; simp only [IE.eval, iha hx]
theorem facts_below {n : Nat} (h : ∀ j, j < n → L' j = L j) {fs : List Fact} (hb : fs.all (fun f => f.a.upTo n && f.b.upTo n) = true) (hF : FactsOk L fs) : FactsOk L' fs := fun f hf => by
  have hb := List.all_eq_true.1 hb f hf
  simp only [Bool.and_eq_true] at hb
  obtain ⟨g, hg, hr⟩ := hF f hf
  exact ⟨g, hg, by rw [eval_below h hb.1, eval_below h hb.2]; exact hr⟩

/-! What was told -/

/-- What was told at place y, in leaves from 20 + 3 k on; the slice is leaf j. -/
noncomputable def toldAt (j : Nat) (cells : Nat → List V) (q : Nat × IE) : Giv := ⟨pn (8 + q.1), j, q.2, 3, cells q.1⟩
noncomputable def winAtK (q : Nat × IE) : V := vwin (pn (8 + q.1)) q.2
/-- Three values that nobody looks into. -/
def vos (k : Nat) : List V := [vo (20 + 3 * k), vo (21 + 3 * k), vo (22 + 3 * k)]
/-- The first places; the place that is number 16. -/
noncomputable def firsts (n : Nat) : List (Nat × IE) := Nat.rec (motive := fun _ => List (Nat × IE)) [] (fun k ih => ih ++ [(k, .lit (.ofNat k))]) n
noncomputable def here : List (Nat × IE) := [(20, .leaf 16)]
/-- New leaves for what was told. -/
noncomputable def fresh (l : List (Nat × IE)) : List (Nat × V) := l.flatMap fun q => [(20 + 3 * q.1, vdead), (21 + 3 * q.1, vdead), (22 + 3 * q.1, vdead)]
/-- What they are; number 20 is place i. -/
def toldX (g : Nat → Nat → Value) (len i : Nat) (j : Nat) : Value :=
  if 80 ≤ j then (if i < len ∧ j - 80 < 3 then g i (j - 80) else .bool false) else if (j - 20) / 3 < len then g ((j - 20) / 3) ((j - 20) % 3) else .bool false

theorem toldX_leafy {g : Nat → Nat → Value} {len : Nat} (h : ∀ k j, k < len → j < 3 → (g k j).oneCell' = true) (i : Nat) : Leafy (toldX g len i) := fun j => by
  unfold toldX
  split
  · split
    · rename_i hc; exact h _ _ hc.1 hc.2
    · rfl
  · split
    · rename_i hc; exact h _ _ hc (Nat.mod_lt _ (by decide))
    · rfl

theorem fresh_low {l : List (Nat × IE)} {X : Nat → Value} {j : Nat} (hj : j < 20) : Lth (fresh l) X L j = L j := by
  unfold Lth
  cases hq : thGet (fresh l) j with
  | none => rfl
  | some u =>
    have := thGet_mem hq
    unfold fresh at this
    obtain ⟨q, _, hm⟩ := List.mem_flatMap.1 this
    simp at hm
    omega
theorem fresh_at {l : List (Nat × IE)} {X : Nat → Value} {q : Nat × IE} (hq : q ∈ l) {t : Nat} (ht : t < 3) : Lth (fresh l) X L (20 + 3 * q.1 + t) = X (20 + 3 * q.1 + t) := by
  have all : ∀ j u, thGet (fresh l) j = some u → u.tag = 21 := fun j u hu => by
    have := thGet_mem hu
    unfold fresh at this
    obtain ⟨_, _, hm⟩ := List.mem_flatMap.1 this
    simp at hm
    rcases hm with ⟨_, rfl⟩ | ⟨_, rfl⟩ | ⟨_, rfl⟩ <;> rfl
  have some1 : ∀ (m : List (Nat × V)) j u, (j, u) ∈ m → ∃ v, thGet m j = some v := by
    intro m
    induction m with
    | nil => intro j u h; cases h
    | cons p m ih =>
      intro j u h
      show ∃ v, sel (Nat.beq p.1 j) (some p.2) (thGet m j) = some v
      rw [sel_eq]
      split
      · exact ⟨_, rfl⟩
      · rename_i hne
        rcases List.mem_cons.1 h with h | h
        · subst h; exact absurd (beq_true.2 rfl) hne
        · exact ih j u h
  obtain ⟨v, hv⟩ := some1 (fresh l) (20 + 3 * q.1 + t) vdead (List.mem_flatMap.2 ⟨q, hq, by
    have : t = 0 ∨ t = 1 ∨ t = 2 := by omega
    rcases this with rfl | rfl | rfl <;> simp <;> omega⟩)
  unfold Lth
  rw [hv]
  exact if_pos (all _ v hv)

/-- A place's number is what it says. -/
theorem given_told {p : Option Addr} {len cap : Nat} {g : Nat → Nat → Value} (ht : Told w0 p len cap g) {L1 : Nat → Value} {j : Nat} (h7 : L1 j = .slice p len cap) {cells : Nat → List V} {q : Nat × IE} {i : Nat} (hi : i < len)
    (hy : ∀ L' : Nat → Value, (∀ j, j < 1000 ∨ 4096 ≤ j → L' j = L1 j) → q.2.eval L' = (i : Int)) (hlen : (cells q.1).length ≤ 3)
    (hc : ∀ t v, (cells q.1)[t]? = some v → ∀ (L' : Nat → Value) (e' : Env), (∀ j, j < 1000 ∨ 4096 ≤ j → L' j = L1 j) → iv L' e' v = some (g i t)) :
    GivOk L1 (fun b => b < w0.heap.size) w0 w0.heap.size (toldAt j cells q) := by
  rcases ht with ⟨_, h0, _⟩ | ⟨a, _, h0, _⟩ | ⟨b, off, cs, t, fr, rfl, hlc, hw, hcs⟩
  · omega
  · omega
  · have hb := (Array.getElem?_eq_some_iff.1 hw).1
    refine ⟨b, off, len, cap, cs, t, fr, i, h7, hb, hb, hw, hi, hy, fun k v hv => ⟨g i k, hcs i k hi ?_, hc k v hv⟩⟩
    have := (List.getElem?_eq_some_iff.1 hv).1
    have hl : (cells q.1).length ≤ 3 := hlen
    have : k < (cells q.1).length := this
    omega

theorem firsts_mem {n : Nat} {q : Nat × IE} (h : q ∈ firsts n) : q.1 < n ∧ q.2 = .lit q.1 := by
  induction n with
  | zero => cases h
  | succ n ih =>
    rcases List.mem_append.1 (show q ∈ firsts n ++ [(n, .lit (.ofNat n))] from h) with h | h
    · obtain ⟨h1, h2⟩ := ih h
      exact ⟨by omega, h2⟩
    · simp at h
      subst h
      exact ⟨by simp, rfl⟩

/-- The slice that was handed in, as a value. -/
theorem told_iv {p : Option Addr} {len cap : Nat} {g : Nat → Nat → Value} (ht : Told w0 p len cap g) {j esz : Nat} (h7 : L j = .slice p len cap) : iv L e (vun j esz (.len j) []) = some (.slice p len cap) := by
  rw [iv_S (show (20 : Nat) ≠ 12 by decide) (show (20 : Nat) ≠ 13 by decide) (show (20 : Nat) ≠ 15 by decide) (show (20 : Nat) ≠ 16 by decide)]
  have hlen : (IE.len j).eval L = len := by
    show valLen (L j) = len
    rw [h7]; rfl
  rcases ht with ⟨rfl, rfl, rfl⟩ | ⟨a, rfl, h0, h1⟩ | ⟨b, off, cs, t, fr, rfl, hlc, hw, hcs⟩
  · exact ivS20_nil (v := vun j esz (.len j) []) rfl h7 (by rw [show (vun j esz (.len j) []).x = .len j from rfl, hlen]; rfl) rfl
  · have := ivS20_some (L := L) (e := e) (v := vun j esz (.len j) []) (a := a) (n := len) (c := cap) rfl h7 (by rw [show (vun j esz (.len j) []).x = .len j from rfl, hlen]; omega) (by rw [show (vun j esz (.len j) []).x = .len j from rfl, hlen]; omega) h1 (fun u hu => by cases hu) (.inr rfl)
    rw [this, show (vun j esz (.len j) []).x = .len j from rfl, hlen, Int.toNat_natCast]
  · have := ivS20_some (L := L) (e := e) (v := vun j esz (.len j) []) (a := ⟨b, off, none⟩) (n := len) (c := cap) rfl h7 (by rw [show (vun j esz (.len j) []).x = .len j from rfl, hlen]; omega) (by rw [show (vun j esz (.len j) []).x = .len j from rfl, hlen]; omega) hlc (fun u hu => by cases hu) (.inr rfl)
    rw [this, show (vun j esz (.len j) []).x = .len j from rfl, hlen, Int.toNat_natCast]

end Go.X

/-
  Calls that are known: by their arguments' values; those that make a row that is told. A row that was handed in, of unknown length.
-/
namespace Go.X
open Go.RowKit
set_option linter.unusedSimpArgs false
set_option linter.unusedVariables false

variable {L L' : Nat → Value} {F : Nat → Prop} {w0 w : World} {e e' : Env} {s s' : St} {P : Program}

/-- A call that is known: the function, its arguments, what it answers. -/
structure KnownA where
  f : Nat
  args : List V
  r : V

/-- A call that makes a row: of a number; how long it is, how it begins, which row it is. -/
structure KnownR where
  f : Nat
  arg : IE
  cnt : IE
  pre : List V
  g : Nat

noncomputable section
def knownInA (l : List KnownA) (f : FuncId) (args : List V) (s : St) : Option (V × St) :=
  List.rec (motive := fun _ => Option (V × St)) none (fun k _ ih => sel (band (Nat.beq f k.f) (V.sames args k.args)) (some (k.r, s)) ih) l
def rowOf (k : KnownR) (s : St) : Option (V × St) :=
  (cellsOf k.pre).bnd fun t => (next s.nid).bnd fun n =>
    some (vss s.nid 0 k.cnt s.ncap 0, { heap := hPut s.nid (some { cells := t, lit := true, room := 0, esz := 1, ro := false, gs := k.g, gk := 3, go := 0, gn := k.cnt }) s.heap, nid := n, ncap := Nat.succ s.ncap })
def knownInR (l : List KnownR) (f : FuncId) (args : List V) (s : St) : Option (V × St) :=
  List.rec (motive := fun _ => Option (V × St)) none (fun k _ ih => sel (band (Nat.beq f k.f) (V.sames args [vx 3 k.arg])) (rowOf k s) ih) l
/-- One function that answers true, and some that are known. -/
def knowsR (g : Nat) (la : List KnownA) (lr : List KnownR) (f : FuncId) (args : List V) (s : St) : Option (V × St) :=
  sel (band (Nat.beq f g) (Nat.beq (llen args) 0)) (some (V.T, s)) (match knownInA la f args s with
    | some r => some r
    | none => knownInR lr f args s)
end

/-- What a known call does. -/
structure KnownA.Ok (L : Nat → Value) (P : Program) (k : KnownA) : Prop where
  enter : enterTest P k.f = true
  does : ∃ xs x, (∀ e, il L e k.args = some xs) ∧ (∀ e, iv L e k.r = some x) ∧ ∀ w, Calls P k.f xs.toArray w fun en w' => en = .returned x ∧ Below w.heap.size w w'

structure KnownR.Ok (L : Nat → Value) (P : Program) (k : KnownR) : Prop where
  enter : enterTest P k.f = true
  does : ∃ n : Nat, k.cnt.eval L = n ∧ n ≤ 1099511627776 ∧ (∀ i v, k.pre[i]? = some v → i < n ∧ ∀ e, iv L e v = some (.int .i64 (valInt (L (gl k.g i))))) ∧
    ∀ w, Calls P k.f #[.int .i64 (k.arg.eval L)] w fun en w' => ∃ g cap cs t fr, en = .returned (.slice (some ⟨g, 0, none⟩) n cap) ∧ n ≤ cap ∧ w.heap.size ≤ g ∧ w'.heap[g]? = some (.cells cs t fr) ∧ (fr.1 = fr.2 ∨ cs.size ≤ fr.1) ∧
      (∀ i, i < n → cs[i]? = some (.int .i64 (valInt (L (gl k.g i))))) ∧ Below w.heap.size w w'

theorem hookOk_R {c : Cfg} {g : Nat} {la : List KnownA} {lr : List KnownR} (hc : c.hook = knowsR g la lr) (ht : enterTest c.P g = true) (hg : ∀ w, Calls c.P g #[] w fun en w' => en = .returned (.bool true) ∧ Below w.heap.size w w')
    (hla : ∀ k ∈ la, k.Ok L c.P) (hlr : ∀ k ∈ lr, k.Ok L c.P) : HookOk L c := by
  intro F w0 f args s v s' xs e w h hx hr
  rw [hc] at h
  unfold knowsR at h
  rw [sel_eq] at h
  split at h
  · rename_i hb
    have h0 : (knows g f args s) = some (v, s') := by unfold knows; rw [sel_eq, if_pos hb]; exact h
    exact hookOk_of (L := L) (c := { P := c.P, ext := c.ext, hook := knows g, facts := c.facts }) rfl ht hg F w0 f args s v s' xs e w h0 hx hr
  · clear hc
    split at h
    · rename_i r hA
      cases h
      clear hlr
      induction la with
      | nil => cases hA
      | cons k l ih =>
        have hA : sel (band (Nat.beq f k.f) (V.sames args k.args)) (some (k.r, s)) (knownInA l f args s) = some (v, s') := hA
        rw [sel_eq] at hA
        split at hA
        · rename_i hb
          cases hA
          obtain ⟨h1, h2⟩ := band_true.1 hb
          obtain rfl := beq_true.1 h1
          obtain rfl := V.sames_eq _ _ h2
          obtain ⟨k1, ys, x, k2, k3, k4⟩ := hla k List.mem_cons_self
          rw [k2 e] at hx
          cases hx
          refine ⟨enter_run k1 _ _, fun R hR => (k4 w).mono fun en w' ⟨hen, hb⟩ => ?_⟩
          subst hen
          exact hR e x w' (Ext.refl _ _) (k3 e) (hr.grew hb)
        · exact ih (fun k hk => hla k (List.mem_cons_of_mem _ hk)) hA
    · clear hla
      induction lr with
      | nil => cases h
      | cons k l ih =>
        have hA : sel (band (Nat.beq f k.f) (V.sames args [vx 3 k.arg])) (rowOf k s) (knownInR l f args s) = some (v, s') := h
        rw [sel_eq] at hA
        split at hA
        rotate_left
        · exact ih (fun k hk => hlr k (List.mem_cons_of_mem _ hk)) hA
        rename_i hb
        clear ih h
        obtain ⟨h1, h2⟩ := band_true.1 hb
        obtain rfl := beq_true.1 h1
        obtain rfl := V.sames_eq _ _ h2
        obtain ⟨k1, n, kn, kb, kp, kc⟩ := hlr k List.mem_cons_self
        obtain ⟨ct, hct, hB⟩ := bnd_some.1 hA
        obtain ⟨nid, hnid, hC⟩ := bnd_some.1 hB
        cases hC
        clear hA hB
        obtain ⟨y, z, hy, hz, rfl⟩ := il_cons.1 hx
        rw [il_nil] at hz
        cases hz
        rw [iv3 rfl] at hy
        cases hy
        refine ⟨enter_run k1 _ _, fun R hR => (kc w).mono fun en w' hh => ?_⟩
        obtain ⟨gb, cap, cs, t, fr, rfl, hcap, hge, hw', hfr, hcs, hb⟩ := hh
        have hR2 := (hr.grew hb).cap cap
        have hfr1 : (e.setCap s.ncap cap).blk s.nid = none := hr.fresh s.nid (Nat.le_refl _)
        have hle1 := Env.le_setCap (c := cap) (hr.freshc s.ncap (Nat.le_refl _))
        have hle2 := Env.le_setBlk (e := e.setCap s.ncap cap) (q := (gb, 0)) hfr1
        refine hR ((e.setCap s.ncap cap).setBlk s.nid (gb, 0)) _ w' ⟨hle1.trans hle2, by have := next_num hnid; show s.nid.num ≤ nid.num; omega, Nat.le_succ _⟩ ?_ ?_
        · have := iv25_of (L := L) (e := (e.setCap s.ncap cap).setBlk s.nid (gb, 0)) (v := vss s.nid 0 k.cnt s.ncap 0) (q := (gb, 0)) (k := cap) rfl (by simp [vss, Env.setBlk]) (by simp [vss, Env.setBlk, Env.setCap]) (by show 0 ≤ k.cnt.eval L; omega) (by show 0 + (k.cnt.eval L).toNat ≤ cap; omega)
          rw [this]
          show some (Value.slice (some ⟨gb, 0 + 0, none⟩) (k.cnt.eval L).toNat (cap - 0)) = _
          rw [show (k.cnt.eval L).toNat = n by omega]
          rfl
        · refine hR2.add hnid hfr1 hR2.freshc (fun id o' q ho' hq hbb => ?_) ⟨gb, 0, cs, t, fr, by simp [Env.setBlk], hw', ⟨fun _ hF => ?_, fun h => (by cases h)⟩, fun _ => hfr, ⟨fun h => (by cases h), fun _ => ⟨by show 0 ≤ k.cnt.eval L; omega, by show k.cnt.eval L ≤ _; omega, fun i hi => ?_⟩⟩, fun i v hv => ?_⟩
          · obtain ⟨b, base, cs', t', fr', g1, g2, _⟩ := hr.objs id o' ho'
            have hq : e.blk id = some q := hq
            rw [g1] at hq
            cases hq
            have := (Array.getElem?_eq_some_iff.1 g2).1
            have hbb : b = gb := hbb
            omega
          · have := hr.old _ hF
            have := hr.size
            omega
          · have hi : (i : Int) < k.cnt.eval L := hi
            rw [Nat.zero_add]
            exact hcs i (by omega)
          · have hv : ct.get i = some v := hv
            rw [cellsOf_get hct] at hv
            obtain ⟨hin, hiv⟩ := kp i v hv
            rw [Nat.zero_add]
            exact ⟨_, hcs i hin, hiv _⟩

/-- One block that was handed in. -/
noncomputable def oneSt (o : Obj) : St := { heap := hPut Path.zero (some o) noObjs, nid := ⟨.d0, .d0, .d0, .d0, .d1⟩, ncap := 1 }
theorem oneRel {w : World} {o : Obj} {b off cap : Nat} {cs : Array Value} {t : TypeId} {fr : Nat × Nat} (hro : o.ro = true) (hlit : o.lit = true) (hw : w.heap[b]? = some (.cells cs t fr)) (hrow : RowOk L o off cs)
    (hc : ∀ k v, o.cells.get k = some v → ∃ x, cs[off + k]? = some x ∧ iv L (rowEnv b off cap w.heap.size) v = some x) :
    Rel L (fun b => b < w.heap.size) w (rowEnv b off cap w.heap.size) (oneSt o) w := by
  have hb := (Array.getElem?_eq_some_iff.1 hw).1
  have hget : ∀ id o', hGet id (oneSt o).heap = some o' → id = Path.zero ∧ o' = o := by
    intro id o' h
    simp only [oneSt, hGet_put] at h
    split at h
    · rename_i hid
      cases h
      exact ⟨hid, rfl⟩
    · rw [hGet_none] at h; cases h
  refine ⟨rfl, rfl, rfl, Nat.le_refl _, fun _ h => h, fun _ _ => rfl, fun id o' h => ?_, fun id id' o1 o2 q q' h h' hne => ?_, fun id hid => ?_, fun k hk => ?_, Nat.le_refl _⟩
  · obtain ⟨rfl, rfl⟩ := hget id o' h
    exact ⟨b, off, cs, t, fr, by simp [rowEnv], hw, ⟨fun h => (by rw [hro] at h; cases h), fun _ => hb⟩, fun h => (by rw [hro] at h; cases h), ⟨fun h => (by rw [hlit] at h; cases h), hrow⟩, hc⟩
  · exact absurd ((hget id o1 h).1.trans (hget id' o2 h').1.symm) hne
  · have : id ≠ Path.zero := by
      rintro rfl
      exact absurd (show Path.num ⟨.d0, .d0, .d0, .d0, .d1⟩ ≤ Path.num Path.zero from hid) (by decide)
    simp [rowEnv, this]
  · have : k ≠ 0 := by
      have : 1 ≤ k := hk
      omega
    simp [rowEnv, this]

/-- **A statement**, by its own code, from any beginning. -/
theorem law_from {e0 : Env} {f : FuncId} {fn : Func} {N : Nat} (hfn : P.funcs[f]? = some fn) (hb : fn.body.isSome = true) {l : List V} {xs : List Value} {w : World} (hl : il L e0 l = some xs) (hn : fn.ntmps = N) (hN : l.length ≤ N) (h5 : l.length ≤ 512)
    (h : ∀ a, ARel L e0 (frame l 0 noSlots) N a → wps P (lawPost P fn w .normal) (lawPost P fn w) (bodyOf P f) a w) :
    Calls P f xs.toArray w fun en w' => en = .returned (.bool true) ∧ Below w.heap.size w w' := by
  subst hn
  obtain ⟨k, hk⟩ := Option.isSome_iff_exists.1 hb
  have hbk : bodyOf P f = flat k := by unfold bodyOf; rw [hfn]; simp only [hk]
  rw [hbk] at h
  exact calls_of_wp hfn hk (wp_flat _ _ _ _ (h _ (frame_rel hl hN h5)))

end Go.X
