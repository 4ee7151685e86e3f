/- The reckoner's regions that draw their order; closed calls; calls in cases. -/
import Derived.Test.YtfahnjicinpahaaXTwo

/-
  Operations that but make a block: what they make hangs on the slots that they look at alone.
-/
namespace Go.X
open Go.RowKit
set_option linter.unusedSimpArgs false
set_option linter.unusedVariables false

variable {L : Nat → Value} {F : Nat → Prop} {w0 w : World} {e e' : Env} {s s' : St} {P : Program}

/-- Both frames hold the same in a slot that is an operand. -/
def SameOn (l : List Operand) (tm tm' : Tm) : Prop := ∀ t, t < 512 → Operand.tmp t ∈ l → tmGet (path t) tm = tmGet (path t) tm'

theorem opd_congr {x : Operand} {q : Opd} {l : List Operand} (h : opd x = some q) (hx : x ∈ l) {tm tm' : Tm} (hs : SameOn l tm tm') : q tm = q tm' := by
  cases x with
  | tmp t =>
    obtain ⟨ht, h⟩ := chk_some.1 h
    cases h
    show live _ = live _
    rw [hs t (blt_true.1 ht) hx]
  | const v => obtain ⟨q', _, h⟩ := bnd_some.1 h; cases h; rfl
  | global => cases h
  | func f => cases h; rfl

theorem evParts_congr {l : List Operand} {tm tm' : Tm} (hs : SameOn l tm tm') : ∀ {ps : List (Nat × Operand)} {qs : List (Nat × Opd)}, opdParts ps = some qs → (∀ p ∈ ps, p.2 ∈ l) → evParts tm qs = evParts tm' qs
  | [], qs, h, _ => by cases h; rfl
  | p :: ps, qs, h, hl => by
    obtain ⟨y, r, hy, hr, rfl⟩ := mapO_some_cons.1 h
    obtain ⟨z, hz, hy⟩ := bnd_some.1 hy
    cases hy
    have h1 := opd_congr hz (hl p List.mem_cons_self) hs
    have h2 : evParts tm r = evParts tm' r := evParts_congr hs hr fun p hp => hl p (List.mem_cons_of_mem _ hp)
    show mapO _ _ = mapO _ _
    rw [mapO_cons, mapO_cons]
    simp only
    rw [h1]
    unfold evParts at h2
    rw [h2]

/-- What an operation that but makes a block does. -/
structure Makes (L : Nat → Value) (c : Cfg) (op : Op) (f : Run) (h : Tm → Option (List V × (Path → V))) : Prop where
  run : ∀ tm s, f tm s = (h tm).bnd fun r => (newRow r.1 s).bnd fun s' => some (r.2 s.nid, s')
  congr : ∀ tm tm', SameOn op.operands.toList tm tm' → h tm = h tm'
  sem : ∀ (e : Env) (tm : Tm) (N : Nat) (a : Act) (r : List V × (Path → V)), ARel L e tm N a → h tm = some r →
    ∃ (xs : List Value) (t : TypeId) (X : Nat → Value), il L e r.1 = some xs ∧ (∀ (e' : Env) (id : Path) (b : Nat), e'.blk id = some (b, 0) → iv L e' (r.2 id) = some (X b)) ∧
      ∀ (o : Oper), o.op = op → ∀ w, (execOp a.eval o).run c.P w = .ok (.value (X w.heap.size)) { w with heap := w.heap.push (.cells xs.toArray t) }

theorem makes_of (hL : Leafy L) {c : Cfg} {op : Op} {k : Kd} (hal : allocOp op = true) (h : stage1 c op = some k) : ∃ f hh, k = .run f ∧ Makes L c op f hh := by
  cases op <;> simp only [allocOp] at hal <;> first | (cases hal; done) | skip
  all_goals simp only [stage1] at h
  case alloc el =>
    obtain ⟨z, hz, h⟩ := bnd_some.1 h
    cases h
    refine ⟨_, fun _ => some (z, fun id => vp id 0), rfl, fun tm s => rfl, fun _ _ _ => rfl, fun e tm N a r ha hr => ?_⟩
    cases hr
    obtain ⟨zv, hzv, hzi⟩ := zeroCells_sound (L := L) (e := e) hz
    refine ⟨zv.cells.toList, el, fun b => .pointer (some ⟨b, 0, none⟩), hzi, fun e' id b hb => by rw [iv_vp hb], fun o ho w => ?_⟩
    obtain ⟨dst, op, type, pos, after, guard⟩ := o
    simp only at ho
    subst ho
    refine run_v' ?_
    unfold Instr.alloc Go.newVar
    simp only [Sem.run_bind, hzv, Result.andThen_ok, run_newRow]
    rfl
  case box el q =>
    obtain ⟨q', hq, h⟩ := bnd_some.1 h
    cases h
    refine ⟨_, fun tm => (q' tm).bnd fun v => some (v.cells, fun id => vp id 0), rfl, fun tm s => ?_, fun tm tm' hs => ?_, fun e tm N a r ha hr => ?_⟩
    · unfold xBox
      cases q' tm <;> rfl
    · show (q' tm).bnd _ = (q' tm').bnd _
      rw [opd_congr hq (by simp [Op.operands]) hs]
    · obtain ⟨v, hv, hr⟩ := bnd_some.1 hr
      cases hr
      have hi := opd_sound hq ha hv
      refine ⟨(a.eval q).cells.toList, el, fun b => .pointer (some ⟨b, 0, none⟩), iv_cells hL hi, fun e' id b hb => by rw [iv_vp hb], fun o ho w => ?_⟩
      obtain ⟨dst, op, type, pos, after, guard⟩ := o
      simp only at ho
      subst ho
      refine run_v' ?_
      unfold Instr.box Go.newVar
      simp only [Sem.run_bind, run_newRow, Result.andThen_ok]
      rfl
  case buildSlice t len parts =>
    obtain ⟨l, hl, h⟩ := bnd_some.1 h
    obtain ⟨z, hz, h⟩ := bnd_some.1 h
    obtain ⟨hle, h⟩ := chk_some.1 h
    cases h
    refine ⟨_, fun tm => (evParts tm l).bnd fun l => (fill (fun i => some (i * z.2.1, z.2.1)) l (repeatCells z.1 len)).bnd fun cs => some (cs, fun id => vsl id 0 len len), rfl, fun tm s => ?_, fun tm tm' hs => ?_, fun e tm N a r ha hr => ?_⟩
    · unfold xBuildSlice
      cases evParts tm l with
      | none => rfl
      | some vs =>
        show (fill _ vs _).bnd _ = ((fill _ vs _).bnd _).bnd _
        cases fill (fun i => some (i * z.2.1, z.2.1)) vs (repeatCells z.1 len) <;> rfl
    · show (evParts tm l).bnd _ = (evParts tm' l).bnd _
      rw [evParts_congr hs hl (fun p hp => by
        simp only [Op.operands, List.mem_map]
        exact ⟨p, hp, rfl⟩)]
    · obtain ⟨vs, hvs, hr⟩ := bnd_some.1 hr
      obtain ⟨q, hq, hr⟩ := bnd_some.1 hr
      cases hr
      have hp := parts_sound ha hl hvs
      have hp' : PartsRel L e vs (parts.map fun (p : Nat × Operand) => (p.1, a.eval p.2)).toList := by simpa using hp
      obtain ⟨el, zs, hzs, hrun⟩ := buildSlice_run (P := c.P) hL hz hle hp' hq
      refine ⟨zs, el, fun b => .slice (some ⟨b, 0, none⟩) len len, hzs, fun e' id b hb => by rw [iv_vsl hb], fun o ho w => ?_⟩
      obtain ⟨dst, op, type, pos, after, guard⟩ := o
      simp only at ho
      subst ho
      exact run_v' (hrun w)
  case makeSlice t l m =>
    obtain ⟨l', hl, h⟩ := bnd_some.1 h
    obtain ⟨m', hm, h⟩ := bnd_some.1 h
    obtain ⟨z, hz, h⟩ := bnd_some.1 h
    cases h
    refine ⟨_, fun tm => (l' tm).bnd fun n => n.asNat.bnd fun n => (m' tm).bnd fun k => k.asNat.bnd fun k =>
      chk (band (Nat.ble n k) (band (Nat.ble (k * z.2.2) 281474976710656) (Nat.ble k 281474976710656))) (some (repeatCells z.1 k, fun id => vsl id 0 n k)), rfl, fun tm s => ?_, fun tm tm' hs => ?_, fun e tm N a r ha hr => ?_⟩
    · unfold xMakeSlice
      cases l' tm with
      | none => rfl
      | some u =>
        show (u.asNat).bnd _ = ((u.asNat).bnd _).bnd _
        cases u.asNat with
        | none => rfl
        | some n =>
          show (m' tm).bnd _ = ((m' tm).bnd _).bnd _
          cases m' tm with
          | none => rfl
          | some u' =>
            show (u'.asNat).bnd _ = ((u'.asNat).bnd _).bnd _
            cases u'.asNat with
            | none => rfl
            | some k =>
              show chk _ _ = (chk _ _).bnd _
              cases (band (Nat.ble n k) (band (Nat.ble (k * z.2.2) 281474976710656) (Nat.ble k 281474976710656))) <;> rfl
    · show (l' tm).bnd _ = (l' tm').bnd _
      rw [opd_congr hl (by simp [Op.operands]) hs, opd_congr hm (by simp [Op.operands]) hs]
    · obtain ⟨p, hp, hr⟩ := bnd_some.1 hr
      obtain ⟨n, hn, hr⟩ := bnd_some.1 hr
      obtain ⟨q, hq, hr⟩ := bnd_some.1 hr
      obtain ⟨k, hk, hr⟩ := bnd_some.1 hr
      obtain ⟨hc, hr⟩ := chk_some.1 hr
      cases hr
      obtain ⟨h1, h23⟩ := band_true.1 hc
      obtain ⟨h2, h3⟩ := band_true.1 h23
      obtain ⟨el, zs, hzs, hrun⟩ := makeSlice_run (P := c.P) hz (opd_sound hl ha hp) (opd_sound hm ha hq) hn hk (ble_true.1 h1) (ble_true.1 h2) (ble_true.1 h3)
      refine ⟨zs, el, fun b => .slice (some ⟨b, 0, none⟩) n k, hzs, fun e' id b hb => by rw [iv_vsl hb], fun o ho w => ?_⟩
      obtain ⟨dst, op, type, pos, after, guard⟩ := o
      simp only at ho
      subst ho
      exact run_v' (hrun w)

end Go.X

/-
  What the plan's later run tells of an operation that may come up now.
-/
namespace Go.X
open Go.RowKit
set_option linter.unusedSimpArgs false
set_option linter.unusedVariables false

variable {L : Nat → Value} {F : Nat → Prop} {w0 w : World} {e e' : Env} {s s' : St} {P : Program}

/-- The plan's operations, made ready. -/
def Staged (c : Cfg) (N : Nat) (ops : Array Oper) (loads : Nat) : List (Nat × Bool) → List DO → Prop
  | [], [] => True
  | q :: r, d :: l => (∃ o, ops[q.1]? = some o ∧ stage3 c N ops o = some d.x ∧ d.reads = sel q.2 (reads c.P o.op) noReads ∧ d.look = band (bnot q.2) (bnot (allBefore (its c.P ops) loads o))) ∧ Staged c N ops loads r l
  | _, _ => False

theorem staged_of {c : Cfg} {N : Nat} {ops : Array Oper} {loads : Nat} : ∀ {r : List (Nat × Bool)} {l : List DO}, stageD c N ops (its c.P ops) loads r = some l → Staged c N ops loads r l
  | [], l, h => by cases h; exact trivial
  | q :: r, l, h => by
    obtain ⟨o, ho, h⟩ := bnd_some.1 h
    obtain ⟨x, hx, h⟩ := bnd_some.1 h
    obtain ⟨l', hl, h⟩ := bnd_some.1 h
    cases h
    exact ⟨⟨o, ho, hx, rfl, rfl⟩, staged_of hl⟩

/-- A step writes its own slot, and no other one. -/
theorem stage2_put {c : Cfg} {d : Dst} {o : Op} {g : Step1} {call : CallF} {tm tm' : Tm} (h : stage2 c d o = some g) (hv : g call tm s = some (tm', s')) : ∃ v, tm' = d.put v tm := by
  have plain : ∀ {k : Kd}, (match k with | .pure f => some (doPure d f) | .run f => some (doRun d fun _ => f)) = some g → ∃ v, tm' = d.put v tm := by
    intro k hg
    cases k with
    | pure f => cases hg; obtain ⟨v, _, hv⟩ := bnd_some.1 hv; cases hv; exact ⟨v, rfl⟩
    | run f => cases hg; obtain ⟨r, _, hv⟩ := bnd_some.1 hv; cases hv; exact ⟨r.1, rfl⟩
  have fin : (stage1 c o).bnd (fun | .pure f => some (doPure d f) | .run f => some (doRun d fun _ => f)) = some g → ∃ v, tm' = d.put v tm := fun h => by
    obtain ⟨kd, _, h⟩ := bnd_some.1 h
    exact plain (k := kd) (by cases kd <;> exact h)
  cases o <;> first | exact fin h | skip
  simp only [stage2] at h
  rw [sel_eq] at h
  split at h
  · obtain ⟨kd, _, h⟩ := bnd_some.1 h
    exact plain (k := kd) (by cases kd <;> exact h)
  · obtain ⟨gc, _, h⟩ := bnd_some.1 h
    cases h
    obtain ⟨r, _, hv⟩ := bnd_some.1 hv
    cases hv
    exact ⟨r.1, rfl⟩

theorem stage3_put {c : Cfg} {N : Nat} {ops : Array Oper} {o : Oper} {x : XO} {call : CallF} {tm tm' : Tm} (h : stage3 c N ops o = some x) (hv : x.go call tm s = some (tm', s')) : dstOk N o.dst = true ∧ ∃ v, tm' = (dstOf o.dst).put v tm := by
  obtain ⟨hok, h⟩ := chk_some.1 h
  obtain ⟨g, hg, h⟩ := bnd_some.1 h
  cases h
  obtain ⟨hd, _⟩ := band_true.1 hok
  refine ⟨hd, ?_⟩
  simp only at hv
  rw [sel_eq] at hv
  split at hv
  · exact stage2_put hg hv
  · obtain ⟨b, _, hv⟩ := bnd_some.1 hv
    cases b with
    | true => exact stage2_put hg hv
    | false => cases hv; exact ⟨X.undef, rfl⟩

theorem put_other {N : Nat} {d : Option Tmp} (hd : dstOk N d = true) {v : V} {tm : Tm} {t : Nat} (ht : t < 512) (hne : d ≠ some t) : tmGet (path t) ((dstOf d).put v tm) = tmGet (path t) tm := by
  cases d with
  | none => rfl
  | some d =>
    obtain ⟨_, h2⟩ := band_true.1 hd
    show tmGet (path t) (tmPut (path d) v tm) = _
    rw [tmGet_put, if_neg]
    intro hp
    exact hne (by rw [path_inj ht (blt_true.1 h2) hp])

theorem bit_or {Lm i k : Nat} : (Lm ||| bit i).testBit k = true ↔ Lm.testBit k = true ∨ i = k := by
  rw [Nat.testBit_or, bit_test, Bool.or_eq_true]
  simp

/-- **What comes later**: one that is ready, and not listed, comes up in the plan; till then nobody writes what it looks at. -/
theorem future {c : Cfg} {N : Nat} {ops : Array Oper} {loads : Nat} (hm : mindsAll ops = true) {call : CallF} {i : Nat} {o : Oper} (ho : ops[i]? = some o) {Lm : Nat} {r : List (Nat × Bool)} (hp : PlanOk (its c.P ops) Lm r) :
    ∀ {l : List DO} {tm : Tm} {s : St} {seen : Seen} {out : Tm × St × Seen}, Staged c N ops loads r l → drawnOps call l tm s seen = some out → Lm.testBit i = false → (∀ k ∈ waits o, Lm.testBit k = true) →
    ∃ x tm1 s1 t2, stage3 c N ops o = some x ∧ x.go call tm1 s1 = some t2 ∧ ∀ t, t < 512 → t ∈ o.looksAt ops → tmGet (path t) tm1 = tmGet (path t) tm := by
  -- one step of it
  have step : ∀ {Lm j : Nat} {fl : Bool} {r : List (Nat × Bool)} {l : List DO} {tm : Tm} {s : St} {seen : Seen} {out : Tm × St × Seen}, (∃ q ∈ its c.P ops, q.i = j ∧ ready Lm q = true) →
      (∀ {l : List DO} {tm : Tm} {s : St} {seen : Seen} {out : Tm × St × Seen}, Staged c N ops loads r l → drawnOps call l tm s seen = some out → (Lm ||| bit j).testBit i = false → (∀ k ∈ waits o, (Lm ||| bit j).testBit k = true) →
        ∃ x tm1 s1 t2, stage3 c N ops o = some x ∧ x.go call tm1 s1 = some t2 ∧ ∀ t, t < 512 → t ∈ o.looksAt ops → tmGet (path t) tm1 = tmGet (path t) tm) →
      Staged c N ops loads ((j, fl) :: r) l → drawnOps call l tm s seen = some out → Lm.testBit i = false → (∀ k ∈ waits o, Lm.testBit k = true) →
      ∃ x tm1 s1 t2, stage3 c N ops o = some x ∧ x.go call tm1 s1 = some t2 ∧ ∀ t, t < 512 → t ∈ o.looksAt ops → tmGet (path t) tm1 = tmGet (path t) tm := by
    intro Lm j fl r l tm s seen out hq ih hs hd hi hw
    cases l with
    | nil => exact hs.elim
    | cons d l =>
      obtain ⟨⟨oj, hoj, hx, _, _⟩, hs⟩ := hs
      simp only at hoj
      obtain ⟨t2, hgo, hd⟩ := bnd_some.1 hd
      by_cases hij : j = i
      · subst hij
        rw [ho] at hoj; cases hoj
        exact ⟨d.x, tm, s, t2, hx, hgo, fun _ _ _ => rfl⟩
      · obtain ⟨t2a, t2b⟩ := t2
        obtain ⟨hdk, v, hput⟩ := stage3_put hx hgo
        obtain ⟨x, tm1, s1, t3, h1, h2, h3⟩ := ih hs hd (by
            rw [Bool.eq_false_iff]
            intro hc
            rcases bit_or.1 hc with hc | hc
            · rw [hi] at hc; cases hc
            · exact hij hc) (fun k hk => bit_or.2 (.inl (hw k hk)))
        refine ⟨x, tm1, s1, t3, h1, h2, fun t ht htl => ?_⟩
        rw [h3 t ht htl]
        show tmGet (path t) t2a = _
        rw [hput]
        refine put_other hdk ht fun hdt => ?_
        obtain ⟨q, hqm, hqi, hqr⟩ := hq
        obtain ⟨oq, hoq, hqe⟩ := its_mem hqm
        rw [hqi, hoj] at hoq; cases hoq
        rw [hqe, hqi] at hqr
        obtain ⟨hju, hjw⟩ := ready_item.1 hqr
        rcases minds_spec hm ho hoj hdt htl with hk | hk
        · rw [hw j hk] at hju; cases hju
        · rw [hjw i hk] at hi; cases hi
  induction hp with
  | done h0 =>
    intro l tm s seen out hs hd hi hw
    have := readys_mem.2 ⟨mem_its (P := c.P) ho, (ready_item (P := c.P)).2 ⟨hi, hw⟩⟩
    rw [h0] at this
    cases this
  | reader hfr _ ih =>
    intro l tm s seen out hs hd hi hw
    obtain ⟨q, hq, hqi, _, hqr⟩ := firstReader_some hfr
    exact step ⟨q, hq, hqi, hqr⟩ ih hs hd hi hw
  | @other Lm j q r0 r hr hj h1 _ ih =>
    intro l tm s seen out hs hd hi hw
    have hmem : ∃ q' ∈ q :: r0, q'.i = j := by
      rcases nextOf_mem (r := q.i) (l := q :: r0) with ⟨q', hq', h⟩ | h
      · exact ⟨q', hq', by rw [hj]; exact h⟩
      · exact ⟨q, List.mem_cons_self, by rw [hj]; exact h.symm⟩
    obtain ⟨q', hq', hqi⟩ := hmem
    rw [← hr] at hq'
    obtain ⟨h2, h3⟩ := readys_mem.1 hq'
    exact step ⟨q', h2, hqi, h3⟩ ih hs hd hi hw

end Go.X

/-
  What the kernel has reckoned, said of the program: a closed call answers true. (DrawOk is asked; it is shown elsewhere.)
-/
namespace Go.X
open Go.RowKit
set_option linter.unusedSimpArgs false
set_option linter.unusedVariables false

/-- Nothing is known, all that stands is foreign. -/
theorem Rel.start (L : Nat → Value) (w : World) : Rel L (fun b => b < w.heap.size) w ⟨fun _ => none, fun _ => none, 0⟩ St.zero w :=
  ⟨rfl, rfl, rfl, Nat.le_refl _, fun _ h => h, fun _ _ => rfl, fun id o h => (by have h : hGet id noObjs = some o := h; rw [hGet_none] at h; cases h),
    fun id id' o o' q q' h => (by have h : hGet id noObjs = some o := h; rw [hGet_none] at h; cases h), fun _ _ => rfl, fun _ _ => rfl, Nat.zero_le _⟩

theorem Rel.below {L : Nat → Value} {w w' : World} {e : Env} {s : St} (h : Rel L (fun b => b < w.heap.size) w e s w') : Below w.heap.size w w' :=
  ⟨h.os, h.tape, h.output, h.size, h.keep⟩

/-- **A closed call**, reckoned to answer true. -/
theorem closed_true {c : Cfg} (hE : ExtOk c) (hD : ∀ L F w0, Leafy L → FactsOk L c.facts → DrawOk L F w0 c) (hH : ∀ f args s, c.hook f args s = none) (hfacts : c.facts = []) {n : Nat} {f : FuncId} {v : V} {s' : St}
    (h : callFn c n f [] St.zero = some (v, s')) (ht : v.tag = 1) (w : World) : Calls c.P f #[] w fun en w' => en = .returned (.bool true) ∧ Below w.heap.size w w' := by
  have hL : Leafy fun _ => .bool true := fun _ => rfl
  have hF : FactsOk (fun _ => .bool true) c.facts := by rw [hfacts]; intro f hf; cases hf
  obtain ⟨_, hcall⟩ := callFn_sound hL hF hE (fun F w0 => hD _ F w0 hL hF) hH n (fun b => b < w.heap.size) w f [] St.zero v s' [] _ w h il_nil (Rel.start _ w)
  refine hcall _ fun e' x w' he hx hr => ⟨?_, hr.below⟩
  rw [iv1 ht] at hx
  cases hx
  rfl

/-- The test that the kernel makes. -/
def answersTrue (r : Option (V × St)) : Bool :=
  match r with
  | some (v, _) => Nat.beq v.tag 1
  | none => false

theorem closed_of_test {c : Cfg} (hE : ExtOk c) (hD : ∀ L F w0, Leafy L → FactsOk L c.facts → DrawOk L F w0 c) (hH : ∀ f args s, c.hook f args s = none) (hfacts : c.facts = []) {n : Nat} {f : FuncId}
    (h : answersTrue (callFn c n f [] St.zero) = true) (w : World) : Calls c.P f #[] w fun en w' => en = .returned (.bool true) ∧ Below w.heap.size w w' := by
  cases hq : callFn c n f [] St.zero with
  | none => rw [hq] at h; cases h
  | some r =>
    obtain ⟨v, s'⟩ := r
    rw [hq] at h
    exact closed_true hE hD hH hfacts hq (beq_true.1 h) w

end Go.X

/-
  Blocks that were made ahead of the plan.
-/
namespace Go.X
open Go.RowKit
set_option linter.unusedSimpArgs false
set_option linter.unusedVariables false

variable {L : Nat → Value} {F : Nat → Prop} {w0 w : World} {e e' : Env} {s s' : St} {P : Program}

/-- An operation done ahead of the plan: what it left; the block that it made, if it was done. -/
structure Pre where
  i : Nat
  o : Oper
  val : Value
  blk : Option (Nat × List Value × TypeId)

def putD (a : Act) : List Pre → Act
  | [] => a
  | d :: D => (putD a D).put d.o.dst d.val

/-- An operation that does not look at their slots, nor writes them. -/
def Off (ops : Array Oper) (o : Oper) (D : List Pre) : Prop := ∀ d ∈ D, (∀ t, d.o.dst = some t → t ∉ o.looksAt ops) ∧ (∀ t, d.o.dst = some t → o.dst ≠ some t)

theorem Off.tail {ops : Array Oper} {o : Oper} {d : Pre} {D : List Pre} (h : Off ops o (d :: D)) : Off ops o D := fun d' hd' => h d' (List.mem_cons_of_mem _ hd')

theorem execOp_putD {ops : Array Oper} {o : Oper} (hs : ∀ cs b, o.op ≠ .select cs b) (a : Act) : ∀ {D : List Pre}, Off ops o D → execOp (putD a D).eval o = execOp a.eval o
  | [], _ => rfl
  | d :: D, h => by
    rw [putD, execOp_put o hs (putD a D) d.o.dst d.val (h d List.mem_cons_self).1]
    exact execOp_putD hs a h.tail

theorem wanted_putD {ops : Array Oper} {o : Oper} (a : Act) : ∀ {D : List Pre}, Off ops o D → Region.wanted o (yielded ops (putD a D).tmps) = Region.wanted o (yielded ops a.tmps)
  | [], _ => rfl
  | d :: D, h => by
    rw [putD, wanted_put o (putD a D) d.o.dst d.val (h d List.mem_cons_self).1]
    exact wanted_putD a h.tail

theorem putD_put {ops : Array Oper} {o : Oper} (a : Act) (v : Value) : ∀ {D : List Pre}, Off ops o D → (putD a D).put o.dst v = putD (a.put o.dst v) D
  | [], _ => rfl
  | d :: D, h => by
    rw [putD, putD, ← putD_put a v h.tail]
    exact Act.put_comm _ _ _ (h d List.mem_cons_self).2

theorem wpOp_lateD {ops : Array Oper} {Q : Exit → Act → World → Prop} (hQ : ∀ c a w, ¬ Q (.panic c) a w) {j : Nat} {oj : Oper} (hj : ops[j]? = some oj) (hsj : ∀ cs b, oj.op ≠ .select cs b) :
    ∀ {D : List Pre} {K : Act → World → Prop} {a : Act} {w : World}, Off ops oj D → wpOp P ops Q j (fun a' w' => K (putD a' D) w') a w → wpOp P ops Q j K (putD a D) w
  | [], _, _, _, _, h => h
  | d :: D, K, a, w, ho, h => by
    rw [putD]
    exact wpOp_late hj hsj (ho d List.mem_cons_self).1 (ho d List.mem_cons_self).2 (fun c a w hq => (hQ c a w hq).elim) (wpOp_lateD hQ hj hsj ho.tail h)

theorem off_of {ops : Array Oper} (hm : mindsAll ops = true) {j : Nat} {oj : Oper} (hj : ops[j]? = some oj) {D : List Pre} (h : ∀ d ∈ D, ops[d.i]? = some d.o ∧ d.i ≠ j ∧ d.i ∉ waits oj ∧ j ∉ waits d.o) : Off ops oj D := by
  intro d hd
  obtain ⟨h1, h2, h3, h4⟩ := h d hd
  have hap := apart_of hm h1 hj (Ne.symm h2) h3 h4
  obtain ⟨g1, g2, _⟩ := Oper.apart_spec hap
  exact ⟨g1, g2⟩

/-- Readers make no block. -/
theorem reader_no_alloc {o : Op} (h : pureOp P o = true ∨ loadOp P o = true) : allocOp o = false := by
  cases o <;> first | rfl | (rcases h with h | h <;> cases h)

/-- Another ground to stand on: what was foreign stays foreign. -/
structure Under (F : Nat → Prop) (w0 : World) (F' : Nat → Prop) (w1 : World) : Prop where
  sub : ∀ b, F b → F' b
  os : w1.os = w0.os
  tape : w1.tape = w0.tape
  output : w1.output = w0.output
  size : w0.heap.size ≤ w1.heap.size
  old : ∀ b, F b → b < w0.heap.size
  keep : ∀ b, F b → w1.heap[b]? = w0.heap[b]?
  high : ∀ b, F' b → ¬ F b → w0.heap.size ≤ b

theorem Under.back {F' : Nat → Prop} {w1 : World} (hu : Under F w0 F' w1) (h : Rel L F' w1 e s w) (hlow : e.low ≤ w0.heap.size) : Rel L F w0 e s w := by
  refine ⟨h.os.trans hu.os, h.tape.trans hu.tape, h.output.trans hu.output, Nat.le_trans hu.size h.size, hu.old, fun b hb => (h.keep b (hu.sub b hb)).trans (hu.keep b hb), fun id o ho => ?_, h.inj, h.fresh, h.freshc, hlow⟩
  obtain ⟨b, base, cs, t, fr, hb, hw, hF, r⟩ := h.objs id o ho
  exact ⟨b, base, cs, t, fr, hb, hw, ⟨fun hr hc => hF.1 hr (hu.sub b hc), hF.2⟩, r⟩

theorem Under.start (h : Rel L F w0 e s w) : Under F w0 F w0 := ⟨fun _ h => h, rfl, rfl, rfl, Nat.le_refl _, h.old, fun _ _ => rfl, fun b h hn => absurd h hn⟩

/-- A block is made, and is foreign from now on. -/
theorem Rel.guest {F' : Nat → Prop} {w1 : World} (hu : Under F w0 F' w1) (h : Rel L F' w1 e s w) (hlow : e.low ≤ w0.heap.size) (ob : Go.Obj) :
    Under F w0 (fun b => F' b ∨ b = w.heap.size) (w.alloc ob) ∧ Rel L (fun b => F' b ∨ b = w.heap.size) (w.alloc ob) e s (w.alloc ob) := by
  have hback := hu.back h hlow
  have hlt : ∀ b, b < w.heap.size → (w.alloc ob).heap[b]? = w.heap[b]? := fun b hb => by
    show (w.heap.push ob)[b]? = _
    rw [Array.getElem?_push, if_neg (by omega)]
  have hsz : (w.alloc ob).heap.size = w.heap.size + 1 := Array.size_push _
  refine ⟨⟨fun b hb => .inl (hu.sub b hb), hback.os, hback.tape, hback.output, by rw [hsz]; have := hback.size; omega, hu.old, fun b hb => ?_, fun b hb hn => ?_⟩, ?_⟩
  · have h1 := hu.old b hb
    have h2 := hback.size
    rw [hlt b (by omega), hback.keep b hb]
  · rcases hb with hb | rfl
    · exact hu.high b hb hn
    · exact hback.size
  · refine ⟨rfl, rfl, rfl, Nat.le_refl _, fun b hb => ?_, fun _ _ => rfl, fun id o ho => ?_, h.inj, h.fresh, h.freshc, by have := hback.size; omega⟩
    · rw [hsz]
      rcases hb with hb | rfl
      · have := h.old b hb
        have := h.size
        omega
      · omega
    · obtain ⟨b, base, cs, t, fr, hb, hw, hF, r⟩ := h.objs id o ho
      have hbl := (Array.getElem?_eq_some_iff.1 hw).1
      exact ⟨b, base, cs, t, fr, hb, by rw [hlt b hbl]; exact hw, ⟨fun hr hc => by
        rcases hc with hc | hc
        · exact hF.1 hr hc
        · omega, hF.2⟩, r⟩

/-- A foreign block becomes the reckoner's own: its new row lies there. -/
theorem Rel.adopt {F' : Nat → Prop} {w1 : World} (h : Rel L F' w1 e s w) {cs : List V} {xs : List Value} {t : TypeId} {b : Nat} (hn : X.newRow cs s = some s') (hxs : il L e cs = some xs) (hF : F' b) (hw : w1.heap[b]? = some (.cells xs.toArray t)) (hlow : e.low ≤ b) :
    ∃ e', Ext e e' s s' ∧ e'.blk s.nid = some (b, 0) ∧ Rel L (fun x => F' x ∧ x ≠ b) w1 e' s' w := by
  obtain ⟨ct, hct, hn⟩ := bnd_some.1 hn
  obtain ⟨nid, hnid, hn⟩ := bnd_some.1 hn
  cases hn
  have hfr := h.fresh s.nid (Nat.le_refl _)
  have hle := Env.le_setBlk (q := (b, 0)) hfr
  have hweak : Rel L (fun x => F' x ∧ x ≠ b) w1 e s w := by
    refine ⟨h.os, h.tape, h.output, h.size, fun x hx => h.old x hx.1, fun x hx => h.keep x hx.1, fun id o ho => ?_, h.inj, h.fresh, h.freshc, h.low⟩
    obtain ⟨b', base, cs', t', fr, hb, hw, hF, r⟩ := h.objs id o ho
    exact ⟨b', base, cs', t', fr, hb, hw, ⟨fun hr hc => hF.1 hr hc.1, hF.2⟩, r⟩
  have hwb : w.heap[b]? = some (.cells xs.toArray t) := by rw [h.keep b hF]; exact hw
  refine ⟨e.setBlk s.nid (b, 0), ⟨hle, by have := next_num hnid; simp only; omega, Nat.le_refl _⟩, by simp [Env.setBlk], ?_⟩
  refine hweak.add hnid hfr h.freshc (fun id o' q ho' hq hbb => ?_) ⟨b, 0, xs.toArray, t, (0, 0), by simp [Env.setBlk], hwb, ⟨fun _ hc => hc.2 rfl, fun h => (by cases h)⟩, fun _ => .inl rfl, ⟨fun hl => (by cases hl), fun h => absurd rfl h⟩, fun k v hv => ?_⟩
  · obtain ⟨b', base, cs', t', fr, hb, _, hF', _⟩ := h.objs id o' ho'
    rw [hb] at hq; cases hq
    have hbb : b' = b := hbb
    cases hro : o'.ro with
    | false => exact hF'.1 hro (hbb ▸ hF)
    | true =>
      have := hF'.2 hro
      omega
  · simp only at hv
    rw [cellsOf_get hct] at hv
    obtain ⟨x, hx, hx'⟩ := il_get (il_mono hle _ _ hxs) k v hv
    exact ⟨x, by simpa using hx, hx'⟩

end Go.X

/-
  A region that draws its order: what fits a place of the plan; a reader's turn.
-/
namespace Go.X
open Go.RowKit
set_option linter.unusedSimpArgs false
set_option linter.unusedVariables false

variable {L : Nat → Value} {F : Nat → Prop} {w0 w : World} {e e' : Env} {s s' : St} {P : Program}

/-- What was done ahead is as the plan will have it. -/
def PreOk (L : Nat → Value) (c : Cfg) (ops : Array Oper) (Lm : Nat) (e : Env) (tm : Tm) (F' : Nat → Prop) (w1 : World) (d : Pre) : Prop :=
  ops[d.i]? = some d.o ∧ Lm.testBit d.i = false ∧ (∀ k ∈ waits d.o, Lm.testBit k = true) ∧ allocOp d.o.op = true ∧
  (match d.blk with
   | none => want (stageG ops d.o) tm = some false ∧ d.val = Go.undef
   | some (b, xs, t) => want (stageG ops d.o) tm = some true ∧ F' b ∧ w1.heap[b]? = some (.cells xs.toArray t) ∧ ∃ f hh r, stage1 c d.o.op = some (.run f) ∧ Makes L c d.o.op f hh ∧ hh tm = some r ∧ il L e r.1 = some xs ∧
       ∀ e' id, e'.blk id = some (b, 0) → iv L e' (r.2 id) = some d.val)

/-- What fits a place of the plan. -/
structure Fit (L : Nat → Value) (F : Nat → Prop) (w0 : World) (c : Cfg) (N : Nat) (ops : Array Oper) (cells : List RdK) (loads : Nat) (e0 : Env) (s0 : St) (wst : World)
    (r : List (Nat × Bool)) (Lm : Nat) (e : Env) (s : St) (tm : Tm) (D : List Pre) (F' : Nat → Prop) (w1 : World) (a0 : Act) (w : World) (listed : Array Bool) : Prop where
  frame : ARel L e tm N a0
  rel : Rel L F' w1 e s w
  under : Under F w0 F' w1
  grow : wst.heap.size ≤ w1.heap.size
  ext : Ext e0 e s0 s
  closed : Closed ops listed
  mask : ∀ k, k < ops.size → (listed.getD k true = true ↔ Lm.testBit k = true ∨ ∃ d ∈ D, d.i = k)
  keeps : (∃ i, (i, true) ∈ r ∧ loads.testBit i = true) → AgreeAll L e0 cells wst w
  pres : ∀ d ∈ D, PreOk L c ops Lm e tm F' w1 d
  own : ∀ d ∈ D, ∀ b q, d.blk = some (b, q) → ¬ F b
  uniq : D.Pairwise fun d d' => d.i ≠ d'.i ∧ ∀ b q b' q', d.blk = some (b, q) → d'.blk = some (b', q') → b ≠ b'
  low : e.low ≤ w0.heap.size

/-- What was done ahead does not mind another one's slot. -/
theorem PreOk.put {c : Cfg} {N : Nat} {ops : Array Oper} (hm : mindsAll ops = true) {Lm : Nat} {tm : Tm} {F' : Nat → Prop} {w1 : World} {d : Pre} (h : PreOk L c ops Lm e tm F' w1 d) {j : Nat} {oj : Oper} (hj : ops[j]? = some oj) (hne : d.i ≠ j)
    (h1 : Lm.testBit j = false) (h2 : d.i ∉ waits oj) (hd : dstOk N oj.dst = true) (hgo : guardOk ops d.o = true) (v : V) (hle : Le e e') : PreOk L c ops (Lm ||| bit j) e' ((dstOf oj.dst).put v tm) F' w1 d := by
  obtain ⟨g1, g2, g3, g4, g5⟩ := h
  have hnot : ∀ t, t ∈ d.o.looksAt ops → oj.dst ≠ some t := fun t ht hdt => by
    rcases minds_spec hm g1 hj hdt ht with hk | hk
    · rw [g3 j hk] at h1; cases h1
    · exact h2 hk
  have hwant : want (stageG ops d.o) ((dstOf oj.dst).put v tm) = want (stageG ops d.o) tm := by
    unfold stageG
    unfold guardOk at hgo
    split
    · rfl
    · rename_i g wn hg
      rw [hg] at hgo
      simp only at hgo
      split
      · rename_i t ht
        rw [ht] at hgo
        simp only at hgo
        unfold want
        simp only [sel_eq]
        rw [if_neg (by decide), if_neg (by decide), if_neg (by decide), if_neg (by decide)]
        unfold tget
        rw [put_other hd (blt_true.1 hgo) (hnot t (by
          unfold Oper.looksAt
          rw [hg]
          simp only [List.mem_append]
          right
          rw [ht]
          simp))]
      · rfl
  refine ⟨g1, ?_, fun k hk => bit_or.2 (.inl (g3 k hk)), g4, ?_⟩
  · rw [Bool.eq_false_iff]
    intro hc
    rcases bit_or.1 hc with hc | hc
    · rw [g2] at hc; cases hc
    · exact hne hc.symm
  · rw [hwant]
    revert g5
    cases d.blk with
    | none => exact fun g5 => g5
    | some q =>
      obtain ⟨b, xs, t⟩ := q
      rintro ⟨k1, k2, k3, f, hh, r, k4, k5, k6, k7, k8⟩
      refine ⟨k1, k2, k3, f, hh, r, k4, k5, ?_, il_mono hle _ _ k7, k8⟩
      rw [← k6]
      refine k5.congr _ _ fun t ht htl => put_other hd ht (hnot t ?_)
      unfold Oper.looksAt
      rw [List.mem_append]
      left
      exact List.mem_filterMap.2 ⟨.tmp t, htl, rfl⟩

end Go.X

/-
  A reader's turn.
-/
namespace Go.X
open Go.RowKit
set_option linter.unusedSimpArgs false
set_option linter.unusedVariables false

variable {L : Nat → Value} {F : Nat → Prop} {w0 w : World} {e e' : Env} {s s' : St} {P : Program}

theorem getD_ft {listed : Array Bool} {k : Nat} (hk : k < listed.size) (h : listed.getD k true = true) : listed.getD k false = true := by
  rw [Array.getD_eq_getD_getElem?, Array.getElem?_eq_getElem hk] at h ⊢
  simpa using h

/-- **A reader of the plan.** -/
theorem reader_case (hL : Leafy L) {c : Cfg} (hF : FactsOk L c.facts) {N : Nat} {ops : Array Oper} (hns : Region.noSelect ops = true) (hm : mindsAll ops = true) {Q : Exit → Act → World → Prop} (hQ : ∀ ch a w, ¬ Q (.panic ch) a w)
    {cells : List RdK} {loads : Nat} {e0 : Env} {s0 : St} {wst : World} {r : List (Nat × Bool)} {Lm : Nat} {tm : Tm} {D : List Pre} {F' : Nat → Prop} {w1 : World} {a0 : Act} {listed : Array Bool} {fuel : Nat}
    {i : Nat} {o : Oper} {x : XO} {call : CallF} {tm1 : Tm} {s1 : St}
    (hfit : Fit L F w0 c N ops cells loads e0 s0 wst ((i, true) :: r) Lm e s tm D F' w1 a0 w listed)
    (ho : ops[i]? = some o) (hrd : pureOp c.P o.op = true ∨ loadOp c.P o.op = true) (hiu : Lm.testBit i = false) (hw : ∀ k ∈ waits o, Lm.testBit k = true) (hws : ∀ k ∈ waits o, k < ops.size)
    (hx : stage3 c N ops o = some x) (hgo : x.go call tm s = some (tm1, s1))
    (hcells : loadOp c.P o.op = true → ∀ k, reads c.P o.op tm s = some k → want x.guard tm = some true → k ∈ cells)
    (hload : loadOp c.P o.op = true → loads.testBit i = true) (hstood : ∀ k ∈ cells, ∃ q, e0.blk k.1 = some q ∧ q.1 < wst.heap.size) (hguards : ∀ d ∈ D, guardOk ops d.o = true)
    (next : ∀ a0', s1 = s → Fit L F w0 c N ops cells loads e0 s0 wst r (Lm ||| bit i) e s tm1 D F' w1 a0' w (listed.setIfInBounds i true) →
      wpAnyS c.P ops Q (lookOf ops loads) (AgreeAll L e0 cells wst) fuel (listed.setIfInBounds i true) (putD a0' D) w) :
    wpAnyS c.P ops Q (lookOf ops loads) (AgreeAll L e0 cells wst) (fuel + 1) listed (putD a0 D) w := by
  have hilt : i < ops.size := (Array.getElem?_eq_some_iff.1 ho).1
  have hkeep : loadOp c.P o.op = true → AgreeAll L e0 cells wst w := fun hlo => hfit.keeps ⟨i, List.mem_cons_self, hload hlo⟩
  obtain ⟨hd, hs1, v, xv, htm, hxv, hy⟩ := reader_step hL hF hrd hx hfit.frame hfit.rel hgo (T := fun w' => loadOp c.P o.op = true → AgreeAll L e0 cells wst w') (fun hlo k hk hwant w' hT q hq j hj => by
    have hmem := hcells hlo k hk hwant
    obtain ⟨q0, hq0, _⟩ := hstood k hmem
    have hq1 := hfit.ext.le.blk _ _ hq0
    rw [hq] at hq1
    cases hq1
    rw [hT hlo k hmem q hq0 j hj, hkeep hlo k hmem q hq0 j hj])
  have hne : ∀ d ∈ D, d.i ≠ i := fun d hdD hdi => by
    obtain ⟨g1, _, _, g4, _⟩ := hfit.pres d hdD
    rw [hdi, ho] at g1
    cases g1
    rw [reader_no_alloc hrd] at g4
    cases g4
  have hnw : ∀ d ∈ D, d.i ∉ waits o := fun d hdD hk => by
    obtain ⟨_, g2, _⟩ := hfit.pres d hdD
    rw [hw _ hk] at g2
    cases g2
  have hoff : Off ops o D := off_of hm ho fun d hdD => by
    obtain ⟨g1, g2, g3, _⟩ := hfit.pres d hdD
    exact ⟨g1, hne d hdD, hnw d hdD, fun hk => by rw [g3 _ hk] at hiu; cases hiu⟩
  have hsel := Region.noSelect_spec hns
  have hy' : YieldsIf c.P ops (fun w' => loadOp c.P o.op = true → AgreeAll L e0 cells wst w') o xv (putD a0 D) := hy.of_same (execOp_putD (fun cs b => hsel i o cs b ho) a0 hoff) (wanted_putD a0 hoff)
  have hun : listed.getD i true = false := by
    rw [Bool.eq_false_iff]
    intro hc
    rcases (hfit.mask i hilt).1 hc with h | ⟨d, hdD, h⟩
    · rw [hiu] at h; cases h
    · exact hne d hdD h
  have hready : i ∈ Region.ready .any ops listed := ready_iff.2 ⟨hun, o, ho, fun k hk => getD_ft (by rw [hfit.closed.1]; exact hws k hk) ((hfit.mask k (hws k hk)).2 (.inl (hw k hk)))⟩
  refine wpAnyS_first (T := fun w' => loadOp c.P o.op = true → AgreeAll L e0 cells wst w') ho hsel (fun ch a w h => (hQ _ _ _ h).elim) (Closed ops) (fun j listed hI hj => hI.step hj)
    (fun j listed w w' hI hj hji hiu' hTw hlk hlo => hlk ⟨listed, hI, hj, i, hload hlo, hiu'⟩ (hTw hlo)) fuel listed (putD a0 D) w hfit.closed
    (fun j oj hoj hji hju hno => apart_of hm ho hoj hji (fun hk => by
      obtain ⟨ed, hed, hb, hon⟩ := mem_waits.1 hk
      exact hno ed hed hb hon) (fun hk => by
      have := (hfit.mask j (hws j hk)).2 (.inl (hw j hk))
      rw [hju] at this; cases this)) hready hy' hkeep ?_
  rw [putD_put a0 xv hoff]
  refine next _ hs1 ⟨?_, hfit.rel, hfit.under, hfit.grow, hfit.ext, hfit.closed.step hready, fun k hk => ?_, fun ⟨j, hj, hl⟩ => hfit.keeps ⟨j, List.mem_cons_of_mem _ hj, hl⟩, fun d hdD => ?_, hfit.own, hfit.uniq, hfit.low⟩
  · rw [htm]
    exact dst_put hd hfit.frame hxv
  · by_cases hik : i = k
    · subst hik
      rw [Array.getD_eq_getD_getElem?, Array.getElem?_setIfInBounds_self_of_lt (by rw [hfit.closed.1]; exact hilt)]
      exact ⟨fun _ => .inl (bit_or.2 (.inr rfl)), fun _ => rfl⟩
    · rw [getD_set_ne true hik, hfit.mask k hk, bit_or]
      constructor
      · rintro (h | h)
        · exact .inl (.inl h)
        · exact .inr h
      · rintro ((h | h) | h)
        · exact .inl h
        · exact absurd h hik
        · exact .inr h
  · rw [htm]
    exact (hfit.pres d hdD).put hm ho (hne d hdD) hiu (hnw d hdD) hd (hguards d hdD) v (Le.refl e)

end Go.X

/-
  A block that is made ahead of the plan.
-/
namespace Go.X
open Go.RowKit
set_option linter.unusedSimpArgs false
set_option linter.unusedVariables false

variable {L : Nat → Value} {F : Nat → Prop} {w0 w : World} {e e' : Env} {s s' : St} {P : Program}

theorem alloc_agree {cells : List RdK} {e0 : Env} {wst : World} (hstood : ∀ k ∈ cells, ∃ q, e0.blk k.1 = some q ∧ q.1 < wst.heap.size) (hg : wst.heap.size ≤ w.heap.size) (h : AgreeAll L e0 cells wst w) (ob : Go.Obj) : AgreeAll L e0 cells wst (w.alloc ob) := by
  intro k hk q hq i hi
  obtain ⟨q0, hq0, hlt⟩ := hstood k hk
  rw [hq] at hq0
  cases hq0
  rw [← h k hk q hq i hi]
  have : (w.alloc ob).heap[q.1]? = w.heap[q.1]? := by
    show (w.heap.push ob)[q.1]? = _
    rw [Array.getElem?_push, if_neg (by omega)]
  simp only [World.cell?, this]

/-- What the later run tells of its guard. -/
theorem go_want {c : Cfg} {N : Nat} {ops : Array Oper} {o : Oper} {x : XO} {call : CallF} {tm : Tm} {t2 : Tm × St} (h : stage3 c N ops o = some x) (hgo : x.go call tm s = some t2) :
    guardOk ops o = true ∧ ∃ b g, want (stageG ops o) tm = some b ∧ stage2 c (dstOf o.dst) o.op = some g ∧ (b = true → g call tm s = some t2) ∧ (b = false → t2 = ((dstOf o.dst).put X.undef tm, s)) := by
  obtain ⟨hok, h⟩ := chk_some.1 h
  obtain ⟨g, hg, h⟩ := bnd_some.1 h
  cases h
  obtain ⟨_, hgd⟩ := band_true.1 hok
  refine ⟨hgd, ?_⟩
  simp only at hgo
  rw [sel_eq] at hgo
  split at hgo
  · rename_i h0
    exact ⟨true, g, by unfold want; rw [sel_eq, if_pos h0], hg, fun _ => hgo, fun h => (by cases h)⟩
  · obtain ⟨b, hb, hgo⟩ := bnd_some.1 hgo
    exact ⟨b, g, hb, hg, fun hbt => (by subst hbt; exact hgo), fun hbf => (by subst hbf; exact (Option.some.inj hgo).symm)⟩

/-- A guard looks at its slot alone. -/
theorem want_congr {ops : Array Oper} {o : Oper} (hgd : guardOk ops o = true) {tm tm' : Tm} (h : ∀ t, t < 512 → t ∈ o.looksAt ops → tmGet (path t) tm = tmGet (path t) tm') : want (stageG ops o) tm = want (stageG ops o) tm' := by
  unfold stageG
  unfold guardOk at hgd
  split
  · rfl
  · rename_i g wn hg
    rw [hg] at hgd
    simp only at hgd
    split
    · rename_i t ht
      rw [ht] at hgd
      simp only at hgd
      unfold want
      simp only [sel_eq]
      rw [if_neg (by decide), if_neg (by decide), if_neg (by decide), if_neg (by decide)]
      unfold tget
      rw [h t (blt_true.1 hgd) (by
        unfold Oper.looksAt
        rw [hg]
        simp only [List.mem_append]
        right
        rw [ht]
        simp)]
    · rfl

/-- **One that but makes a block, ahead of the plan.** -/
theorem ahead_case (hL : Leafy L) {c : Cfg} {N : Nat} {ops : Array Oper} (hns : Region.noSelect ops = true) (hm : mindsAll ops = true) {Q : Exit → Act → World → Prop}
    {cells : List RdK} {loads : Nat} {e0 : Env} {s0 : St} {wst : World} {r : List (Nat × Bool)} {Lm : Nat} {tm : Tm} {D : List Pre} {F' : Nat → Prop} {w1 : World} {a0 : Act} {listed : Array Bool}
    {j : Nat} {oj : Oper} {x : XO} {call : CallF} {tm1 : Tm} {s1 : St} {t2 : Tm × St} {K : Act → World → Prop}
    (hfit : Fit L F w0 c N ops cells loads e0 s0 wst r Lm e s tm D F' w1 a0 w listed)
    (hj : ops[j]? = some oj) (hal : allocOp oj.op = true) (hju : Lm.testBit j = false) (hjw : ∀ k ∈ waits oj, Lm.testBit k = true) (hready : j ∈ Region.ready .any ops listed)
    (hx : stage3 c N ops oj = some x) (hgo : x.go call tm1 s1 = some t2) (hsame : ∀ t, t < 512 → t ∈ oj.looksAt ops → tmGet (path t) tm1 = tmGet (path t) tm)
    (hstood : ∀ k ∈ cells, ∃ q, e0.blk k.1 = some q ∧ q.1 < wst.heap.size)
    (next : ∀ d F2 w2 w', d.i = j → d.o = oj → (AgreeAll L e0 cells wst w → AgreeAll L e0 cells wst w') → Fit L F w0 c N ops cells loads e0 s0 wst r Lm e s tm (d :: D) F2 w2 a0 w' (listed.setIfInBounds j true) → K (putD a0 (d :: D)) w') :
    wpOp c.P ops Q j K (putD a0 D) w := by
  obtain ⟨hun, _⟩ := ready_iff.1 hready
  have hjlt : j < ops.size := (Array.getElem?_eq_some_iff.1 hj).1
  have hnotD : ∀ d ∈ D, d.i ≠ j := fun d hd hdj => by
    have := (hfit.mask j hjlt).2 (.inr ⟨d, hd, hdj⟩)
    rw [hun] at this; cases this
  have hsel := Region.noSelect_spec hns
  have hoff : Off ops oj D := off_of hm hj fun d hd => by
    obtain ⟨g1, g2, g3, _⟩ := hfit.pres d hd
    exact ⟨g1, hnotD d hd, fun hk => (by rw [hjw _ hk] at g2; cases g2), fun hk => (by rw [g3 _ hk] at hju; cases hju)⟩
  obtain ⟨hgd, b, g, hb, hg, hrun, _⟩ := go_want hx hgo
  have hwant : want (stageG ops oj) tm = some b := by rw [← want_congr hgd hsame]; exact hb
  have hwanted := want_sound hgd hfit.frame hwant
  have hwanted' : Region.wanted oj (yielded ops (putD a0 D).tmps) = b := by rw [wanted_putD a0 hoff]; exact hwanted
  have hmask : ∀ (d : Pre), d.i = j → ∀ k, k < ops.size → ((listed.setIfInBounds j true).getD k true = true ↔ Lm.testBit k = true ∨ ∃ d' ∈ d :: D, d'.i = k) := fun d hdj k hk => by
    by_cases hjk : j = k
    · subst hjk
      rw [Array.getD_eq_getD_getElem?, Array.getElem?_setIfInBounds_self_of_lt (by rw [hfit.closed.1]; exact hjlt)]
      exact ⟨fun _ => .inr ⟨d, List.mem_cons_self, hdj⟩, fun _ => rfl⟩
    · rw [getD_set_ne true hjk, hfit.mask k hk]
      constructor
      · rintro (h | ⟨d', hd', h⟩)
        · exact .inl h
        · exact .inr ⟨d', List.mem_cons_of_mem _ hd', h⟩
      · rintro (h | ⟨d', hd', h⟩)
        · exact .inl h
        · rcases List.mem_cons.1 hd' with rfl | hd'
          · exact absurd (hdj.symm.trans h) hjk
          · exact .inr ⟨d', hd', h⟩
  unfold wpOp
  simp only [hj]
  cases b with
  | false =>
    rw [hwanted']
    simp only [Bool.false_eq_true, if_false]
    exact next ⟨j, oj, Go.undef, none⟩ F' w1 w rfl rfl (fun h => h) ⟨hfit.frame, hfit.rel, hfit.under, hfit.grow, hfit.ext, hfit.closed.step hready, hmask _ rfl, hfit.keeps, fun d hd => by
      rcases List.mem_cons.1 hd with rfl | hd
      · exact ⟨hj, hju, hjw, hal, hwant, rfl⟩
      · exact hfit.pres d hd, fun d hd b q hb => (by
        rcases List.mem_cons.1 hd with rfl | hd
        · cases hb
        · exact hfit.own d hd b q hb), List.pairwise_cons.2 ⟨fun d hd => ⟨fun h => hnotD d hd h.symm, fun b q b' q' hb => by cases hb⟩, hfit.uniq⟩, hfit.low⟩
  | true =>
    rw [hwanted']
    simp only [if_true]
    left
    obtain ⟨kd, hkd, hgk⟩ := stage2_plain (fun k hk => by rw [hk] at hal; cases hal) hg
    obtain ⟨f, hh, rfl, hmk⟩ := makes_of hL hal hkd
    simp only at hgk
    have hgo' := hrun rfl
    rw [← hgk] at hgo'
    obtain ⟨q, hq, _⟩ := bnd_some.1 hgo'
    have hq : f tm1 s1 = some q := hq
    rw [hmk.run] at hq
    obtain ⟨rr, hrr, _⟩ := bnd_some.1 hq
    have hcong : hh tm1 = hh tm := hmk.congr _ _ fun t ht htl => hsame t ht (by
      unfold Oper.looksAt
      rw [List.mem_append]
      left
      exact List.mem_filterMap.2 ⟨.tmp t, htl, rfl⟩)
    rw [hcong] at hrr
    obtain ⟨xs, t, X, hxs, hX, hexec⟩ := hmk.sem e tm N a0 rr hfit.frame hrr
    unfold Oper.wp
    rw [execOp_putD (fun cs b => hsel j oj cs b hj) a0 hoff, hexec oj rfl w]
    have hws : w1.heap.size ≤ w.heap.size := hfit.rel.size
    obtain ⟨hu2, hr2⟩ := hfit.rel.guest hfit.under hfit.low (.cells xs.toArray t)
    have hsz : (w.alloc (.cells xs.toArray t)).heap.size = w.heap.size + 1 := Array.size_push _
    refine next ⟨j, oj, X w.heap.size, some (w.heap.size, xs, t)⟩ _ _ _ rfl rfl (fun h => alloc_agree hstood (Nat.le_trans hfit.grow hws) h _)
      ⟨hfit.frame, hr2, hu2, by rw [hsz]; have := hfit.grow; omega, hfit.ext, hfit.closed.step hready, hmask _ rfl, fun h => alloc_agree hstood (Nat.le_trans hfit.grow hws) (hfit.keeps h) _, fun d hd => ?_, fun d hd b q hb => (by
        rcases List.mem_cons.1 hd with rfl | hd
        · cases hb
          intro hFb
          have h1 := hfit.under.old _ hFb
          have h2 := hfit.under.size
          omega
        · exact hfit.own d hd b q hb), List.pairwise_cons.2 ⟨fun d hd => ⟨fun h => hnotD d hd h.symm, fun b q b' q' hb hb' => ?_⟩, hfit.uniq⟩, hfit.low⟩
    rcases List.mem_cons.1 hd with rfl | hd
    · refine ⟨hj, hju, hjw, hal, hwant, .inr rfl, ?_, f, hh, rr, hkd, hmk, hrr, hxs, fun e' id he => hX e' id _ he⟩
      show (w.heap.push _)[w.heap.size]? = _
      simp
    · obtain ⟨g1, g2, g3, g4, g5⟩ := hfit.pres d hd
      refine ⟨g1, g2, g3, g4, ?_⟩
      revert g5
      cases d.blk with
      | none => exact fun g5 => g5
      | some q =>
        obtain ⟨bb, xs', t'⟩ := q
        rintro ⟨k1, k2, k3, k4⟩
        refine ⟨k1, .inl k2, ?_, k4⟩
        have hlt := hfit.rel.old bb k2
        show (w.heap.push _)[bb]? = _
        rw [Array.getElem?_push, if_neg (by omega), hfit.rel.keep bb k2]
        exact k3
    · cases hb
      obtain ⟨_, _, _, _, g5⟩ := hfit.pres d hd
      rw [hb'] at g5
      obtain ⟨bb, tt⟩ := q'
      obtain ⟨_, k2, _⟩ := g5
      have := hfit.rel.old _ k2
      omega

theorem putD_move {ops : Array Oper} {d : Pre} (a : Act) : ∀ {A B : List Pre}, Off ops d.o (A ++ B) → putD a (A ++ d :: B) = putD (a.put d.o.dst d.val) (A ++ B)
  | [], B, h => by
    show (putD a B).put d.o.dst d.val = _
    exact putD_put a d.val h
  | x :: A, B, h => by
    show (putD a (A ++ d :: B)).put x.o.dst x.val = (putD (a.put d.o.dst d.val) (A ++ B)).put x.o.dst x.val
    rw [putD_move a (A := A) (B := B) (Off.tail h)]

end Go.X

/-
  The plan comes to an operation that was done ahead.
-/
namespace Go.X
open Go.RowKit
set_option linter.unusedSimpArgs false
set_option linter.unusedVariables false

variable {L : Nat → Value} {F : Nat → Prop} {w0 w : World} {e e' : Env} {s s' : St} {P : Program}

theorem PreOk.other {c : Cfg} {ops : Array Oper} {Lm : Nat} {tm : Tm} {F' F2 : Nat → Prop} {w1 : World} {d : Pre} (h : PreOk L c ops Lm e tm F' w1 d) (hF : ∀ b q, d.blk = some (b, q) → F' b → F2 b) : PreOk L c ops Lm e tm F2 w1 d := by
  obtain ⟨g1, g2, g3, g4, g5⟩ := h
  refine ⟨g1, g2, g3, g4, ?_⟩
  cases hd : d.blk with
  | none => rw [hd] at g5; exact g5
  | some q =>
    rw [hd] at g5
    obtain ⟨b, xs, t⟩ := q
    obtain ⟨k1, k2, k3⟩ := g5
    exact ⟨k1, hF b _ hd k2, k3⟩

theorem adopt_case (hL : Leafy L) {c : Cfg} {N : Nat} {ops : Array Oper} (hm : mindsAll ops = true)
    {cells : List RdK} {loads : Nat} {e0 : Env} {s0 : St} {wst : World} {r : List (Nat × Bool)} {Lm : Nat} {tm : Tm} {A B : List Pre} {d : Pre} {F' : Nat → Prop} {w1 : World} {a0 : Act} {listed : Array Bool}
    {x : XO} {call : CallF} {tm1 : Tm} {s1 : St}
    (hfit : Fit L F w0 c N ops cells loads e0 s0 wst ((d.i, false) :: r) Lm e s tm (A ++ d :: B) F' w1 a0 w listed) (hguards : ∀ d' ∈ A ++ B, guardOk ops d'.o = true)
    (hx : stage3 c N ops d.o = some x) (hgo : x.go call tm s = some (tm1, s1)) :
    ∃ e' F2 a1, putD a0 (A ++ d :: B) = putD a1 (A ++ B) ∧ Fit L F w0 c N ops cells loads e0 s0 wst r (Lm ||| bit d.i) e' s1 tm1 (A ++ B) F2 w1 a1 w listed := by
  have hdm : d ∈ A ++ d :: B := by simp
  have hsub : ∀ d' ∈ A ++ B, d' ∈ A ++ d :: B := fun d' hd' => by
    rcases List.mem_append.1 hd' with h | h
    · exact List.mem_append.2 (.inl h)
    · exact List.mem_append.2 (.inr (List.mem_cons_of_mem _ h))
  have huniq : ∀ d' ∈ A ++ B, d'.i ≠ d.i ∧ ∀ b q b' q', d.blk = some (b, q) → d'.blk = some (b', q') → b' ≠ b := fun d' hd' => by
    have hp := List.pairwise_append.1 hfit.uniq
    rcases List.mem_append.1 hd' with h | h
    · obtain ⟨h1, h2⟩ := hp.2.2 d' h d List.mem_cons_self
      exact ⟨h1, fun b q b' q' hb hb' => h2 b' q' b q hb' hb⟩
    · obtain ⟨h1, h2⟩ := (List.pairwise_cons.1 hp.2.1).1 d' h
      exact ⟨Ne.symm h1, fun b q b' q' hb hb' => Ne.symm (h2 b q b' q' hb hb')⟩
  obtain ⟨g1, g2, g3, g4, g5⟩ := hfit.pres d hdm
  have hnw : ∀ d' ∈ A ++ B, d'.i ∉ waits d.o := fun d' hd' hk => by
    obtain ⟨_, k2, _⟩ := hfit.pres d' (hsub d' hd')
    rw [g3 _ hk] at k2; cases k2
  have hoff : Off ops d.o (A ++ B) := off_of hm g1 fun d' hd' => by
    obtain ⟨k1, k2, k3, _⟩ := hfit.pres d' (hsub d' hd')
    exact ⟨k1, (huniq d' hd').1, hnw d' hd', fun hk => (by rw [k3 _ hk] at g2; cases g2)⟩
  obtain ⟨hdk, _⟩ := stage3_put hx hgo
  obtain ⟨hgd, b, g, hb, hg, hrun, hskip⟩ := go_want hx hgo
  have hmask : ∀ k, k < ops.size → (listed.getD k true = true ↔ (Lm ||| bit d.i).testBit k = true ∨ ∃ d' ∈ A ++ B, d'.i = k) := fun k hk => by
    rw [hfit.mask k hk, bit_or]
    constructor
    · rintro (h | ⟨d', hd', h⟩)
      · exact .inl (.inl h)
      · rcases List.mem_append.1 hd' with hd' | hd'
        · exact .inr ⟨d', List.mem_append.2 (.inl hd'), h⟩
        · rcases List.mem_cons.1 hd' with rfl | hd'
          · exact .inl (.inr h)
          · exact .inr ⟨d', List.mem_append.2 (.inr hd'), h⟩
    · rintro ((h | h) | ⟨d', hd', h⟩)
      · exact .inl h
      · exact .inr ⟨d, hdm, h⟩
      · exact .inr ⟨d', hsub d' hd', h⟩
  have hkeeps : (∃ i, (i, true) ∈ r ∧ loads.testBit i = true) → AgreeAll L e0 cells wst w := fun ⟨i, hi, hl⟩ => hfit.keeps ⟨i, List.mem_cons_of_mem _ hi, hl⟩
  have hun2 : (A ++ B).Pairwise fun d d' => d.i ≠ d'.i ∧ ∀ b q b' q', d.blk = some (b, q) → d'.blk = some (b', q') → b ≠ b' :=
    hfit.uniq.sublist (List.Sublist.append (List.Sublist.refl A) (List.sublist_cons_self d B))
  cases hblk : d.blk with
  | none =>
    rw [hblk] at g5
    obtain ⟨k1, k2⟩ := g5
    rw [k1] at hb
    cases hb
    have := hskip rfl
    cases this
    refine ⟨e, F', a0.put d.o.dst d.val, putD_move a0 hoff, ⟨?_, hfit.rel, hfit.under, hfit.grow, hfit.ext, hfit.closed, hmask, hkeeps, fun d' hd' => ?_, fun d' hd' => hfit.own d' (hsub d' hd'), hun2, hfit.low⟩⟩
    · rw [k2]
      exact dst_put hdk hfit.frame iv_undef
    · exact (hfit.pres d' (hsub d' hd')).put hm g1 (huniq d' hd').1 g2 (hnw d' hd') hdk (hguards d' hd') X.undef (Le.refl e)
  | some q =>
    rw [hblk] at g5
    obtain ⟨bb, xs, t⟩ := q
    obtain ⟨k1, k2, k3, f, hh, rr, k4, k5, k6, k7, k8⟩ := g5
    rw [k1] at hb
    cases hb
    have hgo' := hrun rfl
    obtain ⟨kd, hkd, hgk⟩ := stage2_plain (fun k hk => by rw [hk] at g4; cases g4) hg
    rw [k4] at hkd
    cases hkd
    simp only at hgk
    rw [← hgk] at hgo'
    obtain ⟨q, hq, hfin⟩ := bnd_some.1 hgo'
    have hq : f tm s = some q := hq
    rw [k5.run, k6] at hq
    obtain ⟨s2, hs2, hq⟩ := bnd_some.1 (show (newRow rr.1 s).bnd (fun s' => some (rr.2 s.nid, s')) = some q from hq)
    cases hq
    cases hfin
    obtain ⟨e1, hext, hblk1, hrel⟩ := hfit.rel.adopt hs2 k7 k2 k3 (Nat.le_trans hfit.low (hfit.under.high _ k2 (hfit.own d hdm _ _ hblk)))
    refine ⟨e1, _, a0.put d.o.dst d.val, putD_move a0 hoff, ⟨dst_put hdk (hfit.frame.mono hext.le) (k8 e1 _ hblk1), hrel,
      ⟨fun b hFb => ⟨hfit.under.sub b hFb, fun hbb => hfit.own d hdm _ _ hblk (hbb ▸ hFb)⟩, hfit.under.os, hfit.under.tape, hfit.under.output, hfit.under.size, hfit.under.old, hfit.under.keep, fun b hb hn => hfit.under.high b hb.1 hn⟩, hfit.grow, hfit.ext.trans hext, hfit.closed, hmask, hkeeps,
      fun d' hd' => ?_, fun d' hd' => hfit.own d' (hsub d' hd'), hun2, by rw [hext.le.low]; exact hfit.low⟩⟩
    refine PreOk.other (F' := F') ((hfit.pres d' (hsub d' hd')).put hm g1 (huniq d' hd').1 g2 (hnw d' hd') hdk (hguards d' hd') _ hext.le) fun b' q' hb' hF' => ⟨hF', ?_⟩
    exact (huniq d' hd').2 _ _ _ _ hblk hb'

end Go.X

/-
  Regions that draw their order.
-/
namespace Go.X
open Go.RowKit
set_option linter.unusedSimpArgs false
set_option linter.unusedVariables false

variable {L : Nat → Value} {F : Nat → Prop} {w0 w : World} {e e' : Env} {s s' : St} {P : Program}

theorem drawn_mono {call : CallF} : ∀ {l : List DO} {tm : Tm} {s : St} {seen : Seen} {out : Tm × St × Seen}, drawnOps call l tm s seen = some out → (∀ k ∈ seen.cells, k ∈ out.2.2.cells) ∧ (∀ st ∈ seen.states, st ∈ out.2.2.states)
  | [], tm, s, seen, out, h => by cases h; exact ⟨fun _ h => h, fun _ h => h⟩
  | d :: l, tm, s, seen, out, h => by
    obtain ⟨t2, _, h⟩ := bnd_some.1 h
    obtain ⟨h1, h2⟩ := drawn_mono (l := l) h
    have hsee : (∀ k ∈ seen.cells, k ∈ (see d tm s t2.2 seen).cells) ∧ (∀ st ∈ seen.states, st ∈ (see d tm s t2.2 seen).states) := by
      unfold see
      split
      · refine ⟨fun k hk => ?_, fun st hst => ?_⟩
        · simp only
          split
          · exact List.mem_cons_of_mem _ hk
          · exact hk
        · simp only [sel_eq]
          split
          · exact List.mem_cons_of_mem _ hst
          · exact hst
      · exact ⟨fun _ h => h, fun _ h => h⟩
    exact ⟨fun k hk => h1 k (hsee.1 k hk), fun st hst => h2 st (hsee.2 st hst)⟩

theorem plan_mem {ops : Array Oper} {Lm : Nat} {r : List (Nat × Bool)} (hp : PlanOk (its P ops) Lm r) : ∀ i fl, (i, fl) ∈ r → Lm.testBit i = false ∧ ∃ o, ops[i]? = some o ∧ (fl = true → pureOp P o.op = true ∨ loadOp P o.op = true) := by
  have head : ∀ {Lm j : Nat}, (∃ q ∈ its P ops, q.i = j ∧ ready Lm q = true) → Lm.testBit j = false ∧ ∃ o, ops[j]? = some o ∧ itemOf P (late P ops) j o ∈ its P ops := by
    rintro Lm j ⟨q, hq, rfl, hr⟩
    obtain ⟨o, ho, hqe⟩ := its_mem hq
    rw [hqe] at hr
    exact ⟨(ready_item.1 hr).1, o, ho, mem_its ho⟩
  induction hp with
  | done => intro i fl h; cases h
  | @reader Lm j r hfr _ ih =>
    intro i fl h
    obtain ⟨q, hq, hqi, hqr, hqy⟩ := firstReader_some hfr
    rcases List.mem_cons.1 h with h | h
    · cases h
      obtain ⟨h1, o, ho, _⟩ := head ⟨q, hq, hqi, hqy⟩
      obtain ⟨o', ho', hqe⟩ := its_mem hq
      rw [hqi, ho] at ho'
      cases ho'
      refine ⟨h1, o, ho, fun _ => ?_⟩
      rw [hqe] at hqr
      have hqr : (pureOp P o.op || band (loadOp P o.op) (bnot (hasBit (late P ops) q.i))) = true := hqr
      rw [Bool.or_eq_true, band_true] at hqr
      exact hqr.imp id fun h => h.1
    · obtain ⟨h1, h2⟩ := ih i fl h
      refine ⟨?_, h2⟩
      rw [Bool.eq_false_iff] at h1 ⊢
      exact fun hc => h1 (bit_or.2 (.inl hc))
  | @other Lm j q r0 r hr hj h1 _ ih =>
    intro i fl h
    have hmem : ∃ q' ∈ q :: r0, q'.i = j := by
      rcases nextOf_mem (r := q.i) (l := q :: r0) with ⟨q', hq', h⟩ | h
      · exact ⟨q', hq', by rw [hj]; exact h⟩
      · exact ⟨q, List.mem_cons_self, by rw [hj]; exact h.symm⟩
    obtain ⟨q', hq', hqi⟩ := hmem
    rw [← hr] at hq'
    obtain ⟨h2, h3⟩ := readys_mem.1 hq'
    rcases List.mem_cons.1 h with h | h
    · cases h
      obtain ⟨k1, o, ho, _⟩ := head ⟨q', h2, hqi, h3⟩
      exact ⟨k1, o, ho, fun hf => by cases hf⟩
    · obtain ⟨h1, h2⟩ := ih i fl h
      refine ⟨?_, h2⟩
      rw [Bool.eq_false_iff] at h1 ⊢
      exact fun hc => h1 (bit_or.2 (.inl hc))

end Go.X

/-
  A writer's turn.
-/
namespace Go.X
open Go.RowKit
set_option linter.unusedSimpArgs false
set_option linter.unusedVariables false

variable {L : Nat → Value} {F : Nat → Prop} {w0 w : World} {e e' : Env} {s s' : St} {P : Program}

theorem writer_case (hL : Leafy L) {c : Cfg} (hF : FactsOk L c.facts) (hE : ExtOk c) {call : CallF} (hC : ∀ F w0, CallOk L F w0 c call) {N : Nat} {ops : Array Oper} (hns : Region.noSelect ops = true) (hm : mindsAll ops = true)
    {Q : Exit → Act → World → Prop} (hQ : ∀ ch a w, ¬ Q (.panic ch) a w)
    {cells : List RdK} {loads : Nat} {e0 : Env} {s0 : St} {wst : World} {r : List (Nat × Bool)} {Lm : Nat} {tm : Tm} {D : List Pre} {F' : Nat → Prop} {w1 : World} {a0 : Act} {listed : Array Bool} {fuel : Nat}
    {i : Nat} {o : Oper} {x : XO} {tm1 : Tm} {s1 : St} {look : Bool} {F0 : Nat → Prop} {w00 : World}
    (hfit : Fit L F w0 c N ops cells loads e0 s0 wst ((i, false) :: r) Lm e s tm D F' w1 a0 w listed)
    (ho : ops[i]? = some o) (hiu : Lm.testBit i = false) (hw : ∀ k ∈ waits o, Lm.testBit k = true) (hnotD : ∀ d ∈ D, d.i ≠ i)
    (hx : stage3 c N ops o = some x) (hgo : x.go call tm s = some (tm1, s1))
    (hlook : look = true → want (stageG ops o) tm = some true → sameCells s0 s1 cells = true) (hbefore : look = false → allBefore (its c.P ops) loads o = true)
    (hrel0 : Rel L F0 w00 e0 s0 wst) (hleft : ∀ k, (k, true) ∈ r → loads.testBit k = true → listed.getD k true = false)
    (hready : i ∈ Region.ready .any ops listed) (hguards : ∀ d ∈ D, guardOk ops d.o = true)
    (next : ∀ e' a' w', Fit L F w0 c N ops cells loads e0 s0 wst r (Lm ||| bit i) e' s1 tm1 D F' w1 a' w' (listed.setIfInBounds i true) →
      wpAnyS c.P ops Q (lookOf ops loads) (AgreeAll L e0 cells wst) fuel (listed.setIfInBounds i true) (putD a' D) w') :
    wpOp c.P ops Q i (fun a' w' => (lookOf ops loads i → AgreeAll L e0 cells wst w → AgreeAll L e0 cells wst w') ∧ wpAnyS c.P ops Q (lookOf ops loads) (AgreeAll L e0 cells wst) fuel (listed.setIfInBounds i true) a' w') (putD a0 D) w := by
  have hilt : i < ops.size := (Array.getElem?_eq_some_iff.1 ho).1
  have hsel := Region.noSelect_spec hns
  have hnw : ∀ d ∈ D, d.i ∉ waits o := fun d hdD hk => by
    obtain ⟨_, g2, _⟩ := hfit.pres d hdD
    rw [hw _ hk] at g2
    cases g2
  have hoff : Off ops o D := off_of hm ho fun d hdD => by
    obtain ⟨g1, g2, g3, _⟩ := hfit.pres d hdD
    exact ⟨g1, hnotD d hdD, hnw d hdD, fun hk => (by rw [g3 _ hk] at hiu; cases hiu)⟩
  obtain ⟨hdk, v, htm⟩ := stage3_put hx hgo
  obtain ⟨hgd, b, g, hb, hg, hrun, hskip⟩ := go_want hx hgo
  have hwanted := want_sound hgd hfit.frame hb
  have hmask : ∀ k, k < ops.size → ((listed.setIfInBounds i true).getD k true = true ↔ (Lm ||| bit i).testBit k = true ∨ ∃ d ∈ D, d.i = k) := fun k hk => by
    by_cases hik : i = k
    · subst hik
      rw [Array.getD_eq_getD_getElem?, Array.getElem?_setIfInBounds_self_of_lt (by rw [hfit.closed.1]; exact hilt)]
      exact ⟨fun _ => .inl (bit_or.2 (.inr rfl)), fun _ => rfl⟩
    · rw [getD_set_ne true hik, hfit.mask k hk, bit_or]
      constructor
      · rintro (h | h)
        · exact .inl (.inl h)
        · exact .inr h
      · rintro ((h | h) | h)
        · exact .inl h
        · exact absurd h hik
        · exact .inr h
  have hpres : ∀ {e'}, Le e e' → ∀ d ∈ D, PreOk L c ops (Lm ||| bit i) e' tm1 F' w1 d := fun hle d hd => by
    rw [htm]
    exact (hfit.pres d hd).put hm ho (hnotD d hd) hiu (hnw d hd) hdk (hguards d hd) v hle
  -- behind it the cells are as they were, if that is looked at
  have hfitN : ∀ e' a' w', Ext e e' s s1 → ARel L e' tm1 N a' → Rel L F' w1 e' s1 w' → (AgreeAll L e0 cells wst w' ∨ look = false) →
      (lookOf ops loads i → AgreeAll L e0 cells wst w → AgreeAll L e0 cells wst w') ∧ wpAnyS c.P ops Q (lookOf ops loads) (AgreeAll L e0 cells wst) fuel (listed.setIfInBounds i true) (putD a' D) w' := by
    intro e' a' w' hext ha' hr' hag
    refine ⟨fun hlk _ => ?_, next e' a' w' ⟨ha', hr', hfit.under, hfit.grow, hfit.ext.trans hext, hfit.closed.step hready, hmask, fun ⟨k, hk, hl⟩ => ?_, hpres hext.le, hfit.own, hfit.uniq, by rw [hext.le.low]; exact hfit.low⟩⟩
    · rcases hag with h | h
      · exact h
      · exact absurd hlk (not_look ho (hbefore h))
    · rcases hag with h | h
      · exact h
      · exact absurd ⟨listed, hfit.closed, hready, k, hl, hleft k hk hl⟩ (not_look ho (hbefore h))
  refine wpOp_lateD hQ ho (fun cs b => hsel i o cs b ho) hoff ?_
  unfold wpOp
  simp only [ho]
  cases b with
  | false =>
    rw [hwanted]
    simp only [Bool.false_eq_true, if_false]
    have := hskip rfl
    cases this
    refine ⟨fun _ h => h, next e _ w ⟨dst_put hdk hfit.frame iv_undef, hfit.rel, hfit.under, hfit.grow, hfit.ext, hfit.closed.step hready, hmask, fun ⟨k, hk, hl⟩ => hfit.keeps ⟨k, List.mem_cons_of_mem _ hk, hl⟩, hpres (Le.refl e), hfit.own, hfit.uniq, hfit.low⟩⟩
  | true =>
    have hst := step3_sound (ops := ops) hL hF hE (hC F' w1) hx hfit.frame hfit.rel hgo (Q := Q)
      (K := fun a' w' => (lookOf ops loads i → AgreeAll L e0 cells wst w → AgreeAll L e0 cells wst w') ∧ wpAnyS c.P ops Q (lookOf ops loads) (AgreeAll L e0 cells wst) fuel (listed.setIfInBounds i true) (putD a' D) w')
      (fun e' a' w' hext ha' hr' => hfitN e' a' w' hext ha' hr' (by
        cases hl : look with
        | false => exact .inr rfl
        | true => exact .inl (sameCells_agree hrel0 hr' (hfit.ext.le.trans hext.le) (hlook hl hb))))
    rw [hwanted] at hst
    rw [hwanted]
    simp only [if_true] at hst ⊢
    exact .inl hst

end Go.X

/-
  A region that draws its order, whole.
-/
namespace Go.X
open Go.RowKit
set_option linter.unusedSimpArgs false
set_option linter.unusedVariables false

variable {L : Nat → Value} {F : Nat → Prop} {w0 w : World} {e e' : Env} {s s' : St} {P : Program}

theorem stage3_guard {c : Cfg} {N : Nat} {ops : Array Oper} {o : Oper} {x : XO} (h : stage3 c N ops o = some x) : x.guard = stageG ops o := by
  obtain ⟨_, h⟩ := chk_some.1 h
  obtain ⟨g, _, h⟩ := bnd_some.1 h
  cases h; rfl

theorem see_cells {d : DO} {tm : Tm} {s2 : St} {seen : Seen} {k : RdK} (h1 : want d.x.guard tm = some true) (h2 : d.reads tm s = some k) : k ∈ (see d tm s s2 seen).cells := by
  unfold see
  rw [h1, h2]
  exact List.mem_cons_self
theorem see_states {d : DO} {tm : Tm} {s2 : St} {seen : Seen} (h1 : want d.x.guard tm = some true) (h2 : d.look = true) : s2 ∈ (see d tm s s2 seen).states := by
  unfold see
  rw [h1, h2]
  exact List.mem_cons_self

theorem draw_main (hL : Leafy L) {c : Cfg} (hF : FactsOk L c.facts) (hE : ExtOk c) {call : CallF} (hC : ∀ F w0, CallOk L F w0 c call) {N : Nat} {ops : Array Oper} (hns : Region.noSelect ops = true) (hm : mindsAll ops = true)
    {Q : Exit → Act → World → Prop} (hQ : ∀ ch a w, ¬ Q (.panic ch) a w) {cells : List RdK} {loads : Nat} {e0 : Env} {s0 : St} {wst : World} {F0 : Nat → Prop} {w00 : World}
    (hstood : ∀ k ∈ cells, ∃ q, e0.blk k.1 = some q ∧ q.1 < wst.heap.size) (hrel0 : Rel L F0 w00 e0 s0 wst) {Lm : Nat} {r : List (Nat × Bool)} (hp : PlanOk (its c.P ops) Lm r) :
    ∀ {l : List DO} {tm : Tm} {s : St} {seen : Seen} {out : Tm × St × Seen} (fuel : Nat) {e : Env} {D : List Pre} {F' : Nat → Prop} {w1 : World} {a0 : Act} {w : World} {listed : Array Bool},
      Staged c N ops loads r l → drawnOps call l tm s seen = some out → (∀ k ∈ out.2.2.cells, k ∈ cells) → (∀ st ∈ out.2.2.states, sameCells s0 st cells = true) →
      (∀ i o, (i, true) ∈ r → ops[i]? = some o → loadOp c.P o.op = true → loads.testBit i = true) → (∀ k, Lm.testBit k = true → k < ops.size) → fuel = unl listed →
      Fit L F w0 c N ops cells loads e0 s0 wst r Lm e s tm D F' w1 a0 w listed →
      (∀ e' a' w', Ext e0 e' s0 out.2.1 → ARel L e' out.1 N a' → Rel L F w0 e' out.2.1 w' → Q .normal a' w') →
      wpAnyS c.P ops Q (lookOf ops loads) (AgreeAll L e0 cells wst) fuel listed (putD a0 D) w := by
  induction hp with
  | @done Lm h0 =>
    intro l tm s seen out fuel e D F' w1 a0 w listed hs hd _ _ _ _ _ hfit hfin
    cases l with
    | cons => exact hs.elim
    | nil =>
      cases hd
      have hD : D = [] := by
        rw [List.eq_nil_iff_forall_not_mem]
        intro d hdD
        obtain ⟨g1, g2, g3, _⟩ := hfit.pres d hdD
        have := readys_mem.2 ⟨mem_its (P := c.P) g1, (ready_item (P := c.P)).2 ⟨g2, g3⟩⟩
        rw [h0] at this
        cases this
      subst hD
      have hnone : Region.ready .any ops listed = [] := by
        rw [List.eq_nil_iff_forall_not_mem]
        intro j hj
        obtain ⟨hju, o, ho, hjw⟩ := ready_iff.1 hj
        have hlm : ∀ k, k < ops.size → (listed.getD k true = true ↔ Lm.testBit k = true) := fun k hk => by
          rw [hfit.mask k hk]; simp
        have hjlt := (Array.getElem?_eq_some_iff.1 ho).1
        have h1 : Lm.testBit j = false := by
          rw [Bool.eq_false_iff]
          intro hc
          rw [(hlm j hjlt).2 hc] at hju; cases hju
        have h2 : ∀ k ∈ waits o, Lm.testBit k = true := fun k hk => by
          have hk' := hjw k hk
          have hlt : k < listed.size := by
            rcases Nat.lt_or_ge k listed.size with h | h
            · exact h
            · rw [Array.getD_eq_getD_getElem?, Array.getElem?_eq_none h] at hk'; cases hk'
          refine (hlm k (by rw [← hfit.closed.1]; exact hlt)).1 ?_
          rw [Array.getD_eq_getD_getElem?, Array.getElem?_eq_getElem hlt] at hk' ⊢
          simpa using hk'
        have := readys_mem.2 ⟨mem_its (P := c.P) ho, (ready_item (P := c.P)).2 ⟨h1, h2⟩⟩
        rw [h0] at this
        cases this
      have hq := hfin e a0 w hfit.ext hfit.frame (hfit.under.back hfit.rel hfit.low)
      cases fuel with
      | zero => exact ⟨hnone, hq⟩
      | succ f => exact ⟨fun _ => hq, fun j hj => by rw [hnone] at hj; cases hj⟩
  | @reader Lm i r hfr hrest ih =>
    intro l tm s seen out fuel e D F' w1 a0 w listed hs hd hcells hstates hloads hLm hfuel hfit hfin
    obtain ⟨hiu, o, ho, hkind⟩ := plan_mem (PlanOk.reader hfr hrest) i true List.mem_cons_self
    have hrd := hkind rfl
    have hilt := (Array.getElem?_eq_some_iff.1 ho).1
    cases l with
    | nil => exact hs.elim
    | cons d l =>
      obtain ⟨⟨o', ho', hx, hreads, _⟩, hs⟩ := hs
      have ho' : ops[i]? = some o' := ho'
      rw [ho] at ho'; cases ho'
      have hd0 := hd
      obtain ⟨t2, hgo, hdr⟩ := bnd_some.1 hd
      obtain ⟨tm1, s1⟩ := t2
      obtain ⟨q, hq, hqi, _, hqr⟩ := firstReader_some hfr
      obtain ⟨oq, hoq, hqe⟩ := its_mem hq
      rw [hqi, ho] at hoq; cases hoq
      rw [hqe, hqi] at hqr
      have hw := (ready_item.1 hqr).2
      have hun : listed.getD i true = false := by
        rw [Bool.eq_false_iff]
        intro hc
        rcases (hfit.mask i hilt).1 hc with h | ⟨d', hd', h⟩
        · rw [hiu] at h; cases h
        · obtain ⟨g1, _, _, g4, _⟩ := hfit.pres d' hd'
          rw [h, ho] at g1; cases g1
          rw [reader_no_alloc hrd] at g4; cases g4
      have hu := unl_set hun
      subst hfuel
      rw [← hu]
      refine reader_case hL hF hns hm hQ hfit ho hrd hiu hw (fun k hk => hLm k (hw k hk)) hx hgo (fun hlo k hk hwant => hcells k ((drawn_mono hdr).1 k (see_cells hwant (by rw [hreads]; exact hk)))) (fun hlo => hloads i o List.mem_cons_self ho hlo) hstood
        (fun d' hd' => by
          obtain ⟨g1, g2, g3, _⟩ := hfit.pres d' hd'
          obtain ⟨x', _, _, _, hx', hgo', _⟩ := future hm g1 (PlanOk.reader hfr hrest) (l := d :: l) ⟨⟨o, ho, hx, hreads, by assumption⟩, hs⟩ hd0 g2 g3
          exact (go_want hx' hgo').1)
        (fun a0' hs1 hfit' => ?_)
      subst hs1
      exact ih _ hs hdr hcells hstates (fun k ok hk => hloads k ok (List.mem_cons_of_mem _ hk)) (fun k hk => by
        rcases bit_or.1 hk with h | rfl
        · exact hLm k h
        · exact hilt) rfl hfit' hfin
  | @other Lm i q r0 r hr hi h1 hrest ih =>
    intro l tm s seen out fuel e D F' w1 a0 w listed hs hd hcells hstates hloads hLm hfuel hfit hfin
    have hpl := PlanOk.other hr hi h1 hrest
    obtain ⟨hiu, o, ho, _⟩ := plan_mem hpl i false List.mem_cons_self
    have hilt := (Array.getElem?_eq_some_iff.1 ho).1
    have hmem : ∃ q' ∈ q :: r0, q'.i = i := by
      rcases nextOf_mem (r := q.i) (l := q :: r0) with ⟨q', hq', h⟩ | h
      · exact ⟨q', hq', by rw [hi]; exact h⟩
      · exact ⟨q, List.mem_cons_self, by rw [hi]; exact h.symm⟩
    obtain ⟨q', hq', hqi⟩ := hmem
    rw [← hr] at hq'
    obtain ⟨hq1, hq2⟩ := readys_mem.1 hq'
    obtain ⟨oq, hoq, hqe⟩ := its_mem hq1
    rw [hqi, ho] at hoq; cases hoq
    rw [hqe, hqi] at hq2
    have hw := (ready_item.1 hq2).2
    cases l with
    | nil => exact hs.elim
    | cons d l =>
      have hs0 := hs
      obtain ⟨⟨o', ho', hx, hreads, hlook⟩, hsr⟩ := hs
      have ho' : ops[i]? = some o' := ho'
      rw [ho] at ho'; cases ho'
      obtain ⟨t2, hgo, hdr⟩ := bnd_some.1 hd
      obtain ⟨tm1, s1⟩ := t2
      have hguards : ∀ (D : List Pre) (e : Env) (F' : Nat → Prop) (w1 : World), (∀ d ∈ D, PreOk L c ops Lm e tm F' w1 d) → ∀ d ∈ D, guardOk ops d.o = true := fun D e F' w1 hp d' hd' => by
        obtain ⟨g1, g2, g3, _⟩ := hp d' hd'
        obtain ⟨x', _, _, _, hx', hgo', _⟩ := future hm g1 hpl hs0 hd g2 g3
        exact (go_want hx' hgo').1
      have hLm' : ∀ k, (Lm ||| bit i).testBit k = true → k < ops.size := fun k hk => by
        rcases bit_or.1 hk with h | rfl
        · exact hLm k h
        · exact hilt
      have hloads' : ∀ k ok, (k, true) ∈ r → ops[k]? = some ok → loadOp c.P ok.op = true → loads.testBit k = true := fun k ok hk => hloads k ok (List.mem_cons_of_mem _ hk)
      have adopt : ∀ (fuel : Nat) {e : Env} {D : List Pre} {F' : Nat → Prop} {w1 : World} {a0 : Act} {w : World} {listed : Array Bool}, fuel = unl listed → Fit L F w0 c N ops cells loads e0 s0 wst ((i, false) :: r) Lm e s tm D F' w1 a0 w listed → (∃ d' ∈ D, d'.i = i) →
          wpAnyS c.P ops Q (lookOf ops loads) (AgreeAll L e0 cells wst) fuel listed (putD a0 D) w := by
        intro fuel e D F' w1 a0 w listed hfuel hfit ⟨d', hd', hdi⟩
        obtain ⟨g1, _⟩ := hfit.pres d' hd'
        have hdo : d'.o = o := by rw [hdi, ho] at g1; exact (Option.some.inj g1).symm
        have hgs := hguards D e F' w1 hfit.pres
        obtain ⟨A, B, hAB⟩ := List.append_of_mem hd'
        rw [hAB] at hfit hgs ⊢
        rw [← hdi] at hfit
        obtain ⟨e', F2, a1, hput, hfit'⟩ := adopt_case hL hm hfit (fun x hx => hgs x (by
          rcases List.mem_append.1 hx with h | h
          · exact List.mem_append.2 (.inl h)
          · exact List.mem_append.2 (.inr (List.mem_cons_of_mem _ h)))) (by rw [hdo]; exact hx) hgo
        rw [hput]
        rw [hdi] at hfit'
        exact ih fuel hsr hdr hcells hstates hloads' hLm' hfuel hfit' hfin
      induction fuel generalizing e D F' w1 a0 w listed with
      | zero =>
        by_cases hin : ∃ d' ∈ D, d'.i = i
        · exact adopt 0 hfuel hfit hin
        · have hun : listed.getD i true = false := by
            rw [Bool.eq_false_iff]
            intro hc
            rcases (hfit.mask i hilt).1 hc with h | h
            · rw [hiu] at h; cases h
            · exact hin h
          have := unl_set hun
          omega
      | succ f ihf =>
        by_cases hin : ∃ d' ∈ D, d'.i = i
        · exact adopt (f + 1) hfuel hfit hin
        have hmaskl : ∀ k, k < ops.size → listed.getD k false = true → Lm.testBit k = true ∨ ∃ d ∈ D, d.i = k := fun k hk h => (hfit.mask k hk).1 (by
          have hlt : k < listed.size := by rw [hfit.closed.1]; exact hk
          rw [Array.getD_eq_getD_getElem?, Array.getElem?_eq_getElem hlt] at h ⊢
          simpa using h)
        refine ⟨fun h0 => ?_, fun j hj => ?_⟩
        · have hun : listed.getD i true = false := by
            rw [Bool.eq_false_iff]
            intro hc
            rcases (hfit.mask i hilt).1 hc with h | h
            · rw [hiu] at h; cases h
            · exact hin h
          have : i ∈ Region.ready .any ops listed := ready_iff.2 ⟨hun, o, ho, fun k hk => getD_ft (by rw [hfit.closed.1]; exact hLm k (hw k hk)) ((hfit.mask k (hLm k (hw k hk))).2 (.inl (hw k hk)))⟩
          rw [h0] at this; cases this
        · obtain ⟨hjun, oj, hoj, hjw⟩ := ready_iff.1 hj
          have hjlt := (Array.getElem?_eq_some_iff.1 hoj).1
          have hfj : f = unl (listed.setIfInBounds j true) := by
            have := unl_set hjun
            omega
          by_cases hji : j = i
          · subst hji
            rw [ho] at hoj; cases hoj
            refine writer_case hL hF hE hC hns hm hQ hfit ho hiu hw (fun d' hd' h => hin ⟨d', hd', h⟩) hx hgo (look := d.look) (fun hl hwant => hstates s1 ((drawn_mono hdr).2 s1 (see_states (by rw [stage3_guard hx]; exact hwant) hl)))
              (fun hl => ?_) hrel0 (fun k hk hkl => ?_) hj (hguards D e F' w1 hfit.pres) (fun e' a' w' hfit' => ih f hsr hdr hcells hstates hloads' hLm' hfj hfit' hfin)
            · rw [hlook] at hl
              revert hl
              cases allBefore (its c.P ops) loads o <;> intro hl
              · cases hl
              · rfl
            · obtain ⟨h2, ok, hok, hkk⟩ := plan_mem hpl k true (List.mem_cons_of_mem _ hk)
              rw [Bool.eq_false_iff]
              intro hc
              rcases (hfit.mask k (Array.getElem?_eq_some_iff.1 hok).1).1 hc with h | ⟨d', hd', h⟩
              · rw [h2] at h; cases h
              · obtain ⟨g1, _, _, g4, _⟩ := hfit.pres d' hd'
                rw [h, hok] at g1; cases g1
                rw [reader_no_alloc (hkk rfl)] at g4; cases g4
          · have hju : Lm.testBit j = false := by
              rw [Bool.eq_false_iff]
              intro hc
              rw [(hfit.mask j hjlt).2 (.inl hc)] at hjun; cases hjun
            have hDnews : ∀ d' ∈ D, d'.i ∈ news i (q :: r0) := fun d' hd' => by
              obtain ⟨g1, g2, g3, g4, _⟩ := hfit.pres d' hd'
              refine news_mem.2 ⟨itemOf c.P (late c.P ops) d'.i d'.o, ?_, rfl, g4, fun h => hin ⟨d', hd', h⟩⟩
              rw [← hr]
              exact readys_mem.2 ⟨mem_its g1, ready_item.2 ⟨g2, g3⟩⟩
            by_cases hjn : j ∈ news i (q :: r0)
            · obtain ⟨qj, hqj, hqji, hqja, _⟩ := news_mem.1 hjn
              rw [← hr] at hqj
              obtain ⟨k1, k2⟩ := readys_mem.1 hqj
              obtain ⟨oj', hoj', hqje⟩ := its_mem k1
              rw [hqji, hoj] at hoj'; cases hoj'
              rw [hqje, hqji] at k2
              rw [hqje] at hqja
              have hjwl := (ready_item.1 k2).2
              obtain ⟨x', tmj, sj, tj, hxj, hgoj, hsame⟩ := future hm hoj hpl hs0 hd hju hjwl
              exact ahead_case hL hns hm hfit hoj hqja hju hjwl hj hxj hgoj hsame hstood (fun d2 F2 w2 w' hdi hdo hS hfit' => ⟨fun _ => hS, ihf hfj hfit'⟩)
            · exfalso
              have : itemOf c.P (late c.P ops) j oj ∈ readys (Lm ||| bitsOf (news i (q :: r0))) (its c.P ops) := readys_mem.2 ⟨mem_its hoj, ready_item.2 ⟨by
                rw [Nat.testBit_or, hju, Bool.false_or, Bool.eq_false_iff]
                exact fun hc => hjn ((bitsOf_test _ _).1 hc), fun k hk => by
                have hk' := hjw k hk
                have hlt : k < ops.size := by
                  rcases Nat.lt_or_ge k listed.size with h | h
                  · rw [← hfit.closed.1]; exact h
                  · rw [Array.getD_eq_getD_getElem?, Array.getElem?_eq_none h] at hk'; cases hk'
                rw [Nat.testBit_or, Bool.or_eq_true]
                rcases hmaskl k hlt hk' with h | ⟨d', hd', h⟩
                · exact .inl h
                · exact .inr ((bitsOf_test _ _).2 (h ▸ hDnews d' hd'))⟩⟩
              unfold isOne at h1
              split at h1
              · rename_i qq hqq
                rw [hqq] at this
                have := List.mem_singleton.1 this
                have h1 := beq_true.1 h1
                rw [← this] at h1
                exact hji h1
              · cases h1

end Go.X

/-
  DrawOk.
-/
namespace Go.X
open Go.RowKit
set_option linter.unusedSimpArgs false
set_option linter.unusedVariables false

variable {L : Nat → Value} {F : Nat → Prop} {w0 w : World} {e e' : Env} {s s' : St} {P : Program}

theorem draw_ok (hL : Leafy L) {c : Cfg} (hF : FactsOk L c.facts) (hE : ExtOk c) (hfol : c.P.follows .mixedOrders = true) : DrawOk L F w0 c := by
  intro call hC N id ops tm s r e a w Q h ha hr hQ
  obtain ⟨l, hl, h⟩ := bnd_some.1 h
  obtain ⟨q, hq, h⟩ := bnd_some.1 h
  cases h
  obtain ⟨hchk, hl⟩ := chk_some.1 hl
  obtain ⟨hns, hm⟩ := band_true.1 hchk
  obtain ⟨r, hpl, hst⟩ := bnd_some.1 hl
  obtain ⟨out, hout, hq⟩ := bnd_some.1 hq
  obtain ⟨hall, hq⟩ := chk_some.1 hq
  cases hq
  have hp := plan_ok _ _ _ hpl
  have hall : ∀ st ∈ s :: out.2.2.states, sameCells s st out.2.2.cells = true := List.all_eq_true.1 hall
  have hrd := hr.drew
  have hbase : Rel L F { w with drawn := w.drawn + 1 } e s { w with drawn := w.drawn + 1 } := ⟨rfl, rfl, rfl, Nat.le_refl _, fun b hb => by have := hrd.old b hb; have := hrd.size; omega, fun _ _ => rfl, hrd.objs, hrd.inj, hrd.fresh, hrd.freshc, by have h1 := hrd.low; have h2 := hrd.size; simp only at *; omega⟩
  refine wp_mono (Q := fun ex a' w' => ex = .normal ∧ Q .normal a' w') ?_ (fun ex a' w' hh => by obtain ⟨rfl, hh⟩ := hh; exact hh)
  refine wp_region_any hfol (wpAny_of_wpAnyS _ _ _ _ (look := lookOf ops (loadsOf c.P ops r)) (S := AgreeAll L e out.2.2.cells { w with drawn := w.drawn + 1 }) ?_)
  refine draw_main hL hF hE hC hns hm (fun ch a w hh => by cases hh.1) (cells := out.2.2.cells) (loads := loadsOf c.P ops r) (e0 := e) (s0 := s) (wst := { w with drawn := w.drawn + 1 }) (fun k hk => ?_) hrd hp ops.size (e := e) (D := []) (F' := F) (w1 := { w with drawn := w.drawn + 1 })
    (staged_of hst) hout (fun k hk => hk) (fun st hst => hall st (List.mem_cons_of_mem _ hst)) (fun i o hi ho hlo => ?_) (fun k hk => by simp at hk) ?_ ?_ (fun e' a' w' he ha' hr' => ⟨rfl, hQ e' a' w' he ha' hr'⟩)
  · obtain ⟨o, ho⟩ := sameCells_obj (hall s List.mem_cons_self) hk
    obtain ⟨b, base, cs, t, fr, hb, hw, _⟩ := hrd.objs _ o ho
    exact ⟨_, hb, (Array.getElem?_eq_some_iff.1 hw).1⟩
  · unfold loadsOf
    refine (bitsOf_test _ _).2 (List.mem_map.2 ⟨(i, true), List.mem_filter.2 ⟨hi, ?_⟩, rfl⟩)
    simp [opIs, ho, hlo]
  · simp [unl]
  · exact ⟨ha, hbase, ⟨fun _ h => h, hrd.os, hrd.tape, hrd.output, hrd.size, hrd.old, hrd.keep, fun b h hn => absurd h hn⟩, Nat.le_refl _, Ext.refl _ _, closed_start, fun k hk => by
      rw [Array.getD_eq_getD_getElem?, Array.getElem?_replicate, if_pos hk]
      simp, fun _ k _ q _ i _ => rfl, fun d hd => (by cases hd), fun d hd => (by cases hd), List.Pairwise.nil, hrd.low⟩

/-- **A closed call**, reckoned by the kernel to answer true. -/
theorem closed {c : Cfg} (hfol : c.P.follows .mixedOrders = true) (hE : ExtOk c) (hH : ∀ f args s, c.hook f args s = none) (hfacts : c.facts = []) {n : Nat} {f : FuncId}
    (h : answersTrue (callFn c n f [] St.zero) = true) (w : World) : Calls c.P f #[] w fun en w' => en = .returned (.bool true) ∧ Below w.heap.size w w' :=
  closed_of_test hE (fun L F w0 hL hF => draw_ok hL hF hE hfol) hH hfacts h w

end Go.X

/-
  What a seat's program wants: its functions of sync/atomic by a list; calls with arguments that aren't written out.
-/
namespace Go.X
open Go.RowKit
set_option linter.unusedSimpArgs false
set_option linter.unusedVariables false

/-- Which functions are of sync/atomic, and which. -/
noncomputable def extOf (l : List (Nat × Atom)) (f : FuncId) : Option Atom :=
  List.rec (motive := fun _ => Option Atom) none (fun q _ ih => sel (Nat.beq f q.1) (some q.2) ih) l

def extTest (P : Program) (f : FuncId) : Bool :=
  match P.funcs[f]? with
  | some fn => !(fn.name == "runtime.NumGoroutine") && fn.body.isNone && (Extern.findNext fn).isNone
  | none => false

structure ExtOne (P : Program) (q : Nat × Atom) : Prop where
  test : extTest P q.1 = true
  sem : (P.funcs[q.1]?).bind Extern.find = some q.2.sem

theorem extOk_of {c : Cfg} (l : List (Nat × Atom)) (hc : c.ext = extOf l) (h : ∀ q ∈ l, ExtOne c.P q) : ExtOk c := by
  intro f a hf
  rw [hc] at hf
  clear hc
  induction l with
  | nil => cases hf
  | cons q r ih =>
    have hf : sel (Nat.beq f q.1) (some q.2) (extOf r f) = some a := hf
    rw [sel_eq] at hf
    by_cases hq : Nat.beq f q.1 = true
    · rw [if_pos hq] at hf
      cases hf
      obtain rfl := beq_true.1 hq
      obtain ⟨ht, hs⟩ := h q List.mem_cons_self
      unfold extTest at ht
      cases hfn : c.P.funcs[q.1]? with
      | none => rw [hfn] at ht; cases ht
      | some fn =>
        rw [hfn] at ht hs
        simp only [Bool.and_eq_true] at ht
        refine ⟨fn, rfl, ?_, ht.1.2, ?_, hs⟩
        · simpa using ht.1.1
        · have := ht.2
          cases hx : Extern.findNext fn with
          | none => rfl
          | some _ => rw [hx] at this; cases this
    · rw [if_neg hq] at hf
      exact ih (fun q hq => h q (List.mem_cons_of_mem _ hq)) hf

/-- **A call** with arguments that aren't all written out, reckoned by the kernel to answer true. -/
theorem called {L : Nat → Value} (hL : Leafy L) {c : Cfg} (hfol : c.P.follows .mixedOrders = true) (hE : ExtOk c) (hH : ∀ f args s, c.hook f args s = none) (hF : FactsOk L c.facts) {n : Nat} {f : FuncId} {l : List V} {xs : List Value}
    (hl : il L ⟨fun _ => none, fun _ => none, 0⟩ l = some xs) (h : answersTrue (callFn c n f l St.zero) = true) (w : World) :
    Calls c.P f xs.toArray w fun en w' => en = .returned (.bool true) ∧ Below w.heap.size w w' := by
  cases hq : callFn c n f l St.zero with
  | none => rw [hq] at h; cases h
  | some r =>
    obtain ⟨v, s'⟩ := r
    rw [hq] at h
    obtain ⟨_, hcall⟩ := callFn_sound hL hF hE (fun F w0 => draw_ok hL hF hE hfol) hH n (fun b => b < w.heap.size) w f l St.zero v s' xs _ w hq hl (Rel.start _ w)
    refine hcall _ fun e' x w' he hx hr => ⟨?_, hr.below⟩
    rw [iv1 (beq_true.1 h)] at hx
    cases hx
    rfl

end Go.X

/-
  One function without arguments is known to answer true: it isn't reckoned again.
-/
namespace Go.X
open Go.RowKit
set_option linter.unusedSimpArgs false
set_option linter.unusedVariables false

variable {L : Nat → Value} {F : Nat → Prop} {w0 w : World} {e e' : Env} {s s' : St} {P : Program}

/-- What is known of calls holds. -/
def HookOk (L : Nat → Value) (c : Cfg) : Prop :=
  ∀ (F : Nat → Prop) (w0 : World) (f : FuncId) (args : List V) (s : St) (v : V) (s' : St) (xs : List Value) (e : Env) (w : World), c.hook f args s = some (v, s') → il L e args = some xs → Rel L F w0 e s w →
    (callFunc f xs.toArray).run c.P w = .ok (.enter f xs.toArray) w ∧
    ∀ R : Ending → World → Prop, (∀ e' x w', Ext e e' s s' → iv L e' v = some x → Rel L F w0 e' s' w' → R (.returned x) w') → Calls c.P f xs.toArray w R

theorem callFn_knows (hL : Leafy L) {c : Cfg} (hF : FactsOk L c.facts) (hE : ExtOk c) (hD : ∀ F w0, DrawOk L F w0 c) (hH : HookOk L c) : ∀ n F w0, CallOk L F w0 c (callFn c n)
  | 0 => fun F w0 f args s v s' xs e w h => by cases h
  | n + 1 => fun F w0 f args s v s' xs e w h hx hr => by
    have h : (match c.hook f args s with | some r => some r | none => enter c (callFn c n) f args s) = some (v, s') := h
    cases hk : c.hook f args s with
    | none =>
      rw [hk] at h
      exact enter_sound hL hF hE hD (callFn_knows hL hF hE hD hH n) F w0 f args s v s' xs e w h hx hr
    | some r =>
      rw [hk] at h
      cases h
      exact hH F w0 f args s v s' xs e w hk hx hr

/-- A world that has but grown fits as it did. -/
theorem Rel.grew {w' : World} (h : Rel L F w0 e s w) (b : Below w.heap.size w w') : Rel L F w0 e s w' := by
  have hlt : ∀ k blk, w.heap[k]? = some blk → w'.heap[k]? = some blk := fun k blk hk => (b.block k (Array.getElem?_eq_some_iff.1 hk).1).trans hk
  refine ⟨b.os.trans h.os, b.tape.trans h.tape, b.output.trans h.output, Nat.le_trans h.size b.size, h.old, fun k hk => ?_, fun id o ho => ?_, h.inj, h.fresh, h.freshc, h.low⟩
  · exact (b.block k (Nat.lt_of_lt_of_le (h.old k hk) h.size)).trans (h.keep k hk)
  · obtain ⟨b', base, cs, t, fr, h1, h2, h3⟩ := h.objs id o ho
    exact ⟨b', base, cs, t, fr, h1, hlt _ _ h2, h3⟩

def enterTest (P : Program) (f : FuncId) : Bool :=
  match P.funcs[f]? with
  | some fn => !(fn.name == "runtime.NumGoroutine") && fn.body.isSome
  | none => false

/-- One function that answers true. -/
noncomputable def knows (g : Nat) (f : FuncId) (args : List V) (s : St) : Option (V × St) := sel (band (Nat.beq f g) (Nat.beq (llen args) 0)) (some (V.T, s)) none

theorem hookOk_of {c : Cfg} {g : Nat} (hc : c.hook = knows g) (ht : enterTest c.P g = true) (hg : ∀ w, Calls c.P g #[] w fun en w' => en = .returned (.bool true) ∧ Below w.heap.size w w') : HookOk L c := by
  intro F w0 f args s v s' xs e w h hx hr
  rw [hc] at h
  unfold knows at h
  rw [sel_eq] at h
  split at h
  · rename_i hb
    cases h
    obtain ⟨h1, h2⟩ := band_true.1 hb
    obtain rfl := beq_true.1 h1
    have h2 := beq_true.1 h2
    rw [llen_eq] at h2
    obtain rfl : args = [] := List.length_eq_zero_iff.1 h2
    rw [il_nil] at hx
    cases hx
    refine ⟨?_, fun R hR => ?_⟩
    · unfold enterTest at ht
      cases hfn : c.P.funcs[f]? with
      | none => rw [hfn] at ht; cases ht
      | some fn =>
        rw [hfn] at ht
        simp only [Bool.and_eq_true] at ht
        have hn : (fn.name == "runtime.NumGoroutine") = false := by simpa using ht.1
        have hk : fn.body.isNone = false := by
          have := ht.2
          cases hb : fn.body with
          | none => rw [hb] at this; cases this
          | some _ => rfl
        have hprog : ∀ w, (program : Sem Program).run c.P w = .ok c.P w := fun w => rfl
        unfold callFunc
        simp only [Sem.run_bind, hprog, Result.andThen_ok, hfn, hn, hk, Bool.false_eq_true, if_false]
        rfl
    · refine (hg w).mono fun en w' ⟨hen, hb⟩ => ?_
      subst hen
      exact hR e (.bool true) w' (Ext.refl _ _) (iv1 rfl) (hr.grew hb)
  · cases h

/-- **A call** with arguments that aren't all written out, reckoned by the kernel to answer true; one function is known. -/
theorem called_knowing (hL : Leafy L) {c : Cfg} (hfol : c.P.follows .mixedOrders = true) (hE : ExtOk c) (hH : HookOk L c) (hF : FactsOk L c.facts) {n : Nat} {f : FuncId} {l : List V} {xs : List Value}
    (hl : il L ⟨fun _ => none, fun _ => none, 0⟩ l = some xs) (h : answersTrue (callFn c n f l St.zero) = true) (w : World) :
    Calls c.P f xs.toArray w fun en w' => en = .returned (.bool true) ∧ Below w.heap.size w w' := by
  cases hq : callFn c n f l St.zero with
  | none => rw [hq] at h; cases h
  | some r =>
    obtain ⟨v, s'⟩ := r
    rw [hq] at h
    obtain ⟨_, hcall⟩ := callFn_knows hL hF hE (fun F w0 => draw_ok hL hF hE hfol) hH n (fun b => b < w.heap.size) w f l St.zero v s' xs _ w hq hl (Rel.start _ w)
    refine hcall _ fun e' x w' he hx hr => ⟨?_, hr.below⟩
    rw [iv1 (beq_true.1 h)] at hx
    cases hx
    rfl

end Go.X

/-
  Cases: where a comparison of numbers that aren't written out is wanted, both ways are gone.
-/
namespace Go.X
open Go.RowKit
set_option linter.unusedSimpArgs false
set_option linter.unusedVariables false

/-- Which cases are gone. -/
inductive DT where
  | run
  | dead
  | split (op : BinOp) (a b : IE) (t e : DT)

def Cfg.under (c : Cfg) (fs : List Fact) : Cfg := { P := c.P, ext := c.ext, hook := c.hook, facts := fs }

noncomputable def DT.good (c : Cfg) (n : Nat) (f : FuncId) (l : List V) (d : DT) : List Fact → Bool :=
  DT.rec (motive := fun _ => List Fact → Bool) (fun fs => answersTrue (callFn (c.under fs) n f l St.zero)) (fun _ => true)
    (fun op a b _ _ t e fs => band (cmpB op).isSome (band (t (⟨op, a, b, true⟩ :: fs)) (e (⟨op, a, b, false⟩ :: fs)))) d

/-- What can't be. -/
def DT.deads : DT → List Fact → List (List Fact)
  | .run, _ => []
  | .dead, fs => [fs]
  | .split op a b t e, fs => t.deads (⟨op, a, b, true⟩ :: fs) ++ e.deads (⟨op, a, b, false⟩ :: fs)

variable {L : Nat → Value}

theorem factsOk_cons {f : Fact} {fs : List Fact} (h : ∃ g, cmpB f.op = some g ∧ g (f.a.eval L) (f.b.eval L) = f.r) (hF : FactsOk L fs) : FactsOk L (f :: fs) := by
  intro f' h'
  rcases List.mem_cons.1 h' with rfl | h'
  · exact h
  · exact hF f' h'

/-- **A call** in all cases. -/
theorem called_cases (hL : Leafy L) {c : Cfg} (hfol : c.P.follows .mixedOrders = true) (hE : ExtOk c) (hH : HookOk L c) {n : Nat} {f : FuncId} {l : List V} {xs : List Value}
    (hl : il L ⟨fun _ => none, fun _ => none, 0⟩ l = some xs) (w : World) : ∀ (d : DT) (fs : List Fact), FactsOk L fs → (∀ gs ∈ d.deads fs, ¬ FactsOk L gs) → d.good c n f l fs = true →
    Calls c.P f xs.toArray w fun en w' => en = .returned (.bool true) ∧ Below w.heap.size w w'
  | .run, fs, hF, _, h => called_knowing (c := c.under fs) hL hfol hE hH hF hl h w
  | .dead, fs, hF, hd, _ => absurd hF (hd fs (by simp [DT.deads]))
  | .split op a b t e, fs, hF, hd, h => by
    obtain ⟨hs, h⟩ := band_true.1 (show band (cmpB op).isSome (band (t.good c n f l (⟨op, a, b, true⟩ :: fs)) (e.good c n f l (⟨op, a, b, false⟩ :: fs))) = true from h)
    obtain ⟨ht, he⟩ := band_true.1 h
    obtain ⟨g, hg⟩ := Option.isSome_iff_exists.1 hs
    cases hr : g (a.eval L) (b.eval L) with
    | true => exact called_cases hL hfol hE hH hl w t _ (factsOk_cons ⟨g, hg, hr⟩ hF) (fun gs hgs => hd gs (by simp [DT.deads, hgs])) ht
    | false => exact called_cases hL hfol hE hH hl w e _ (factsOk_cons ⟨g, hg, hr⟩ hF) (fun gs hgs => hd gs (by simp [DT.deads, hgs])) he

/-- Arguments by their numbers. -/
def leaves (l : List Value) (j : Nat) : Value := (l[j]?).getD (.bool true)

theorem leaves_leafy {l : List Value} (h : l.all (fun v => v.oneCell') = true) : Leafy (leaves l) := by
  intro j
  unfold leaves
  cases hj : l[j]? with
  | none => rfl
  | some v => exact List.all_eq_true.1 h v (List.mem_of_getElem? hj)

end Go.X

/-
  What can't be, in plain words.
-/
namespace Go.X
open Go.RowKit
set_option linter.unusedSimpArgs false
set_option linter.unusedVariables false

variable {L : Nat → Value}

/-- What a fact says. -/
def Fact.says (L : Nat → Value) (f : Fact) : Prop :=
  match f.op, f.r with
  | .eql, true => f.a.eval L = f.b.eval L
  | .eql, false => f.a.eval L ≠ f.b.eval L
  | .lss, true => f.a.eval L < f.b.eval L
  | .lss, false => f.b.eval L ≤ f.a.eval L
  | _, _ => True

def allSay (L : Nat → Value) : List Fact → Prop
  | [] => True
  | f :: r => f.says L ∧ allSay L r

theorem says_of {f : Fact} (h : ∃ g, cmpB f.op = some g ∧ g (f.a.eval L) (f.b.eval L) = f.r) : f.says L := by
  obtain ⟨g, hg, hr⟩ := h
  unfold Fact.says
  split
  · rename_i h1 h2
    rw [h1] at hg; cases hg; rw [h2, eqF_eq] at hr; simpa using hr
  · rename_i h1 h2
    rw [h1] at hg; cases hg; rw [h2, eqF_eq] at hr; simpa using hr
  · rename_i h1 h2
    rw [h1] at hg; cases hg; rw [h2, ltF_eq] at hr; simpa using hr
  · rename_i h1 h2
    rw [h1] at hg; cases hg; rw [h2, ltF_eq] at hr; simpa using hr
  · trivial

theorem allSay_of : ∀ {gs : List Fact}, FactsOk L gs → allSay L gs
  | [], _ => trivial
  | f :: r, h => ⟨says_of (h f (by simp)), allSay_of fun f' hf' => h f' (by simp [hf'])⟩

def noneSay (L : Nat → Value) : List (List Fact) → Prop
  | [] => True
  | gs :: r => ¬ allSay L gs ∧ noneSay L r

theorem deads_of : ∀ {l : List (List Fact)}, noneSay L l → ∀ gs ∈ l, ¬ FactsOk L gs
  | [], _, gs, hg, _ => by cases hg
  | g :: r, h, gs, hg, hF => by
    rcases List.mem_cons.1 hg with rfl | hg
    · exact h.1 (allSay_of hF)
    · exact deads_of h.2 gs hg hF

theorem wrapK_of (k : IntKind) (n : Int) : wrapK (codeOf k) n = k.wrap n := by rw [wrapK_eq, kindOf_codeOf]
theorem eval_add (k : IntKind) (a b : IE) : IE.eval L (.bin .add k a b) = k.wrap (a.eval L + b.eval L) := by
  show ((some (wrapK (codeOf k) (addF (a.eval L) (b.eval L)))).getD 0 : Int) = _
  rw [Option.getD_some, wrapK_of, addF_eq]
theorem eval_sub (k : IntKind) (a b : IE) : IE.eval L (.bin .sub k a b) = k.wrap (a.eval L - b.eval L) := by
  show ((some (wrapK (codeOf k) (subF (a.eval L) (b.eval L)))).getD 0 : Int) = _
  rw [Option.getD_some, wrapK_of, subF_eq]
theorem eval_mul (k : IntKind) (a b : IE) : IE.eval L (.bin .mul k a b) = k.wrap (a.eval L * b.eval L) := by
  show ((some (wrapK (codeOf k) (a.eval L * b.eval L))).getD 0 : Int) = _
  rw [Option.getD_some, wrapK_of]
theorem eval_conv (k : IntKind) (a : IE) : IE.eval L (.conv k a) = k.wrap (a.eval L) := by
  show wrapK (codeOf k) (a.eval L) = _
  rw [wrapK_of]
theorem eval_lit (n : Int) : IE.eval L (.lit n) = n := rfl
theorem eval_leaf (j : Nat) : IE.eval L (.leaf j) = valInt (L j) := rfl
theorem eval_len (j : Nat) : IE.eval L (.len j) = valLen (L j) := rfl
theorem wrap_i64 (n : Int) : IntKind.wrap .i64 n = (n + 9223372036854775808) % 18446744073709551616 - 9223372036854775808 := by
  simp [IntKind.wrap, IntKind.bits, IntKind.signed]
  split <;> omega
theorem wrap_i32 (n : Int) : IntKind.wrap .i32 n = (n + 2147483648) % 4294967296 - 2147483648 := by
  simp [IntKind.wrap, IntKind.bits, IntKind.signed]
  split <;> omega
theorem wrap_u64 (n : Int) : IntKind.wrap .u64 n = n % 18446744073709551616 := by
  simp [IntKind.wrap, IntKind.bits, IntKind.signed]
theorem wrap_u32 (n : Int) : IntKind.wrap .u32 n = n % 4294967296 := by
  simp [IntKind.wrap, IntKind.bits, IntKind.signed]
theorem wrap_u16 (n : Int) : IntKind.wrap .u16 n = n % 65536 := by
  simp [IntKind.wrap, IntKind.bits, IntKind.signed]
theorem wrap_u8 (n : Int) : IntKind.wrap .u8 n = n % 256 := by
  simp [IntKind.wrap, IntKind.bits, IntKind.signed]

end Go.X

/-
  Words of 64 bits: what expressions on them are.
-/
namespace Go.X
open Go.RowKit
set_option linter.unusedSimpArgs false
set_option linter.unusedVariables false

variable {L : Nat → Value}

/-- An expression is this number of 64 bits. -/
structure Ev (L : Nat → Value) (x : IE) (m : Nat) : Prop where
  eq : x.eval L = (m : Int)
  lt : m < 18446744073709551616

theorem Ev.lit (m : Nat) (h : m < 18446744073709551616) : Ev L (.lit (m : Int)) m := ⟨rfl, h⟩
theorem Ev.leaf {j m : Nat} (hj : L j = .int .u64 (m : Int)) (h : m < 18446744073709551616) : Ev L (.leaf j) m := ⟨by rw [eval_leaf, hj]; rfl, h⟩

theorem bit_lim {m n : Nat} (hm : m < 18446744073709551616) (hn : n < 18446744073709551616) (f : Nat → Nat → Nat) (g : Int → Int → Int) : bitF 7 f g (m : Int) (n : Int) = ((f m n : Nat) : Int) := by
  show sel (band (Nat.blt m (lim 7)) (Nat.blt n (lim 7))) (Int.ofNat (f m n)) (g (.ofNat m) (.ofNat n)) = _
  have h1 : Nat.blt m (lim 7) = true := by rw [blt_true]; exact hm
  have h2 : Nat.blt n (lim 7) = true := by rw [blt_true]; exact hn
  rw [h1, h2]
  rfl

theorem Ev.or {a b : IE} {m n : Nat} (ha : Ev L a m) (hb : Ev L b n) : Ev L (.bin .or .u64 a b) (m ||| n) := by
  refine ⟨?_, Nat.or_lt_two_pow (n := 64) ha.lt hb.lt⟩
  show ((some (bitF 7 Nat.lor (orG (kindOf 7)) (a.eval L) (b.eval L))).getD 0 : Int) = _
  rw [ha.eq, hb.eq, Option.getD_some, bit_lim ha.lt hb.lt]
  rfl
theorem Ev.and {a b : IE} {m n : Nat} (ha : Ev L a m) (hb : Ev L b n) : Ev L (.bin .and .u64 a b) (m &&& n) := by
  refine ⟨?_, Nat.lt_of_le_of_lt Nat.and_le_left ha.lt⟩
  show ((some (bitF 7 Nat.land (andG (kindOf 7)) (a.eval L) (b.eval L))).getD 0 : Int) = _
  rw [ha.eq, hb.eq, Option.getD_some, bit_lim ha.lt hb.lt]
  rfl
theorem Ev.andNot {a b : IE} {m n : Nat} (ha : Ev L a m) (hb : Ev L b n) : Ev L (.bin .andNot .u64 a b) (m - (m &&& n)) := by
  refine ⟨?_, Nat.lt_of_le_of_lt (Nat.sub_le _ _) ha.lt⟩
  show ((some (bitF 7 (fun m n => Nat.sub m (Nat.land m n)) (andNotG (kindOf 7)) (a.eval L) (b.eval L))).getD 0 : Int) = _
  rw [ha.eq, hb.eq, Option.getD_some, bit_lim ha.lt hb.lt]
  rfl
theorem Ev.shl {a : IE} {m : Nat} (ha : Ev L a m) (s : Nat) (hs : s ≤ 64) : Ev L (.shl .u64 a s) (m * 2 ^ s % 18446744073709551616) := by
  refine ⟨?_, Nat.mod_lt _ (by omega)⟩
  show shlF 7 (a.eval L) s = _
  rw [shlF_eq, ha.eq]
  have : min s (kindOf 7).bits = s := Nat.min_eq_left hs
  rw [this]
  show IntKind.wrap .u64 _ = _
  rw [wrap_u64]
  simp
theorem Ev.shr {a : IE} {m : Nat} (ha : Ev L a m) (s : Nat) : Ev L (.shr a s) (m / 2 ^ s) := by
  refine ⟨?_, Nat.lt_of_le_of_lt (Nat.div_le_self _ _) ha.lt⟩
  show (a.eval L).fdiv (2 ^ s) = _
  rw [ha.eq, Int.fdiv_eq_ediv_of_nonneg _ (by have : (0 : Int) < 2 ^ s := Int.pow_pos (by decide); omega)]
  simp
theorem Ev.conv8 {a : IE} {m : Nat} (ha : Ev L a m) : Ev L (.conv .u8 a) (m % 256) := by
  refine ⟨?_, by have := Nat.mod_lt m (show 0 < 256 by decide); omega⟩
  rw [eval_conv, ha.eq, wrap_u8]
  simp
theorem Ev.conv64 {a : IE} {m : Nat} (ha : Ev L a m) : Ev L (.conv .u64 a) m := by
  refine ⟨?_, ha.lt⟩
  rw [eval_conv, ha.eq, wrap_u64]
  have := ha.lt
  omega
theorem Ev.rem {a : IE} {m : Nat} (ha : Ev L a m) (c : Nat) (hc : 0 < c) : Ev L (.bin .rem .u64 a (.lit (c : Int))) (m % c) := by
  refine ⟨?_, Nat.lt_of_le_of_lt (Nat.mod_le _ _) ha.lt⟩
  show ((chk (bnot (eqF (c : Int) 0)) (some (remF (a.eval L) (c : Int)))).getD 0 : Int) = _
  have h : bnot (eqF (c : Int) 0) = true := by rw [bnot_true, eqF_eq, beq_eq_false_iff_ne]; omega
  rw [h, ha.eq]
  rfl

theorem Ev.quo {a : IE} {m : Nat} (ha : Ev L a m) (c : Nat) (hc : 0 < c) : Ev L (.bin .quo .u64 a (.lit (c : Int))) (m / c) := by
  refine ⟨?_, Nat.lt_of_le_of_lt (Nat.div_le_self _ _) ha.lt⟩
  show ((chk (bnot (eqF (c : Int) 0)) (some (quoF 7 (a.eval L) (c : Int)))).getD 0 : Int) = _
  have h : bnot (eqF (c : Int) 0) = true := by rw [bnot_true, eqF_eq, beq_eq_false_iff_ne]; omega
  rw [h, ha.eq]
  show wrapN 7 (m / c) = _
  have h2 : Nat.blt (m / c) (lim 7) = true := by
    rw [blt_true]
    exact Nat.lt_of_le_of_lt (Nat.div_le_self _ _) ha.lt
  unfold wrapN
  rw [h2]
  rfl

/-- A fact of two numbers that are the same. -/
theorem sameFacts {l : List (IE × IE)} (h : ∀ p ∈ l, p.1.eval L = p.2.eval L) : FactsOk L (l.map fun p => ⟨.eql, p.1, p.2, true⟩) := by
  intro f hf
  obtain ⟨p, hp, rfl⟩ := List.mem_map.1 hf
  exact ⟨eqF, rfl, by rw [eqF_eq]; simpa using h p hp⟩

/-- The bytes of a number, put together again: so many of them. -/
def bytesOr (x : IE) (l : List Nat) : IE := l.foldl (fun acc i => .bin .or .u64 acc (.shl .u64 (.conv .u64 (.conv .u8 (.shr x i))) i)) (.lit 0)

theorem or_step (m i j : Nat) (hj : j = i + 8) (hi : j ≤ 64) : m % 2 ^ i ||| (m / 2 ^ i % 256) * 2 ^ i % 18446744073709551616 = m % 2 ^ j := by
  have h1 : (m / 2 ^ i % 256) * 2 ^ i % 18446744073709551616 = (m / 2 ^ i % 256) * 2 ^ i := by
    apply Nat.mod_eq_of_lt
    have : m / 2 ^ i % 256 < 2 ^ 8 := Nat.mod_lt _ (by decide)
    calc (m / 2 ^ i % 256) * 2 ^ i < 2 ^ 8 * 2 ^ i := Nat.mul_lt_mul_of_pos_right this (Nat.two_pow_pos i)
      _ = 2 ^ j := by rw [← Nat.pow_add, hj, Nat.add_comm]
      _ ≤ 2 ^ 64 := Nat.pow_le_pow_right (by decide) hi
  rw [h1, Nat.or_comm, Nat.mul_comm, ← Nat.two_pow_add_eq_or_of_lt (Nat.mod_lt _ (Nat.two_pow_pos i)), hj, Nat.pow_add, Nat.mod_mul, Nat.add_comm]

theorem ev_step {a x : IE} {m i j : Nat} (hx : Ev L x m) (ha : Ev L a (m % 2 ^ i)) (hj : j = i + 8) (hi : j ≤ 64) : Ev L (.bin .or .u64 a (.shl .u64 (.conv .u64 (.conv .u8 (.shr x i))) i)) (m % 2 ^ j) := by
  have := ha.or ((hx.shr i).conv8.conv64.shl i (by omega))
  rw [or_step m i j hj hi] at this
  exact this

theorem ev_bytes8 {x : IE} {m : Nat} (hx : Ev L x m) : Ev L (bytesOr x [0, 8, 16, 24, 32, 40, 48, 56]) m := by
  have h0 : Ev L (.lit 0) (m % 2 ^ 0) := by rw [Nat.pow_zero, Nat.mod_one]; exact Ev.lit 0 (by decide)
  have := ev_step hx (ev_step hx (ev_step hx (ev_step hx (ev_step hx (ev_step hx (ev_step hx (ev_step hx h0 (j := 8) rfl (by decide)) (j := 16) rfl (by decide)) (j := 24) rfl (by decide)) (j := 32) rfl (by decide)) (j := 40) rfl (by decide)) (j := 48) rfl (by decide)) (j := 56) rfl (by decide)) (j := 64) rfl (by decide)
  rw [Nat.mod_eq_of_lt (show m < 2 ^ 64 from hx.lt)] at this
  exact this

theorem ev_bytes4 {x : IE} {m : Nat} (hx : Ev L x m) (h : m < 4294967296) : Ev L (bytesOr x [0, 8, 16, 24]) m := by
  have h0 : Ev L (.lit 0) (m % 2 ^ 0) := by rw [Nat.pow_zero, Nat.mod_one]; exact Ev.lit 0 (by decide)
  have := ev_step hx (ev_step hx (ev_step hx (ev_step hx h0 (j := 8) rfl (by decide)) (j := 16) rfl (by decide)) (j := 24) rfl (by decide)) (j := 32) rfl (by decide)
  rw [Nat.mod_eq_of_lt (show m < 2 ^ 32 from h)] at this
  exact this

/-- The same, where the lowest byte isn't moved. -/
def bytesOr0 (x : IE) (l : List Nat) : IE := l.foldl (fun acc i => .bin .or .u64 acc (.shl .u64 (.conv .u64 (.conv .u8 (.shr x i))) i)) (.bin .or .u64 (.lit 0) (.shl .u64 (.conv .u64 (.conv .u8 x)) 0))

theorem ev_first {x : IE} {m : Nat} (hx : Ev L x m) : Ev L (.bin .or .u64 (.lit 0) (.shl .u64 (.conv .u64 (.conv .u8 x)) 0)) (m % 2 ^ 8) := by
  have := (Ev.lit (L := L) 0 (by decide)).or (hx.conv8.conv64.shl 0 (by decide))
  rw [Nat.zero_or, Nat.pow_zero, Nat.mul_one, Nat.mod_eq_of_lt (by have := Nat.mod_lt m (show 0 < 256 by decide); omega)] at this
  exact this

theorem ev_bytes80 {x : IE} {m : Nat} (hx : Ev L x m) : Ev L (bytesOr0 x [8, 16, 24, 32, 40, 48, 56]) m := by
  have := ev_step hx (ev_step hx (ev_step hx (ev_step hx (ev_step hx (ev_step hx (ev_step hx (ev_first hx) (j := 16) rfl (by decide)) (j := 24) rfl (by decide)) (j := 32) rfl (by decide)) (j := 40) rfl (by decide)) (j := 48) rfl (by decide)) (j := 56) rfl (by decide)) (j := 64) rfl (by decide)
  rw [Nat.mod_eq_of_lt (show m < 2 ^ 64 from hx.lt)] at this
  exact this

theorem ev_bytes40 {x : IE} {m : Nat} (hx : Ev L x m) (h : m < 4294967296) : Ev L (bytesOr0 x [8, 16, 24]) m := by
  have := ev_step hx (ev_step hx (ev_step hx (ev_first hx) (j := 16) rfl (by decide)) (j := 24) rfl (by decide)) (j := 32) rfl (by decide)
  rw [Nat.mod_eq_of_lt (show m < 2 ^ 32 from h)] at this
  exact this

theorem Ev.same {x y : IE} {m n : Nat} (hx : Ev L x m) (hy : Ev L y n) (h : m = n) : x.eval L = y.eval L := by rw [hx.eq, hy.eq, h]

theorem and_low (m : Nat) (k : Nat) (h : m < 2 ^ k) : m &&& (2 ^ k - 1) = m := by rw [Nat.and_two_pow_sub_one_eq_mod, Nat.mod_eq_of_lt h]
theorem and_high (m : Nat) (h : m < 4294967296) : (m * 2 ^ 32) &&& 18446744069414584320 = m * 2 ^ 32 := by
  have : (18446744069414584320 : Nat) = (2 ^ 32 - 1) <<< 32 := by decide
  rw [this, ← Nat.shiftLeft_eq, ← Nat.shiftLeft_and_distrib, and_low m 32 h]

end Go.X

/-
  Functions of numbers that are known to answer true, or false, at what they are called with.
-/
namespace Go.X
open Go.RowKit
set_option linter.unusedSimpArgs false
set_option linter.unusedVariables false

variable {L : Nat → Value} {F : Nat → Prop} {w0 w : World} {e e' : Env} {s s' : St} {P : Program}

/-- A call that is known: the function, its arguments (kinds, numbers), what it answers. -/
structure Known where
  f : Nat
  args : List (Nat × IE)
  r : Bool

noncomputable section

def argsAre (l : List V) : List (Nat × IE) → Bool :=
  List.rec (motive := fun _ => List (Nat × IE) → Bool) (fun a => List.rec (motive := fun _ => Bool) true (fun _ _ _ => false) a)
    (fun v _ ih a => List.rec (motive := fun _ => Bool) false (fun q r _ => band (match v.num q.1 with | some x => x.beq q.2 | none => false) (ih r)) a) l

def knownIn (l : List Known) (f : FuncId) (args : List V) (s : St) : Option (V × St) :=
  List.rec (motive := fun _ => Option (V × St)) none (fun k _ ih => sel (band (Nat.beq f k.f) (argsAre args k.args)) (some (vb k.r, s)) ih) l

/-- One function that answers true, and some that are known. -/
def knowsAll (g : Nat) (l : List Known) (f : FuncId) (args : List V) (s : St) : Option (V × St) := sel (band (Nat.beq f g) (Nat.beq (llen args) 0)) (some (V.T, s)) (knownIn l f args s)

end

theorem argsAre_il : ∀ {l : List V} {a : List (Nat × IE)} {xs : List Value}, argsAre l a = true → il L e l = some xs → xs = a.map fun q => .int (kindOf q.1) (q.2.eval L)
  | [], [], xs, _, h => by rw [il_nil] at h; cases h; rfl
  | [], _ :: _, xs, h, _ => by cases h
  | _ :: _, [], xs, h, _ => by cases h
  | v :: l, q :: a, xs, h, hx => by
    obtain ⟨h1, h2⟩ := band_true.1 (show band (match v.num q.1 with | some x => x.beq q.2 | none => false) (argsAre l a) = true from h)
    obtain ⟨x, y, hv, hy, rfl⟩ := il_cons.1 hx
    rw [argsAre_il h2 hy]
    split at h1
    · rename_i z hz
      rw [num_iv hz] at hv
      cases hv
      rw [IE.beq_eq h1]
      rfl
    · cases h1

theorem enter_run {f : FuncId} (ht : enterTest P f = true) (xs : Array Value) (w : World) : (callFunc f xs).run P w = .ok (.enter f xs) w := by
  unfold enterTest at ht
  cases hfn : P.funcs[f]? with
  | none => rw [hfn] at ht; cases ht
  | some fn =>
    rw [hfn] at ht
    simp only [Bool.and_eq_true] at ht
    have hn : (fn.name == "runtime.NumGoroutine") = false := by simpa using ht.1
    have hk : fn.body.isNone = false := by
      have := ht.2
      cases hb : fn.body with
      | none => rw [hb] at this; cases this
      | some _ => rfl
    have hprog : ∀ w, (program : Sem Program).run P w = .ok P w := fun w => rfl
    unfold callFunc
    simp only [Sem.run_bind, hprog, Result.andThen_ok, hfn, hn, hk, Bool.false_eq_true, if_false]
    rfl

/-- What a known call does. -/
structure Known.Ok (L : Nat → Value) (P : Program) (k : Known) : Prop where
  enter : enterTest P k.f = true
  does : ∀ w, Calls P k.f (k.args.map fun q => Value.int (kindOf q.1) (q.2.eval L)).toArray w fun en w' => en = .returned (.bool k.r) ∧ Below w.heap.size w w'

theorem hookOk_all {c : Cfg} {g : Nat} {l : List Known} (hc : c.hook = knowsAll g l) (ht : enterTest c.P g = true) (hg : ∀ w, Calls c.P g #[] w fun en w' => en = .returned (.bool true) ∧ Below w.heap.size w w') (hl : ∀ k ∈ l, k.Ok L c.P) : HookOk L c := by
  intro F w0 f args s v s' xs e w h hx hr
  rw [hc] at h
  unfold knowsAll at h
  rw [sel_eq] at h
  split at h
  · rename_i hb
    have h0 : (knows g f args s) = some (v, s') := by unfold knows; rw [sel_eq, if_pos hb]; exact h
    exact hookOk_of (L := L) (c := { P := c.P, ext := c.ext, hook := knows g, facts := c.facts }) rfl ht hg F w0 f args s v s' xs e w h0 hx hr
  · clear hc
    induction l with
    | nil => cases h
    | cons k r ih =>
      have h : sel (band (Nat.beq f k.f) (argsAre args k.args)) (some (vb k.r, s)) (knownIn r f args s) = some (v, s') := h
      rw [sel_eq] at h
      split at h
      · rename_i hb
        cases h
        obtain ⟨h1, h2⟩ := band_true.1 hb
        obtain rfl := beq_true.1 h1
        rw [argsAre_il h2 hx]
        obtain ⟨k1, k2⟩ := hl k List.mem_cons_self
        refine ⟨enter_run k1 _ _, fun R hR => (k2 w).mono fun en w' ⟨hen, hb⟩ => ?_⟩
        subst hen
        exact hR e (.bool k.r) w' (Ext.refl _ _) (iv_vb _) (hr.grew hb)
      · exact ih (fun k hk => hl k (List.mem_cons_of_mem _ hk)) h

end Go.X

/-
  Calls in cases, where something is known ahead: a row of bytes that was handed in.
-/
namespace Go.X
open Go.RowKit
set_option linter.unusedSimpArgs false
set_option linter.unusedVariables false

noncomputable def DT.goodS (c : Cfg) (n : Nat) (f : FuncId) (l : List V) (s0 : St) (d : DT) : List Fact → Bool :=
  DT.rec (motive := fun _ => List Fact → Bool) (fun fs => answersTrue (callFn (c.under fs) n f l s0)) (fun _ => true)
    (fun op a b _ _ t e fs => band (cmpB op).isSome (band (t (⟨op, a, b, true⟩ :: fs)) (e (⟨op, a, b, false⟩ :: fs)))) d

variable {L : Nat → Value}

theorem called_from (hL : Leafy L) {c : Cfg} (hfol : c.P.follows .mixedOrders = true) (hE : ExtOk c) (hH : HookOk L c) {n : Nat} {f : FuncId} {l : List V} {xs : List Value} {s0 : St} {e0 : Env} {w : World}
    (hr : Rel L (fun b => b < w.heap.size) w e0 s0 w) (hl : il L e0 l = some xs) : ∀ (d : DT) (fs : List Fact), FactsOk L fs → (∀ gs ∈ d.deads fs, ¬ FactsOk L gs) → d.goodS c n f l s0 fs = true →
    Calls c.P f xs.toArray w fun en w' => en = .returned (.bool true) ∧ Below w.heap.size w w'
  | .run, fs, hF, _, h => by
    have h : answersTrue (callFn (c.under fs) n f l s0) = true := h
    cases hq : callFn (c.under fs) n f l s0 with
    | none => rw [hq] at h; cases h
    | some r =>
      obtain ⟨v, s'⟩ := r
      rw [hq] at h
      obtain ⟨_, hcall⟩ := callFn_knows (c := c.under fs) hL hF hE (fun F w0 => draw_ok hL hF hE hfol) hH n (fun b => b < w.heap.size) w f l s0 v s' xs e0 w hq hl hr
      refine hcall _ fun e' x w' he hx hr => ⟨?_, hr.below⟩
      rw [iv1 (beq_true.1 h)] at hx
      cases hx
      rfl
  | .dead, fs, hF, hd, _ => absurd hF (hd fs (by simp [DT.deads]))
  | .split op a b t e, fs, hF, hd, h => by
    obtain ⟨hs, h⟩ := band_true.1 (show band (cmpB op).isSome (band (t.goodS c n f l s0 (⟨op, a, b, true⟩ :: fs)) (e.goodS c n f l s0 (⟨op, a, b, false⟩ :: fs))) = true from h)
    obtain ⟨ht, he⟩ := band_true.1 h
    obtain ⟨g, hg⟩ := Option.isSome_iff_exists.1 hs
    cases hr1 : g (a.eval L) (b.eval L) with
    | true => exact called_from hL hfol hE hH hr hl t _ (factsOk_cons ⟨g, hg, hr1⟩ hF) (fun gs hgs => hd gs (by simp [DT.deads, hgs])) ht
    | false => exact called_from hL hfol hE hH hr hl e _ (factsOk_cons ⟨g, hg, hr1⟩ hF) (fun gs hgs => hd gs (by simp [DT.deads, hgs])) he

/-- A row of n bytes, leaves 0 and on. -/
def rowVs (n : Nat) : List V := (List.range n).map fun i => vx 4 (.leaf i)
noncomputable def rowCells (n : Nat) : CT := ofList (rowVs n) 0 (.c2 z2)
noncomputable def rowSt (n : Nat) : St := { heap := hPut Path.zero (some { cells := rowCells n, lit := true, room := 0, esz := 1, ro := true }) noObjs, nid := ⟨.d0, .d0, .d0, .d0, .d1⟩, ncap := 1 }
def rowEnv (b off cap low : Nat) : Env := ⟨fun p => if p = Path.zero then some (b, off) else none, fun k => if k = 0 then some cap else none, low⟩

/-- What stands in such a row. -/
theorem rowRel {w : World} {b off cap : Nat} {cs : Array Value} {t : TypeId} {fr : Nat × Nat} {n : Nat} (hw : w.heap[b]? = some (.cells cs t fr))
    (hc : ∀ k v, (rowCells n).get k = some v → ∃ x, cs[off + k]? = some x ∧ iv L (rowEnv b off cap w.heap.size) v = some x) :
    Rel L (fun b => b < w.heap.size) w (rowEnv b off cap w.heap.size) (rowSt n) w := by
  have hb := (Array.getElem?_eq_some_iff.1 hw).1
  have hget : ∀ id o, hGet id (rowSt n).heap = some o → id = Path.zero ∧ o = { cells := rowCells n, lit := true, room := 0, esz := 1, ro := true } := by
    intro id o h
    simp only [rowSt, hGet_put] at h
    split at h
    · rename_i hid
      cases h
      exact ⟨hid, rfl⟩
    · rw [hGet_none] at h; cases h
  refine ⟨rfl, rfl, rfl, Nat.le_refl _, fun _ h => h, fun _ _ => rfl, fun id o h => ?_, fun id id' o o' q q' h h' hne => ?_, fun id hid => ?_, fun k hk => ?_, Nat.le_refl _⟩
  · obtain ⟨rfl, rfl⟩ := hget id o h
    exact ⟨b, off, cs, t, fr, by simp [rowEnv], hw, ⟨fun h => (by cases h), fun _ => hb⟩, fun h => (by cases h), ⟨fun h => (by cases h), fun h => absurd rfl h⟩, hc⟩
  · exact absurd ((hget id o h).1.trans (hget id' o' h').1.symm) hne
  · have : id ≠ Path.zero := by
      rintro rfl
      exact absurd (show Path.num ⟨.d0, .d0, .d0, .d0, .d1⟩ ≤ Path.num Path.zero from hid) (by decide)
    simp [rowEnv, this]
  · have : k ≠ 0 := by
      have : 1 ≤ k := hk
      omega
    simp [rowEnv, this]

end Go.X
