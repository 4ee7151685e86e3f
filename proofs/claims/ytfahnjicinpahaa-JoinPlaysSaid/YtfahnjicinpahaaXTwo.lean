/- The reckoner's operations on memory, its calls, its regions: they are sound. -/
import Derived.Test.YtfahnjicinpahaaXOne
import Derived.Deep.Upon
import Derived.Laws.IdiomStrings
import Derived.Laws.BytesArg

/-
  All operations that but read the frame: one theorem.
-/
namespace Go.X
open Go.RowKit
set_option linter.unusedSimpArgs false
set_option linter.unusedVariables false

variable {L : Nat → Value} {e : Env} {w : World} {P : Program}

theorem failed_sound {asserted : TypeId} {ok : Bool} {r : V} (h : failed P asserted ok = some r) : ok = true ∧ ∃ z, (∀ w, (zeroValue asserted).run P w = .ok z w) ∧ iv L e r = some (.tuple #[z, .bool false]) := by
  obtain ⟨h1, h⟩ := chk_some.1 h
  obtain ⟨z, hz, h⟩ := bnd_some.1 h
  obtain ⟨q, hq, h⟩ := bnd_some.1 h
  cases h
  refine ⟨h1, z, fun w => ?_, iv_vtup (il_cons.2 ⟨z, [.bool false], ofValue_iv hq, il_cons.2 ⟨_, [], iv0 rfl, il_nil, rfl⟩, rfl⟩)⟩
  obtain ⟨i, hi, hz⟩ := bnd_some.1 hz
  unfold zeroValue
  simp only [Sem.run_bind, run_typeInfo w hi, Result.andThen_ok, hz]
  rfl

theorem missing_is {want : Array (String × TypeId)} {got : Array Method} : (want.toList.filter fun (name, sig) => !got.any fun m => m.name == name && m.sig == sig) = missing want got := by
  unfold missing
  congr 1
  funext q
  rw [Array.any_toList]
theorem missing_none {want : Array (String × TypeId)} {got : Array Method} (h : (missing want got).isEmpty = true) : Instr.missingMethod want got = none := by
  unfold Instr.missingMethod
  rw [missing_is]
  rw [List.isEmpty_iff.1 h]
  rfl
theorem least_some : ∀ {l : List String}, l ≠ [] → ∃ m, Instr.least l = some m
  | [], h => absurd rfl h
  | _ :: _, _ => ⟨_, rfl⟩
theorem filt {α : Type} (p : α → Bool) {l : List α} (h : l ≠ []) (h2 : l.filter (not ∘ p) = []) : l.filter p ≠ [] := by
  intro h1
  cases l with
  | nil => exact h rfl
  | cons a r =>
    cases hc : p a with
    | true => rw [List.filter_cons_of_pos hc] at h1; cases h1
    | false => rw [List.filter_cons_of_pos (by simp [hc])] at h2; cases h2
theorem missing_some {want : Array (String × TypeId)} {got : Array Method} (h : ¬ (missing want got).isEmpty = true) : ∃ m, Instr.missingMethod want got = some m := by
  unfold Instr.missingMethod
  rw [missing_is]
  have hne : ((missing want got).map (·.1)) ≠ [] := fun hc => h (List.isEmpty_iff.2 (List.map_eq_nil_iff.1 hc))
  generalize (missing want got).map (·.1) = l at hne ⊢
  simp only [List.partition_eq_filter_filter]
  by_cases h2 : l.filter (not ∘ fun x => x.contains '.') = []
  · have h1 : l.filter (fun x => x.contains '.') ≠ [] := filt _ hne h2
    obtain ⟨m, hm⟩ := least_some (l := (l.filter fun x => x.contains '.').map fun id => (id.splitOn ".").getLastD id) (fun hc => h1 (List.map_eq_nil_iff.1 hc))
    exact ⟨m, by rw [h2, hm]; rfl⟩
  · obtain ⟨m, hm⟩ := least_some h2
    exact ⟨m, by rw [hm]; rfl⟩

theorem typeAssert_sound {xType asserted : TypeId} {ok : Bool} {v r : V} {x : Value} (h : X.typeAssert P asserted ok v = some r) (hx : iv L e v = some x) : ∃ u, iv L e r = some u ∧ ∀ w, (Instr.typeAssert x xType asserted ok).run P w = .ok u w := by
  obtain ⟨d, hd, h⟩ := bnd_some.1 h
  split at h
  · rename_i want
    rw [sel_eq] at h
    split at h
    · rename_i ht
      rw [iv14 (V.is_true.1 ht)] at hx
      cases hx
      obtain ⟨rfl, z, hz, hr⟩ := failed_sound (L := L) (e := e) h
      refine ⟨_, hr, fun w => ?_⟩
      unfold Instr.typeAssert
      simp only [Sem.run_bind, run_underlying hd, Result.andThen_ok, if_true, hz]
      rfl
    · obtain ⟨ht, h⟩ := chk_some.1 h
      obtain ⟨inf, hinf, h⟩ := bnd_some.1 h
      obtain ⟨u, y, hl, hy, rfl⟩ := iv_iface (V.is_true.1 ht) hx
      rw [sel_eq] at h
      split at h
      · rename_i hm
        have hm := missing_none hm
        cases h
        cases ok with
        | true =>
          refine ⟨_, iv_vtup (il_cons.2 ⟨_, [.bool true], hx, il_cons.2 ⟨_, [], iv1 rfl, il_nil, rfl⟩, rfl⟩), fun w => ?_⟩
          unfold Instr.typeAssert
          simp only [Sem.run_bind, run_underlying hd, Result.andThen_ok, run_typeInfo w hinf, hm]
          rfl
        | false =>
          refine ⟨_, hx, fun w => ?_⟩
          unfold Instr.typeAssert
          simp only [Sem.run_bind, run_underlying hd, Result.andThen_ok, run_typeInfo w hinf, hm]
          rfl
      · rename_i hm
        obtain ⟨m, hm⟩ := missing_some hm
        obtain ⟨rfl, z, hz, hr⟩ := failed_sound (L := L) (e := e) h
        refine ⟨_, hr, fun w => ?_⟩
        unfold Instr.typeAssert
        simp only [Sem.run_bind, run_underlying hd, Result.andThen_ok, run_typeInfo w hinf, hm, if_true, hz]
        rfl
  · rename_i hni
    have hcase : ∀ (Y : Value), (Y = .nilIface ∨ ∃ t y, Y = .iface t y) → ∀ w, (Instr.typeAssert Y xType asserted ok).run P w =
        (match Y with
          | .nilIface => (if ok then do pure (.tuple #[← zeroValue asserted, .bool false]) else runtimePanic (.typeAssertion (some xType) none asserted "") : Sem Value)
          | .iface t y => if t = asserted then pure (if ok then .tuple #[y, .bool true] else y) else (if ok then do pure (.tuple #[← zeroValue asserted, .bool false]) else runtimePanic (.typeAssertion (some xType) (some t) asserted ""))
          | _ => pure Y : Sem Value).run P w := by
      intro Y hY w
      unfold Instr.typeAssert
      rw [Sem.run_bind, run_underlying hd]
      simp only [Result.andThen_ok]
      rcases hY with rfl | ⟨t, y, rfl⟩
      · cases d <;> first | rfl | exact absurd rfl (hni _)
      · cases d <;> first | rfl | exact absurd rfl (hni _)
    rw [sel_eq] at h
    split at h
    · rename_i ht
      rw [iv14 (V.is_true.1 ht)] at hx
      cases hx
      obtain ⟨rfl, z, hz, hr⟩ := failed_sound (L := L) (e := e) h
      refine ⟨_, hr, fun w => ?_⟩
      rw [hcase _ (.inl rfl)]
      simp only [if_true, Sem.run_bind, hz, Result.andThen_ok]
      rfl
    · obtain ⟨ht, h⟩ := chk_some.1 h
      obtain ⟨u, y, hl, hy, rfl⟩ := iv_iface (V.is_true.1 ht) hx
      rw [sel_eq] at h
      split at h
      · rename_i hta
        have hta := beq_true.1 hta
        rw [hl] at h
        obtain ⟨u', hu', h⟩ := bnd_some.1 h
        rw [lnth_eq] at hu'
        simp at hu'
        subst hu'
        cases h
        cases ok with
        | true =>
          refine ⟨_, iv_vtup (il_cons.2 ⟨y, [.bool true], hy, il_cons.2 ⟨_, [], iv1 rfl, il_nil, rfl⟩, rfl⟩), fun w => ?_⟩
          rw [hcase _ (.inr ⟨_, _, rfl⟩)]
          simp only [hta, if_true]
          rfl
        | false =>
          refine ⟨y, hy, fun w => ?_⟩
          rw [hcase _ (.inr ⟨_, _, rfl⟩)]
          simp only [hta, if_true]
          rfl
      · rename_i hta
        have hta : ¬ v.a = asserted := fun hc => hta (beq_true.2 hc)
        obtain ⟨rfl, z, hz, hr⟩ := failed_sound (L := L) (e := e) h
        refine ⟨_, hr, fun w => ?_⟩
        rw [hcase _ (.inr ⟨_, _, rfl⟩)]
        simp only [hta, if_false, if_true, Sem.run_bind, hz, Result.andThen_ok]
        rfl

theorem minV_cons (F : List Fact) (v u : V) (l : List V) : minV F v (u :: l) = chk (Nat.beq u.a v.a) ((lessV F u v).bnd fun r => minV F (sel r u v) l) := rfl
theorem maxV_cons (F : List Fact) (v u : V) (l : List V) : maxV F v (u :: l) = chk (Nat.beq u.a v.a) ((lessV F v u).bnd fun r => maxV F (sel r u v) l) := rfl
theorem lessV_sound {F : List Fact} (hF : FactsOk L F) {u v : V} {r : Bool} (h : lessV F u v = some r) : ∃ m n, iv L e u = some (.int (kindOf u.a) m) ∧ iv L e v = some (.int (kindOf v.a) n) ∧ r = decide (m < n) := by
  unfold lessV at h
  rw [sel_eq] at h
  split at h
  · rename_i hc
    obtain ⟨h1, h2⟩ := band_true.1 hc
    cases h
    exact ⟨_, _, iv2 (V.is_true.1 h2), iv2 (V.is_true.1 h1), by rw [ltF_eq]⟩
  · obtain ⟨a, ha, h⟩ := bnd_some.1 h
    obtain ⟨b, hb, h⟩ := bnd_some.1 h
    obtain ⟨g, hg, rfl⟩ := factOf_sound hF h
    cases hg
    exact ⟨_, _, num_iv ha, num_iv hb, by rw [ltF_eq]⟩
theorem minV_sound {F : List Fact} (hF : FactsOk L F) : ∀ {l : List V} {v r : V} {x : Value} {xs : List Value}, minV F v l = some r → iv L e v = some x → il L e l = some xs → ∃ u, iv L e r = some u ∧ ∀ w, (xs.foldlM Builtin.min2 x).run P w = .ok u w := by
  intro l
  induction l with
  | nil => intro v r x xs h hx hl; rw [il_nil] at hl; cases hl; cases h; exact ⟨x, hx, fun w => rfl⟩
  | cons u l ih =>
    intro v r x xs h hx hl
    obtain ⟨y, ys, hy, hys, rfl⟩ := il_cons.1 hl
    rw [minV_cons] at h
    obtain ⟨hc, h⟩ := chk_some.1 h
    have hc := beq_true.1 hc
    obtain ⟨q, hq, h⟩ := bnd_some.1 h
    obtain ⟨m, n, hm, hn, rfl⟩ := lessV_sound (e := e) hF hq
    rw [hm] at hy
    rw [hn] at hx
    cases hx
    cases hy
    have hsel : iv L e (sel (decide (m < n)) u v) = some (.int (kindOf v.a) (if m < n then m else n)) := by
      rw [sel_eq]
      by_cases hlt : m < n
      · simp [hlt, hm, hc]
      · simp [hlt, hn]
    obtain ⟨z, hz, hr⟩ := ih h hsel hys
    refine ⟨z, hz, fun w => ?_⟩
    rw [List.foldlM_cons, Sem.run_bind]
    have : (Builtin.min2 (.int (kindOf v.a) n) (.int (kindOf u.a) m)).run P w = .ok (.int (kindOf v.a) (if m < n then m else n)) w := by
      simp [Builtin.min2]
    rw [this]
    exact hr w
theorem maxV_sound {F : List Fact} (hF : FactsOk L F) : ∀ {l : List V} {v r : V} {x : Value} {xs : List Value}, maxV F v l = some r → iv L e v = some x → il L e l = some xs → ∃ u, iv L e r = some u ∧ ∀ w, (xs.foldlM Builtin.max2 x).run P w = .ok u w := by
  intro l
  induction l with
  | nil => intro v r x xs h hx hl; rw [il_nil] at hl; cases hl; cases h; exact ⟨x, hx, fun w => rfl⟩
  | cons u l ih =>
    intro v r x xs h hx hl
    obtain ⟨y, ys, hy, hys, rfl⟩ := il_cons.1 hl
    rw [maxV_cons] at h
    obtain ⟨hc, h⟩ := chk_some.1 h
    have hc := beq_true.1 hc
    obtain ⟨q, hq, h⟩ := bnd_some.1 h
    obtain ⟨n, m, hn, hm, rfl⟩ := lessV_sound (e := e) hF hq
    rw [hm] at hy
    rw [hn] at hx
    cases hx
    cases hy
    have hsel : iv L e (sel (decide (n < m)) u v) = some (.int (kindOf v.a) (if n < m then m else n)) := by
      rw [sel_eq]
      by_cases hlt : n < m
      · simp [hlt, hm, hc]
      · simp [hlt, hn]
    obtain ⟨z, hz, hr⟩ := ih h hsel hys
    refine ⟨z, hz, fun w => ?_⟩
    rw [List.foldlM_cons, Sem.run_bind]
    have : (Builtin.max2 (.int (kindOf v.a) n) (.int (kindOf u.a) m)).run P w = .ok (.int (kindOf v.a) (if n < m then m else n)) w := by
      simp [Builtin.max2]
    rw [this]
    exact hr w

theorem fieldsOk_mapM {fs : Array Field} (h : fieldsOk P fs.toList = true) : ∃ ps : Array (Nat × Nat), (∀ w, (fs.mapM fun (f : Field) => do pure (f.offset, ← Go.sizeOf f.type) : Sem (Array (Nat × Nat))).run P w = .ok ps w) ∧ ∀ i, ps[i]? = X.fieldPlace P fs i := by
  have key : ∀ (l : List Field), fieldsOk P l = true → ∃ ps : List (Nat × Nat), (∀ w, (l.mapM fun (f : Field) => do pure (f.offset, ← Go.sizeOf f.type) : Sem (List (Nat × Nat))).run P w = .ok ps w) ∧ ∀ i : Nat, ps[i]? = (l[i]?).bnd fun (f : Field) => (X.sizeOf P f.type).bnd fun n => some (f.offset, n) := by
    intro l
    induction l with
    | nil => intro _; exact ⟨[], fun w => rfl, fun i => by simp [Option.bnd]⟩
    | cons f l ih =>
      intro h
      simp only [fieldsOk, List.all_cons, Bool.and_eq_true] at h
      obtain ⟨ps, hps, hi⟩ := ih h.2
      obtain ⟨n, hn⟩ := Option.isSome_iff_exists.1 h.1
      refine ⟨(f.offset, n) :: ps, fun w => ?_, fun i => ?_⟩
      · rw [List.mapM_cons, Sem.run_bind, Sem.run_bind, sizeOf_run hn]
        simp only [Result.andThen_ok, Sem.run_pure, Sem.run_bind, hps]
      · cases i with
        | zero => simp [Option.bnd, hn]
        | succ i => simpa using hi i
  obtain ⟨ps, hps, hi⟩ := key fs.toList h
  refine ⟨ps.toArray, fun w => ?_, fun i => ?_⟩
  · rw [Array.mapM_eq_mapM_toList]
    show (Functor.map _ _ : Sem _).run P w = _
    rw [map_eq_pure_bind]
    rw [Sem.run_bind, hps w]
    rfl
  · unfold X.fieldPlace
    simpa using hi i

theorem zeroCells_sound {t : TypeId} {z : List V} (h : zeroCells P t = some z) : ∃ zv, (∀ w, (zeroValue t).run P w = .ok zv w) ∧ il L e z = some zv.cells.toList := by
  obtain ⟨zv, hz, h⟩ := bnd_some.1 h
  refine ⟨zv, fun w => ?_, ofValues_il h⟩
  obtain ⟨i, hi, hz⟩ := bnd_some.1 hz
  unfold zeroValue
  simp only [Sem.run_bind, run_typeInfo w hi, Result.andThen_ok, hz]
  rfl

theorem opds_one {x : Operand} {q : Opd} {tm : Tm} {N : Nat} {a : Act} {v : V} (ha : ARel L e tm N a) (h : opds [x] = some [q]) (hv : q tm = some v) : iv L e v = some (a.eval x) := by
  obtain ⟨y, r, hy, hr, he⟩ := mapO_some_cons.1 h
  cases he
  exact opd_sound hy ha hv

/-- **An operation that but reads the frame**: what the reckoner says it leaves, it leaves, in whatever world. -/
theorem pure_sound (hL : Leafy L) {c : Cfg} (hF : FactsOk L c.facts) {o : Oper} {f : Pure} {tm : Tm} {N : Nat} {a : Act} {v : V} (h : stage1 c o.op = some (.pure f)) (ha : ARel L e tm N a) (hv : f tm = some v) :
    ∃ x, iv L e v = some x ∧ ∀ w, (execOp a.eval o).run c.P w = .ok (.value x) w := by
  obtain ⟨dst, op, type, pos, after, guard⟩ := o
  simp only at h
  cases op <;> simp only [stage1] at h <;> first | (cases h; done) | skip
  case move q =>
    obtain ⟨p, hp, h⟩ := bnd_some.1 h
    cases h
    exact ⟨_, opd_sound hp ha hv, fun w => rfl⟩
  case assign q =>
    obtain ⟨p, hp, h⟩ := bnd_some.1 h
    cases h
    exact ⟨_, opd_sound hp ha hv, fun w => rfl⟩
  case pick k x y =>
    obtain ⟨k', hk, h⟩ := bnd_some.1 h
    obtain ⟨x', hx, h⟩ := bnd_some.1 h
    obtain ⟨y', hy, h⟩ := bnd_some.1 h
    cases h
    obtain ⟨q, hq, hv⟩ := bnd_some.1 hv
    obtain ⟨b, hb, hv⟩ := bnd_some.1 hv
    have hqi := opd_sound hk ha hq
    rw [asB_some hb] at hqi
    have hc : a.eval k = .bool b := (Option.some.inj hqi).symm
    cases b with
    | true => exact ⟨_, opd_sound hx ha hv, fun w => by simp [execOp, hc, asBool]⟩
    | false => exact ⟨_, opd_sound hy ha hv, fun w => by simp [execOp, hc, asBool]⟩
  case alloc => obtain ⟨_, _, h⟩ := bnd_some.1 h; cases h
  case box => obtain ⟨_, _, h⟩ := bnd_some.1 h; cases h
  case build t parts =>
    obtain ⟨l, hl, h⟩ := bnd_some.1 h
    obtain ⟨z, hz, h⟩ := bnd_some.1 h
    obtain ⟨d, hd, h⟩ := bnd_some.1 h
    obtain ⟨zv, hzv, hzi⟩ := zeroCells_sound (L := L) (e := e) hz
    have hparts : (parts.map fun (p : Nat × Operand) => (p.1, a.eval p.2)).toList = parts.toList.map fun (p : Nat × Operand) => (p.1, a.eval p.2) := by simp
    split at h
    · rename_i fs
      obtain ⟨hok, h⟩ := chk_some.1 h
      cases h
      obtain ⟨vs, hvs, hv⟩ := bnd_some.1 hv
      obtain ⟨q, hq, hv⟩ := bnd_some.1 hv
      cases hv
      have hp := parts_sound ha hl hvs
      obtain ⟨zs, hzs, hf⟩ := fill_sound hL hq hp hzi
      obtain ⟨ps, hps, hpi⟩ := fieldsOk_mapM hok
      refine ⟨_, iv_vagg hzs, fun w => run_v ?_⟩
      unfold Instr.build
      simp only [Sem.run_bind, hzv, Result.andThen_ok, run_underlying hd, hps]
      have : (fun (i : Nat) => ps[i]?) = X.fieldPlace c.P fs := funext hpi
      rw [this]
      have hf' : Instr.fill (X.fieldPlace c.P fs) zv.cells (parts.map fun (p : Nat × Operand) => (p.1, a.eval p.2)).toList = some zs.toArray := by rw [hparts]; simpa using hf
      rw [hf']
      rfl
    · rename_i n0 el
      obtain ⟨n, hn, h⟩ := bnd_some.1 h
      cases h
      obtain ⟨vs, hvs, hv⟩ := bnd_some.1 hv
      obtain ⟨q, hq, hv⟩ := bnd_some.1 hv
      cases hv
      have hp := parts_sound ha hl hvs
      obtain ⟨zs, hzs, hf⟩ := fill_sound hL hq hp hzi
      refine ⟨_, iv_vagg hzs, fun w => run_v ?_⟩
      unfold Instr.build
      simp only [Sem.run_bind, hzv, Result.andThen_ok, run_underlying hd, sizeOf_run hn]
      have hf' : Instr.fill (fun i => some (i * n, n)) zv.cells (parts.map fun (p : Nat × Operand) => (p.1, a.eval p.2)).toList = some zs.toArray := by rw [hparts]; simpa using hf
      rw [hf']
      rfl
    · cases h
  case buildSlice =>
    obtain ⟨_, _, h⟩ := bnd_some.1 h
    obtain ⟨_, _, h⟩ := bnd_some.1 h
    obtain ⟨_, h⟩ := chk_some.1 h
    cases h
  case load =>
    obtain ⟨_, _, h⟩ := bnd_some.1 h
    obtain ⟨_, _, h⟩ := bnd_some.1 h
    obtain ⟨_, _, h⟩ := bnd_some.1 h
    cases h
  case store =>
    obtain ⟨_, _, h⟩ := bnd_some.1 h
    obtain ⟨_, _, h⟩ := bnd_some.1 h
    obtain ⟨_, _, h⟩ := bnd_some.1 h
    cases h
  case nilCheck q =>
    obtain ⟨p, hp, h⟩ := bnd_some.1 h
    cases h
    obtain ⟨u, hu, hv⟩ := bnd_some.1 hv
    obtain ⟨hr, hsh⟩ := nilCheck_sound hv (opd_sound hp ha hu)
    refine ⟨_, hr, fun w => ?_⟩
    simp only [execOp]
    rcases hsh with ⟨x, hx⟩ | ⟨g, b, k, hx⟩ | ⟨t, y, hx⟩ <;> (rw [hx]; rfl)
  case binOp op t q y ty =>
    obtain ⟨g, hg, h⟩ := bnd_some.1 h
    obtain ⟨q', hq, h⟩ := bnd_some.1 h
    obtain ⟨y', hy, h⟩ := bnd_some.1 h
    cases h
    obtain ⟨u, hu, hv⟩ := bnd_some.1 hv
    obtain ⟨z, hz, hv⟩ := bnd_some.1 hv
    obtain ⟨x, hx, hr⟩ := stageBin_sound hF hg hv (opd_sound hq ha hu) (opd_sound hy ha hz)
    exact ⟨x, hx, fun w => run_v (hr w)⟩
  case unOp op t q =>
    obtain ⟨p, hp, h⟩ := bnd_some.1 h
    cases h
    obtain ⟨u, hu, hv⟩ := bnd_some.1 hv
    obtain ⟨x, hx, hr⟩ := unOp_sound (P := c.P) hv (opd_sound hp ha hu)
    exact ⟨x, hx, fun w => run_v (hr w)⟩
  case convert src dst' q =>
    obtain ⟨p, hp, h⟩ := bnd_some.1 h
    unfold stageC at h
    split at h <;> first | (cases h; done) | skip
    · rename_i hk
      cases h
      obtain ⟨u, hu, hv⟩ := bnd_some.1 hv
      unfold convKind at hk
      split at hk <;> first | (cases hk; done) | skip
      · rename_i k1 k2 hs hd
        have hkind : ((kindAt c.P dst').getD 0) = codeOf k2 := by simp [kindAt, hd, Option.bnd]
        rw [hkind] at hv
        obtain ⟨x, hx, hr⟩ := convNum_sound hF hs hd hv (opd_sound hp ha hu)
        exact ⟨x, hx, fun w => run_v (hr w)⟩
      all_goals (rw [sel_eq] at hk; split at hk <;> cases hk)
    · rename_i hk
      cases h
      obtain ⟨u, hu, hv⟩ := bnd_some.1 hv
      obtain ⟨ht, hv⟩ := chk_some.1 hv
      cases hv
      have hx := opd_sound hp ha hu
      unfold convKind at hk
      split at hk <;> first | (cases hk; done) | skip
      · rename_i hs hd
        refine ⟨_, hx, fun w => run_v ?_⟩
        rw [iv_str (V.is_true.1 ht)] at hx
        have hx := Option.some.inj hx
        rw [← hx]
        unfold Go.convert
        simp only [Sem.run_bind, run_underlying hs, run_underlying hd, Result.andThen_ok]
        rfl
      all_goals (rw [sel_eq] at hk; split at hk <;> cases hk)
  case makeInterface t q =>
    obtain ⟨p, hp, h⟩ := bnd_some.1 h
    obtain ⟨d, hd, h⟩ := bnd_some.1 h
    split at h
    · cases h
    · rename_i hni
      cases h
      obtain ⟨u, hu, hv⟩ := bnd_some.1 hv
      cases hv
      refine ⟨.iface t (a.eval q), ?_, fun w => run_v ?_⟩
      · rw [iv13 rfl]
        show (il L e [u]).bind _ = _
        rw [il_cons.2 ⟨_, [], opd_sound hp ha hu, il_nil, rfl⟩]
        rfl
      · unfold Instr.makeInterface
        simp only [Sem.run_bind, run_underlying hd, Result.andThen_ok]
        cases d <;> first | rfl | exact absurd rfl (hni _)
  case makeFunc fn first captured =>
    split at h
    · rename_i g
      obtain ⟨q1, h1, h⟩ := bnd_some.1 h
      obtain ⟨q2, h2, h⟩ := bnd_some.1 h
      cases h
      obtain ⟨v1, hv1, hv⟩ := bnd_some.1 hv
      obtain ⟨v2, hv2, hv⟩ := bnd_some.1 hv
      cases hv
      refine ⟨.func (.func g) (first.map a.eval) (captured.map a.eval), ?_, fun w => rfl⟩
      rw [iv12 rfl]
      show (il L e v1).bind (fun f => (il L e v2).bind fun k => some (Value.func (.func g) f.toArray k.toArray)) = _
      rw [opds_sound ha h1 hv1, opds_sound ha h2 hv2]
      show some (Value.func (.func g) _ _) = _
      congr 2 <;> (apply Array.ext'; simp)
    · cases h
  case makeSlice =>
    obtain ⟨_, _, h⟩ := bnd_some.1 h
    obtain ⟨_, _, h⟩ := bnd_some.1 h
    obtain ⟨_, _, h⟩ := bnd_some.1 h
    cases h
  case slice t q lo hi mx =>
    obtain ⟨q', hq, h⟩ := bnd_some.1 h
    obtain ⟨lo', hlo, h⟩ := bnd_some.1 h
    obtain ⟨hi', hhi, h⟩ := bnd_some.1 h
    obtain ⟨mx', hmx, h⟩ := bnd_some.1 h
    obtain ⟨d, hd, h⟩ := bnd_some.1 h
    cases h
    obtain ⟨u, hu, hv⟩ := bnd_some.1 hv
    obtain ⟨l, hl, hv⟩ := bnd_some.1 hv
    obtain ⟨h', hh, hv⟩ := bnd_some.1 hv
    obtain ⟨m, hm, hv⟩ := bnd_some.1 hv
    have rl := opdO_sound ha hlo hl
    have rh := opdO_sound ha hhi hh
    have rm := opdO_sound ha hmx hm
    cases m with
    | none =>
      cases mx with
      | some _ => exact rm.elim
      | none =>
        obtain ⟨x, hx, hr⟩ := slice_sound hF hd hv (opd_sound hq ha hu) rl rh
        exact ⟨x, hx, fun w => run_v (hr w)⟩
    | some m =>
      cases mx with
      | none => exact rm.elim
      | some mo =>
        obtain ⟨hb, hhb, hv⟩ := bnd_some.1 hv
        cases hhb
        cases hi with
        | none => exact rh.elim
        | some ho =>
          obtain ⟨x, hx, hr⟩ := slice3_sound hd hv (opd_sound hq ha hu) rl rh rm
          exact ⟨x, hx, fun w => run_v (hr w)⟩
  case fieldAddr t q k =>
    obtain ⟨p, hp, h⟩ := bnd_some.1 h
    obtain ⟨f', hf, h⟩ := bnd_some.1 h
    obtain ⟨n, hn, h⟩ := bnd_some.1 h
    obtain ⟨h0, h⟩ := chk_some.1 h
    cases h
    obtain ⟨u, hu, hv⟩ := bnd_some.1 hv
    rw [bnot_true] at h0
    obtain ⟨x, hx, hr⟩ := fieldAddr_sound hf hn (fun hc => by rw [hc] at h0; cases h0) hv (opd_sound hp ha hu)
    exact ⟨x, hx, fun w => run_v (hr w)⟩
  case field t q k =>
    obtain ⟨p, hp, h⟩ := bnd_some.1 h
    obtain ⟨f', hf, h⟩ := bnd_some.1 h
    obtain ⟨ag, hag, h⟩ := bnd_some.1 h
    obtain ⟨n, hn, h⟩ := bnd_some.1 h
    cases h
    obtain ⟨u, hu, hv⟩ := bnd_some.1 hv
    obtain ⟨x, hx, hr⟩ := fieldV_sound hf hag hn hv (opd_sound hp ha hu)
    exact ⟨x, hx, fun w => run_v (hr w)⟩
  case indexAddr t q k =>
    obtain ⟨q', hq, h⟩ := bnd_some.1 h
    obtain ⟨k', hk, h⟩ := bnd_some.1 h
    obtain ⟨d, hd, h⟩ := bnd_some.1 h
    split at h
    · obtain ⟨n, hn, h⟩ := bnd_some.1 h
      cases h
      obtain ⟨u, hu, hv⟩ := bnd_some.1 hv
      obtain ⟨z, hz, hv⟩ := bnd_some.1 hv
      obtain ⟨x, hx, hr⟩ := indexAddrS_sound hF hd hn hv (opd_sound hq ha hu) (opd_sound hk ha hz)
      exact ⟨x, hx, fun w => run_v (hr w)⟩
    · obtain ⟨n, hn, h⟩ := bnd_some.1 h
      cases h
      obtain ⟨u, hu, hv⟩ := bnd_some.1 hv
      obtain ⟨z, hz, hv⟩ := bnd_some.1 hv
      obtain ⟨x, hx, hr⟩ := indexAddrA_sound hd hn hv (opd_sound hq ha hu) (opd_sound hk ha hz)
      exact ⟨x, hx, fun w => run_v (hr w)⟩
    · cases h
  case index t q k =>
    obtain ⟨q', hq, h⟩ := bnd_some.1 h
    obtain ⟨k', hk, h⟩ := bnd_some.1 h
    obtain ⟨d, hd, h⟩ := bnd_some.1 h
    split at h
    · obtain ⟨ag, hag, h⟩ := bnd_some.1 h
      obtain ⟨n, hn, h⟩ := bnd_some.1 h
      cases h
      obtain ⟨u, hu, hv⟩ := bnd_some.1 hv
      obtain ⟨z, hz, hv⟩ := bnd_some.1 hv
      obtain ⟨x, hx, hr⟩ := indexA_sound hd hag hn hv (opd_sound hq ha hu) (opd_sound hk ha hz)
      exact ⟨x, hx, fun w => run_v (hr w)⟩
    · cases h
      obtain ⟨u, hu, hv⟩ := bnd_some.1 hv
      obtain ⟨z, hz, hv⟩ := bnd_some.1 hv
      obtain ⟨x, hx, hr⟩ := indexStr_sound hd hv (opd_sound hq ha hu) (opd_sound hk ha hz)
      exact ⟨x, hx, fun w => run_v (hr w)⟩
    · cases h
  case typeAssert q xt asserted ok =>
    obtain ⟨p, hp, h⟩ := bnd_some.1 h
    cases h
    obtain ⟨u, hu, hv⟩ := bnd_some.1 hv
    obtain ⟨x, hx, hr⟩ := typeAssert_sound (xType := xt) hv (opd_sound hp ha hu)
    exact ⟨x, hx, fun w => run_v (hr w)⟩
  case extract q k =>
    obtain ⟨p, hp, h⟩ := bnd_some.1 h
    cases h
    obtain ⟨u, hu, hv⟩ := bnd_some.1 hv
    obtain ⟨x, hx, hr⟩ := extract_sound (P := c.P) hv (opd_sound hp ha hu)
    exact ⟨x, hx, fun w => run_v (hr w)⟩
  case call k =>
    obtain ⟨callee, args, argTypes⟩ := k
    simp only at h
    split at h
    · rename_i b
      obtain ⟨l, hl, h⟩ := bnd_some.1 h
      have hex : ∀ w, (execOp a.eval ⟨dst, .call ⟨.builtin b, args, argTypes⟩, type, pos, after, guard⟩).run c.P w = (builtin b argTypes type (args.map fun | .const _ => true | _ => false) (args.map a.eval)).run c.P w := fun w => rfl
      split at h
      · rename_i q
        obtain ⟨t, ht, h⟩ := bnd_some.1 h
        obtain ⟨d, hd, h⟩ := bnd_some.1 h
        cases h
        obtain ⟨u, hu, hv⟩ := bnd_some.1 hv
        have hlen := mapO_length hl
        obtain ⟨x0, rfl⟩ : ∃ x0, args = #[x0] := by
          obtain ⟨la⟩ := args
          match la, hlen with
          | [x0], _ => exact ⟨x0, rfl⟩
        obtain ⟨x, hx, hr⟩ := vlen_sound hd hv (opds_one ha hl hu) argTypes type ht
        refine ⟨x, hx, fun w => ?_⟩
        rw [hex]
        refine run_v ?_
        show (Builtin.len_ argTypes type (Array.map a.eval #[x0])).run c.P w = _
        simpa using hr w
      · obtain ⟨_, h⟩ := chk_some.1 h
        obtain ⟨_, _, h⟩ := bnd_some.1 h
        obtain ⟨_, h⟩ := chk_some.1 h
        cases h
      · obtain ⟨_, _, h⟩ := bnd_some.1 h
        cases h
      · rename_i q r
        cases h
        obtain ⟨u, hu, hv⟩ := bnd_some.1 hv
        obtain ⟨us, hus, hv⟩ := bnd_some.1 hv
        obtain ⟨la⟩ := args
        cases la with
        | nil => cases hl
        | cons x0 la =>
          obtain ⟨y, r', hy, hr', he⟩ := mapO_some_cons.1 hl
          cases he
          obtain ⟨x, hx, hr⟩ := minV_sound (P := c.P) hF hv (opd_sound hy ha hu) (opds_sound ha hr' hus)
          refine ⟨x, hx, fun w => ?_⟩
          rw [hex]
          refine run_v ?_
          show (Builtin.min_ argTypes type (Array.map a.eval (x0 :: la).toArray)).run c.P w = _
          simpa [Builtin.min_] using hr w
      · rename_i q r
        cases h
        obtain ⟨u, hu, hv⟩ := bnd_some.1 hv
        obtain ⟨us, hus, hv⟩ := bnd_some.1 hv
        obtain ⟨la⟩ := args
        cases la with
        | nil => cases hl
        | cons x0 la =>
          obtain ⟨y, r', hy, hr', he⟩ := mapO_some_cons.1 hl
          cases he
          obtain ⟨x, hx, hr⟩ := maxV_sound (P := c.P) hF hv (opd_sound hy ha hu) (opds_sound ha hr' hus)
          refine ⟨x, hx, fun w => ?_⟩
          rw [hex]
          refine run_v ?_
          show (Builtin.max_ argTypes type (Array.map a.eval (x0 :: la).toArray)).run c.P w = _
          simpa [Builtin.max_] using hr w
      · cases h
    · cases h

end Go.X

/-
  Operations on memory, first half: new blocks, loads, stores.
-/
namespace Go.X
open Go.RowKit
set_option linter.unusedSimpArgs false
set_option linter.unusedVariables false

variable {L : Nat → Value} {F : Nat → Prop} {w0 w : World} {e e' : Env} {s s' : St} {P : Program}

/-- The operation leaves x, in the world w'. -/
def Does (P : Program) (o : Oper) (a : Act) (w : World) (x : Value) (w' : World) : Prop :=
  (execOp a.eval o).run P w = .ok (.value x) w' ∨ ((execOp a.eval o).run P w = .ok .skip w' ∧ x = Go.undef)

theorem Does.wp {o : Oper} {a : Act} {w' : World} {x : Value} {K : Act → World → Prop} {Q : Exit → Act → World → Prop} (h : Does P o a w x w') (hk : K (a.put o.dst x) w') : o.wp P a w K Q := by
  unfold Oper.wp
  rcases h with h | ⟨h, rfl⟩
  · rw [h]; exact hk
  · rw [h]; exact hk

theorem run_u {s : Sem Unit} {w' : World} (h : s.run P w = .ok () w') : (do s; pure Next.skip : Sem Next).run P w = .ok .skip w' := by
  rw [Sem.run_bind, h]; rfl
theorem run_v' {s : Sem Value} {x : Value} {w' : World} (h : s.run P w = .ok x w') : (do pure (Next.value (← s)) : Sem Next).run P w = .ok (.value x) w' := by
  rw [Sem.run_bind, h]; rfl

/-- What a step in memory has to be. -/
def Steps1 (L : Nat → Value) (F : Nat → Prop) (w0 : World) (P : Program) (e : Env) (s : St) (w : World) (sem : Sem Value) (v : V) (s' : St) : Prop :=
  ∃ e' x w', Ext e e' s s' ∧ iv L e' v = some x ∧ Rel L F w0 e' s' w' ∧ sem.run P w = .ok x w'

/-! Zero's cells, again and again -/

def rep {α : Type} (z : List α) : Nat → List α
  | 0 => []
  | n + 1 => z ++ rep z n

theorem rep_length {α : Type} (z : List α) : ∀ n, (rep z n).length = n * z.length
  | 0 => by simp [rep]
  | n + 1 => by rw [rep, List.length_append, rep_length z n, Nat.add_mul]; omega

theorem repeatCells_il {z : List V} {zs : List Value} (h : il L e z = some zs) : ∀ n, il L e (repeatCells z n) = some (rep zs n)
  | 0 => il_nil
  | n + 1 => il_append.2 ⟨zs, rep zs n, h, repeatCells_il h n, rfl⟩

theorem rep_get {α : Type} (z : List α) : ∀ (n i : Nat), i < n * z.length → (rep z n)[i]? = z[i % z.length]?
  | 0, i, h => by simp at h
  | n + 1, i, h => by
    rw [rep]
    rcases Nat.lt_or_ge i z.length with hi | hi
    · rw [List.getElem?_append_left hi, Nat.mod_eq_of_lt hi]
    · rw [List.getElem?_append_right hi, rep_get z n (i - z.length) (by rw [Nat.add_mul] at h; omega)]
      rw [Nat.mod_eq_sub_mod hi]

theorem rep_range (z : List Value) (n m : Nat) (hm : z.length = m) (h0 : m ≠ 0) : (Array.range (n * m)).map (fun i => z.toArray[i % z.toArray.size]!) = (rep z n).toArray := by
  subst hm
  apply Array.ext
  · simp [rep_length]
  · intro i h1 h2
    simp at h1
    have := rep_get z n i h1
    have hlt : i % z.length < z.length := Nat.mod_lt _ (by omega)
    rw [List.getElem?_eq_getElem hlt, List.getElem?_eq_getElem (by rw [rep_length]; exact h1)] at this
    simp only [Array.getElem_map, Array.getElem_range, List.getElem_toArray, List.size_toArray]
    rw [getElem!_pos _ _ (by simpa using hlt)]
    simpa using (Option.some.inj this).symm

theorem elemZ_some {t : TypeId} {r : List V × Nat × Nat} (h : elemZ P t = some r) : ∃ el inf zv, P.underlying t = some (.slice el) ∧ P.info? el = some inf ∧ inf.zero = some zv ∧ ofValues zv.cells.toList = some r.1 ∧
    inf.size = r.2.1 ∧ inf.bytes = r.2.2 ∧ zv.cells.size = inf.size ∧ inf.size ≠ 0 := by
  obtain ⟨d, hd, h⟩ := bnd_some.1 h
  obtain ⟨el, hel, h⟩ := bnd_some.1 h
  obtain ⟨inf, hi, h⟩ := bnd_some.1 h
  obtain ⟨z, hz, h⟩ := bnd_some.1 h
  obtain ⟨hc, h⟩ := chk_some.1 h
  cases h
  obtain ⟨h1, h2⟩ := band_true.1 hc
  obtain ⟨zv, hzv, hz⟩ := bnd_some.1 hz
  obtain ⟨inf', hi', hzv⟩ := bnd_some.1 hzv
  rw [hi] at hi'; cases hi'
  have hlen := il_length (ofValues_il (L := fun _ => .bool true) (e := ⟨fun _ => none, fun _ => none, 0⟩) hz)
  refine ⟨el, inf, zv, ?_, hi, hzv, hz, rfl, rfl, ?_, ?_⟩
  · rw [hd]
    cases d <;> first | (cases hel; rfl) | cases hel
  · have := beq_true.1 h1
    rw [llen_eq] at this
    rw [← this]
    simpa using hlen
  · intro h0
    rw [bnot_true, h0] at h2
    cases h2

/-! New blocks -/

theorem xRow_sound (hr : Rel L F w0 e s w) {cs : List V} {xs : Array Value} {t : TypeId} {v : V} (h : (newRow cs s).bnd (fun s' => some (vp s.nid 0, s')) = some (v, s')) (hx : il L e cs = some xs.toList) :
    ∃ e', Ext e e' s s' ∧ iv L e' v = some (.pointer (some ⟨w.heap.size, 0, none⟩)) ∧ Rel L F w0 e' s' { w with heap := w.heap.push (.cells xs t) } := by
  obtain ⟨s1, h1, h⟩ := bnd_some.1 h
  cases h
  obtain ⟨e1, hext, hb, hrel⟩ := hr.newRow (t := t) h1 hx
  refine ⟨e1, hext, ?_, by simpa using hrel⟩
  rw [iv_vp hb]

theorem run_zeroValue {t : TypeId} {inf : TypeInfo} {zv : Value} (hi : P.info? t = some inf) (hz : inf.zero = some zv) (w : World) : (zeroValue t).run P w = .ok zv w := by
  unfold zeroValue
  simp only [Sem.run_bind, run_typeInfo w hi, Result.andThen_ok, hz]
  rfl

theorem run_newRow (t : TypeId) (cs : Array Value) (w : World) : (Go.newRow t cs).run P w = .ok ⟨w.heap.size, 0, none⟩ { w with heap := w.heap.push (.cells cs t) } := by
  unfold Go.newRow
  rw [Sem.run_bind, run_newObj]
  rfl

theorem alloc_sound (hr : Rel L F w0 e s w) {el : TypeId} {z : List V} {v : V} (hz : X.zeroCells P el = some z) (h : (newRow z s).bnd (fun s' => some (vp s.nid 0, s')) = some (v, s')) :
    Steps1 L F w0 P e s w (Instr.alloc el true (.tuple #[])) v s' := by
  obtain ⟨zv, hzv, hzi⟩ := zeroCells_sound (L := L) (e := e) hz
  obtain ⟨e', hext, hv, hrel⟩ := xRow_sound (t := el) hr h hzi
  refine ⟨e', _, _, hext, hv, hrel, ?_⟩
  unfold Instr.alloc Go.newVar
  simp only [Sem.run_bind, hzv, Result.andThen_ok, run_newRow]
  rfl

theorem box_sound (hL : Leafy L) (hr : Rel L F w0 e s w) {el : TypeId} {u v : V} {x : Value} (hu : iv L e u = some x) (h : (newRow u.cells s).bnd (fun s' => some (vp s.nid 0, s')) = some (v, s')) :
    Steps1 L F w0 P e s w (Instr.box el x) v s' := by
  obtain ⟨e', hext, hv, hrel⟩ := xRow_sound (t := el) hr h (iv_cells hL hu)
  refine ⟨e', _, _, hext, hv, hrel, ?_⟩
  unfold Instr.box Go.newVar
  simp only [Sem.run_bind, run_newRow, Result.andThen_ok]
  rfl

theorem buildSlice_run (hL : Leafy L) {t : TypeId} {z : List V × Nat × Nat} {len : Nat} {l : List (Nat × V)} {r : Array (Nat × Value)} {q : List V} (hz : elemZ P t = some z)
    (hlen : Nat.ble (len * z.2.1) 16777216 = true) (hp : PartsRel L e l r.toList) (hq : fill (fun i => some (i * z.2.1, z.2.1)) l (repeatCells z.1 len) = some q) :
    ∃ el zs, il L e q = some zs ∧ ∀ w, (Instr.buildSlice t len r).run P w = .ok (.slice (some ⟨w.heap.size, 0, none⟩) len len) { w with heap := w.heap.push (.cells zs.toArray el) } := by
  obtain ⟨el, inf, zv, hd, hi, hzv, hzl, hs1, hs2, hsz, h0⟩ := elemZ_some hz
  have hzi := ofValues_il (L := L) (e := e) hzl
  obtain ⟨zs, hzs, hf⟩ := fill_sound hL hq hp (repeatCells_il hzi len)
  refine ⟨el, zs, hzs, fun w => ?_⟩
  have hle := ble_true.1 hlen
  unfold Instr.buildSlice
  have hsize : ∀ w, (Go.sizeOf el).run P w = .ok z.2.1 w := fun w => by
    unfold Go.sizeOf
    rw [Sem.run_bind, run_typeInfo w hi, ← hs1]; rfl
  have hrange : (Array.range (len * z.2.1)).map (fun i => zv.cells[i % zv.cells.size]!) = (rep zv.cells.toList len).toArray := by
    have := rep_range zv.cells.toList len z.2.1 (by simp [hsz, hs1]) (by rw [← hs1]; exact h0)
    simpa using this
  have h24 : ¬ (len * z.2.1 > 2 ^ 24) := by omega
  simp only [Sem.run_bind, run_underlying hd, Result.andThen_ok, hsize, if_neg h24]
  by_cases hl0 : len * z.2.1 = 0
  · have hl : len = 0 := by
      rcases Nat.mul_eq_zero.1 hl0 with h | h
      · exact h
      · exact absurd (hs1.trans h) h0
    subst hl
    simp only [Nat.zero_mul, if_true, Sem.run_bind, Sem.run_pure, Result.andThen_ok]
    have hf' : Instr.fill (fun i => some (i * z.2.1, z.2.1)) ((Array.range 0).map fun x => (#[] : Array Value)[x % (#[] : Array Value).size]!) r.toList = some zs.toArray := by
      have : (Array.range 0).map (fun x => (#[] : Array Value)[x % (#[] : Array Value).size]!) = (rep zv.cells.toList 0).toArray := by simp [rep]
      rw [this]; exact hf
    rw [hf']
    simp only [Sem.run_bind, run_newRow, Result.andThen_ok]
    rfl
  · simp only [if_neg hl0, Sem.run_bind, run_zeroValue hi hzv, Result.andThen_ok, Sem.run_pure]
    rw [hrange, hf]
    simp only [Sem.run_bind, run_newRow, Result.andThen_ok]
    rfl

theorem buildSlice_sound (hL : Leafy L) (hr : Rel L F w0 e s w) {t : TypeId} {z : List V × Nat × Nat} {len : Nat} {l : List (Nat × V)} {r : Array (Nat × Value)} {q : List V} {v : V} (hz : elemZ P t = some z)
    (hlen : Nat.ble (len * z.2.1) 16777216 = true) (hp : PartsRel L e l r.toList) (hq : fill (fun i => some (i * z.2.1, z.2.1)) l (repeatCells z.1 len) = some q)
    (h : (newRow q s).bnd (fun s' => some (vsl s.nid 0 len len, s')) = some (v, s')) :
    Steps1 L F w0 P e s w (Instr.buildSlice t len r) v s' := by
  obtain ⟨el, zs, hzs, hrun⟩ := buildSlice_run (P := P) hL hz hlen hp hq
  obtain ⟨s1, h1, h⟩ := bnd_some.1 h
  cases h
  obtain ⟨e1, hext, hb, hrel⟩ := hr.newRow (t := el) h1 hzs
  exact ⟨e1, _, _, hext, iv_vsl hb, hrel, hrun w⟩

theorem makeSlice_run {t : TypeId} {z : List V × Nat × Nat} {p q : V} {n k : Nat} {x y : Value} (hz : elemZ P t = some z) (hx : iv L e p = some x) (hy : iv L e q = some y)
    (hp : p.asNat = some n) (hq : q.asNat = some k) (hnk : n ≤ k) (hkb : k * z.2.2 ≤ 281474976710656) (hk48 : k ≤ 281474976710656) :
    ∃ el zs, il L e (repeatCells z.1 k) = some zs ∧ ∀ w, (Instr.makeSlice t x y).run P w = .ok (.slice (some ⟨w.heap.size, 0, none⟩) n k) { w with heap := w.heap.push (.cells zs.toArray el) } := by
  obtain ⟨el, inf, zv, hd, hi, hzv, hzl, hs1, hs2, hsz, h0⟩ := elemZ_some hz
  have hzi := ofValues_il (L := L) (e := e) hzl
  obtain ⟨hp1, hp2⟩ := asNat_some hp
  obtain ⟨hq1, hq2⟩ := asNat_some hq
  rw [iv2 hp1, hp2] at hx
  rw [iv2 hq1, hq2] at hy
  cases hx; cases hy
  refine ⟨el, _, repeatCells_il hzi k, fun w => ?_⟩
  have hw : ∀ m : Nat, m ≤ 281474976710656 → IntKind.i64.wrap (Int.ofNat m) = (m : Int) := fun m hm => by
    simp [IntKind.wrap, IntKind.signed, IntKind.bits]; omega
  have hrange : (Array.range (k * z.2.1)).map (fun i => zv.cells[i % zv.cells.size]!) = (rep zv.cells.toList k).toArray := by
    have := rep_range zv.cells.toList k z.2.1 (by simp [hsz, hs1]) (by rw [← hs1]; exact h0)
    simpa using this
  have hsize : ∀ w, (Go.sizeOf el).run P w = .ok z.2.1 w := fun w => by
    unfold Go.sizeOf
    rw [Sem.run_bind, run_typeInfo w hi, ← hs1]; rfl
  have hbk : (z.2.2 : Int) * (k : Int) ≤ 281474976710656 := by rw [← Int.natCast_mul, Nat.mul_comm]; omega
  unfold Instr.makeSlice
  simp only [Sem.run_bind, run_underlying hd, Result.andThen_ok, asInt, asIntOf, Sem.run_pure, run_typeInfo w hi, hw n (by omega), hw k hk48, hs2]
  have hc : ((decide ((k : Int) < 0) || decide ((z.2.2 : Int) * (k : Int) > 2 ^ 48)) || decide ((n : Int) < 0) || decide ((n : Int) > (k : Int))) = false := by
    simp only [Bool.or_eq_false_iff, decide_eq_false_iff_not]
    refine ⟨⟨⟨?_, ?_⟩, ?_⟩, ?_⟩ <;> omega
  simp only [hc, Bool.false_eq_true, if_false, run_askRoom, Result.andThen_ok, Sem.run_bind, hsize, Int.toNat_natCast]
  by_cases hl0 : k * z.2.1 = 0
  · have hl : k = 0 := by
      rcases Nat.mul_eq_zero.1 hl0 with h | h
      · exact h
      · exact absurd (hs1.trans h) h0
    subst hl
    simp only [Nat.zero_mul, if_true, Sem.run_pure, Result.andThen_ok, Sem.run_bind, run_newRow]
    simp [rep]
    rw [show (Array.range 0).map (fun _ => (default : Value)) = #[] from Array.ext' (by simp)]
  · simp only [if_neg hl0, Sem.run_bind, run_zeroValue hi hzv, Result.andThen_ok, Sem.run_pure]
    rw [hrange]
    simp only [Sem.run_bind, run_newRow, Result.andThen_ok]

theorem makeSlice_sound (hr : Rel L F w0 e s w) {t : TypeId} {z : List V × Nat × Nat} {p q : V} {n k : Nat} {v : V} {x y : Value} (hz : elemZ P t = some z) (hx : iv L e p = some x) (hy : iv L e q = some y)
    (hp : p.asNat = some n) (hq : q.asNat = some k) (hnk : n ≤ k) (hkb : k * z.2.2 ≤ 281474976710656) (hk48 : k ≤ 281474976710656)
    (h : (newRow (repeatCells z.1 k) s).bnd (fun s' => some (vsl s.nid 0 n k, s')) = some (v, s')) :
    Steps1 L F w0 P e s w (Instr.makeSlice t x y) v s' := by
  obtain ⟨el, zs, hzs, hrun⟩ := makeSlice_run (P := P) hz hx hy hp hq hnk hkb hk48
  obtain ⟨s1, h1, h⟩ := bnd_some.1 h
  cases h
  obtain ⟨e1, hext, hb, hrel⟩ := hr.newRow (t := el) h1 hzs
  exact ⟨e1, _, _, hext, iv_vsl hb, hrel, hrun w⟩

/-! Loads and stores -/

theorem load_sound (hr : Rel L F w0 e s w) {t : TypeId} {ag : Bool} {n : Nat} {u v : V} {p : Path × Nat} {x : Value} (ha : X.isAgg P t = some ag) (hn : X.sizeOf P t = some n) (hu : iv L e u = some x) (hp : u.asP = some p)
    (hv : loadVarN ag n s p.1 p.2 = some v) : ∃ y, iv L e v = some y ∧ (Instr.loadAt t x).run P w = .ok y w := by
  obtain ⟨h4, rfl⟩ := asP_some.1 hp
  obtain ⟨q, hq, rfl⟩ := iv_ptr h4 hu
  obtain ⟨y, hy, hrun⟩ := hr.loadVar ha hn hv hq
  refine ⟨y, hy, ?_⟩
  unfold Instr.loadAt
  simp only [Instr.sureAddr, Sem.run_bind, Sem.run_pure, Result.andThen_ok]
  exact hrun

theorem toldCell_sound {FF : List Fact} (hF : FactsOk L FF) (hr : Rel L F w0 e s w) {id : Path} {off : Nat} {v : V} {q : Nat × Nat} (h : toldCell FF s id off = some v) (hq : e.blk id = some q) :
    ∃ o x, hGet id s.heap = some o ∧ o.gs ≠ 0 ∧ (off : Int) < o.gn.eval L ∧ iv L e v = some x ∧ w.cell? ⟨q.1, q.2 + off, none⟩ = some x := by
  obtain ⟨o, ho, h⟩ := bnd_some.1 h
  obtain ⟨hg, h⟩ := chk_some.1 h
  obtain ⟨r, hrf, h⟩ := bnd_some.1 h
  obtain ⟨hrt, h⟩ := chk_some.1 h
  cases h
  subst hrt
  have hgs : o.gs ≠ 0 := fun hc => by rw [hc] at hg; cases hg
  have hlt := of_decide_eq_true (fact_lss hF hrf).symm
  have hlt : (off : Int) < o.gn.eval L := hlt
  obtain ⟨b, base, cs, t, fr, hb, hw, _, _, hroom, _⟩ := hr.objs id o ho
  rw [hq] at hb
  cases hb
  refine ⟨o, _, ho, hgs, hlt, iv_vk hF _ _, ?_⟩
  simp only [World.cell?, hw]
  exact (hroom.2 hgs).2.2 off hlt

theorem load_sound2 {FF : List Fact} (hF : FactsOk L FF) (hr : Rel L F w0 e s w) {t : TypeId} {ag : Bool} {n : Nat} {u v : V} {p : Path × Nat} {x : Value} (ha : X.isAgg P t = some ag) (hn : X.sizeOf P t = some n) (hu : iv L e u = some x) (hp : u.asP = some p)
    (hv : loadF FF ag n s p.1 p.2 = some v) : ∃ y, iv L e v = some y ∧ (Instr.loadAt t x).run P w = .ok y w := by
  unfold loadF at hv
  split at hv
  · rename_i v' hv'
    cases hv
    exact load_sound hr ha hn hu hp hv'
  · cases ag with
    | true => cases hv
    | false =>
      simp only [sel_false] at hv
      obtain ⟨h4, rfl⟩ := asP_some.1 hp
      obtain ⟨q, hq, rfl⟩ := iv_ptr h4 hu
      obtain ⟨o, y, _, _, _, hy, hcell⟩ := toldCell_sound hF hr hv hq
      refine ⟨y, hy, ?_⟩
      unfold Instr.loadAt
      simp only [Instr.sureAddr, Sem.run_bind, Sem.run_pure, Result.andThen_ok]
      unfold Go.loadVar
      rw [Sem.run_bind, isAgg_run ha]
      simp [hcell]

theorem storeRow_sound (hL : Leafy L) (hr : Rel L F w0 e s w) {id : Path} {off : Nat} {l : List V} {xs : List Value} {q : Nat × Nat} (h : storeRow s id off l = some s') (hx : il L e l = some xs) (hq : e.blk id = some q) :
    ∃ w', (∀ (b i : Nat), b + i = q.2 + off → (Go.storeCells ⟨q.1, b, none⟩ xs i).run P w = .ok () w') ∧ Rel L F w0 e s' w' ∧ Ext e e s s' := by
  obtain ⟨o, ho, h⟩ := bnd_some.1 h
  obtain ⟨hro, h⟩ := chk_some.1 h
  obtain ⟨c, hc, h⟩ := bnd_some.1 h
  cases h
  rw [bnot_true] at hro
  obtain ⟨w1, h1, hrel⟩ := Rel.storeCells (P := P) hL l xs off s w id o q c hr ho hro hx hq hc (q.2 + off) 0 (by omega)
  refine ⟨w1, fun b i hbi => ?_, hrel, ⟨Le.refl e, Nat.le_refl _, Nat.le_refl _⟩⟩
  obtain ⟨w2, h2, _⟩ := Rel.storeCells (P := P) hL l xs off s w id o q c hr ho hro hx hq hc b i hbi
  have hsame : ∀ (xs : List Value) (b i b' i' : Nat), b + i = b' + i' → Go.storeCells ⟨q.1, b, none⟩ xs i = Go.storeCells ⟨q.1, b', none⟩ xs i' := by
    intro xs
    induction xs with
    | nil => intros; rfl
    | cons x r ih =>
      intro b i b' i' hb
      simp only [Go.storeCells, add_addr]
      rw [hb, ih b (i + 1) b' (i' + 1) (by omega)]
  rw [hsame xs b i (q.2 + off) 0 (by omega)]
  exact h1

theorem store_sound (hL : Leafy L) (hr : Rel L F w0 e s w) {t : TypeId} {n : Nat} {u v : V} {p : Path × Nat} {x y : Value} (hn : X.sizeOf P t = some n) (hu : iv L e u = some x) (hp : u.asP = some p) (hv : iv L e v = some y)
    (h : storeVarN n s p.1 p.2 v = some s') : ∃ w', (Instr.storeAt t x y).run P w = .ok () w' ∧ Rel L F w0 e s' w' ∧ Ext e e s s' := by
  obtain ⟨h4, rfl⟩ := asP_some.1 hp
  obtain ⟨q, hq, rfl⟩ := iv_ptr h4 hu
  obtain ⟨hlen, h⟩ := chk_some.1 h
  have hcells := iv_cells hL hv
  obtain ⟨w', hrun, hrel, hext⟩ := storeRow_sound (P := P) hL hr h hcells hq
  refine ⟨w', ?_, hrel, hext⟩
  have hsz : y.cells.size = n := by
    have := il_length hcells
    have h2 := beq_true.1 hlen
    rw [llen_eq] at h2
    rw [← h2, ← this]; simp
  unfold Instr.storeAt Go.storeVar
  simp only [Instr.sureAddr, Sem.run_bind, Sem.run_pure, Result.andThen_ok, sizeOf_run hn, hsz, ne_eq, not_true_eq_false, if_false]
  exact hrun _ 0 (by simp)

end Go.X

/-
  Operations on memory, second half: append, copy, conversions of bytes.
-/
namespace Go.X
open Go.RowKit
set_option linter.unusedSimpArgs false
set_option linter.unusedVariables false

variable {L : Nat → Value} {F : Nat → Prop} {w0 w : World} {e e' : Env} {s s' : St} {P : Program}

/-! What the second one yields -/

theorem slLen_sound {v : V} {n : Nat} {x : Value} (h : slLen v = some n) (hx : iv L e v = some x) : ∀ w, (Builtin.lenOf x).run P w = .ok n w := by
  unfold slLen at h
  rw [sel_eq] at h
  split at h
  · rename_i ht
    cases h
    rw [iv6 (V.is_true.1 ht), Option.bind_eq_some_iff] at hx
    obtain ⟨q, _, hx⟩ := hx
    cases hx
    exact fun w => rfl
  rw [sel_eq] at h
  split at h
  · rename_i ht
    cases h
    rw [iv7 (V.is_true.1 ht), Option.bind_eq_some_iff] at hx
    obtain ⟨q, _, hx⟩ := hx
    rw [Option.bind_eq_some_iff] at hx
    obtain ⟨k, _, hx⟩ := hx
    split at hx
    · cases hx
      exact fun w => rfl
    · cases hx
  rw [sel_eq] at h
  split at h
  · rename_i ht
    cases h
    rw [iv8 (V.is_true.1 ht)] at hx
    cases hx
    exact fun w => rfl
  rw [sel_eq] at h
  split at h
  · rename_i ht
    cases h
    rw [iv9 (V.is_true.1 ht), Option.bind_eq_some_iff] at hx
    obtain ⟨q, _, hx⟩ := hx
    rw [Option.bind_eq_some_iff] at hx
    obtain ⟨k, _, hx⟩ := hx
    split at hx
    · cases hx
      exact fun w => rfl
    · cases hx
  · obtain ⟨ht, h⟩ := chk_some.1 h
    cases h
    rw [iv10 (V.is_true.1 ht)] at hx
    cases hx
    intro w
    show Result.ok _ w = _
    rw [llen_eq]
    congr 1
    simp [ByteArray.size]

theorem bytesV_il : ∀ (l : List Nat), bytesOk l = true → il L e (bytesV l) = some ((l.map UInt8.ofNat).map fun b => Value.int .u8 b.toNat)
  | [], _ => il_nil
  | n :: l, h => by
    obtain ⟨h1, h2⟩ := band_true.1 (show band (Nat.blt n 256) (bytesOk l) = true from h)
    refine il_cons.2 ⟨_, _, iv_vi 4 (.ofNat n), bytesV_il l h2, ?_⟩
    have := blt_true.1 h1
    simp [kindOf, UInt8.toNat_ofNat, Nat.mod_eq_of_lt this]

theorem bytesOk_take : ∀ (l : List Nat) (n : Nat), bytesOk l = true → bytesOk (l.take n) = true
  | _, 0, _ => by simp; rfl
  | [], n + 1, _ => rfl
  | a :: l, n + 1, h => by
    obtain ⟨h1, h2⟩ := band_true.1 (show band (Nat.blt a 256) (bytesOk l) = true from h)
    exact band_true.2 ⟨h1, bytesOk_take l n h2⟩

theorem loadRow_cells (hr : Rel L F w0 e s w) {id : Path} {off n : Nat} {l : List V} {q : Nat × Nat} (h : loadRow s id off n = some l) (hq : e.blk id = some q) :
    ∃ xs, il L e l = some xs ∧ xs.length = n ∧ ∀ i x, xs[i]? = some x → w.cell? ⟨q.1, q.2 + off + i, none⟩ = some x := by
  obtain ⟨o, ho, h⟩ := bnd_some.1 h
  exact hr.cells ho hq h

theorem firstCells_sound (hr : Rel L F w0 e s w) {size n m : Nat} {v : V} {l : List V} {x : Value} (h : firstCells s size n v = some l) (hl : slLen v = some m) (hnm : n ≤ m) (hx : iv L e v = some x) :
    ∃ xs, il L e l = some xs ∧ xs.length = n * size ∧ (Builtin.firstCells size n x).run P w = .ok xs.toArray w := by
  unfold firstCells at h
  unfold slLen at hl
  rw [sel_eq] at h hl
  split at h
  · rename_i ht
    rw [iv6 (V.is_true.1 ht), Option.bind_eq_some_iff] at hx
    obtain ⟨q, hq, hx⟩ := hx
    cases hx
    obtain ⟨xs, hxs, hlen, hg⟩ := loadRow_cells hr h hq
    exact ⟨xs, hxs, hlen, run_loadCells' hlen hg⟩
  rename_i h6
  rw [if_neg h6] at hl
  rw [sel_eq] at h hl
  split at h
  · rename_i ht
    rw [iv7 (V.is_true.1 ht), Option.bind_eq_some_iff] at hx
    obtain ⟨q, hq, hx⟩ := hx
    rw [Option.bind_eq_some_iff] at hx
    obtain ⟨k, _, hx⟩ := hx
    split at hx
    · cases hx
      obtain ⟨xs, hxs, hlen, hg⟩ := loadRow_cells hr h hq
      exact ⟨xs, hxs, hlen, run_loadCells' hlen hg⟩
    · cases hx
  rename_i h7
  rw [if_neg h7] at hl
  rw [sel_eq] at h hl
  split at h
  · rename_i ht
    cases h
    rw [if_pos ht] at hl
    cases hl
    rw [iv8 (V.is_true.1 ht)] at hx
    cases hx
    obtain rfl : n = 0 := by omega
    exact ⟨[], il_nil, by simp, rfl⟩
  rename_i h8
  rw [if_neg h8] at hl
  rw [sel_eq] at h hl
  split at h
  · rename_i ht
    obtain ⟨hn, h⟩ := chk_some.1 h
    cases h
    have := beq_true.1 hn
    subst this
    rw [iv9 (V.is_true.1 ht), Option.bind_eq_some_iff] at hx
    obtain ⟨q, hq, hx⟩ := hx
    rw [Option.bind_eq_some_iff] at hx
    obtain ⟨k, _, hx⟩ := hx
    split at hx
    · cases hx
      exact ⟨[], il_nil, by simp, by
        show (Go.loadCells _ (0 * size)).run P w = _
        rw [Nat.zero_mul]; rfl⟩
    · cases hx
  · rename_i h9
    rw [if_neg h9] at hl
    obtain ⟨_, hl⟩ := chk_some.1 hl
    cases hl
    obtain ⟨hc, h⟩ := chk_some.1 h
    cases h
    obtain ⟨hc, hok⟩ := band_true.1 hc
    obtain ⟨ht, hs⟩ := band_true.1 hc
    have := beq_true.1 hs
    subst this
    rw [iv10 (V.is_true.1 ht)] at hx
    cases hx
    rw [llen_eq] at hnm
    refine ⟨_, bytesV_il _ (bytesOk_take _ n hok), by simp [hnm], ?_⟩
    show (Builtin.firstCells 1 n (.string (strOf v.s))).run P w = _
    simp only [Builtin.firstCells, Sem.run_pure, strOf_extract]
    congr 1
    apply Array.ext'
    simp [strOf, List.map_take]

theorem il_det {l : List V} {x y : List Value} (hx : il L e l = some x) (hy : il L e l = some y) : x = y := by
  rw [hx] at hy; exact Option.some.inj hy

/-- A string, or a slice: its first none. -/
theorem firstCells_zero {v : V} {m : Nat} {x : Value} (size : Nat) (hl : slLen v = some m) (hx : iv L e v = some x) (w : World) : (Builtin.firstCells size 0 x).run P w = .ok #[] w := by
  have hsl : ∀ (a : Addr) (n c : Nat), (Builtin.firstCells size 0 (.slice (some a) n c)).run P w = .ok #[] w := fun a n c => by
    show (Go.loadCells _ (0 * size)).run P w = _
    rw [Nat.zero_mul]; rfl
  unfold slLen at hl
  rw [sel_eq] at hl
  split at hl
  · rename_i ht
    rw [iv6 (V.is_true.1 ht), Option.bind_eq_some_iff] at hx
    obtain ⟨q, hq, hx⟩ := hx
    cases hx
    exact hsl _ _ _
  rw [sel_eq] at hl
  split at hl
  · rename_i ht
    rw [iv7 (V.is_true.1 ht), Option.bind_eq_some_iff] at hx
    obtain ⟨q, hq, hx⟩ := hx
    rw [Option.bind_eq_some_iff] at hx
    obtain ⟨k, _, hx⟩ := hx
    split at hx
    · cases hx; exact hsl _ _ _
    · cases hx
  rw [sel_eq] at hl
  split at hl
  · rename_i ht
    rw [iv8 (V.is_true.1 ht)] at hx
    cases hx
    rfl
  rw [sel_eq] at hl
  split at hl
  · rename_i ht
    rw [iv9 (V.is_true.1 ht), Option.bind_eq_some_iff] at hx
    obtain ⟨q, hq, hx⟩ := hx
    rw [Option.bind_eq_some_iff] at hx
    obtain ⟨k, _, hx⟩ := hx
    split at hx
    · cases hx; exact hsl _ _ _
    · cases hx
  · obtain ⟨ht, hl⟩ := chk_some.1 hl
    rw [iv10 (V.is_true.1 ht)] at hx
    cases hx
    show (Builtin.firstCells size 0 (.string (strOf v.s))).run P w = _
    simp only [Builtin.firstCells, Sem.run_pure, strOf_extract]
    congr 1
    apply Array.ext'
    simp [strOf]

end Go.X

/-
  append and copy.
-/
namespace Go.X
open Go.RowKit
set_option linter.unusedSimpArgs false
set_option linter.unusedVariables false

variable {L : Nat → Value} {F : Nat → Prop} {w0 w : World} {e e' : Env} {s s' : St} {P : Program}

/-- The types of an append. -/
structure AppT (P : Program) (argTypes : Array TypeId) (size bytes : Nat) (t el : TypeId) (inf : TypeInfo) (zv : Value) : Prop where
  h0 : argTypes[0]? = some t
  ht : P.underlying t = some (.slice el)
  hi : P.info? el = some inf
  hz : inf.zero = some zv
  hzs : zv.cells.size = inf.size
  hsize : inf.size = size
  hbytes : inf.bytes = bytes

theorem elemOf_some {argTypes : Array TypeId} {r : Nat × Nat} (h : X.elemOf P argTypes = some r) : ∃ t el inf zv, AppT P argTypes r.1 r.2 t el inf zv := by
  obtain ⟨t, h0, h⟩ := bnd_some.1 h
  obtain ⟨d, hd, h⟩ := bnd_some.1 h
  obtain ⟨el, hel, h⟩ := bnd_some.1 h
  obtain ⟨inf, hi, h⟩ := bnd_some.1 h
  obtain ⟨zv, hz, h⟩ := bnd_some.1 h
  obtain ⟨hc, h⟩ := chk_some.1 h
  cases h
  refine ⟨t, el, inf, zv, h0, ?_, hi, hz, beq_true.1 hc, rfl, rfl⟩
  rw [hd]
  cases d <;> first | (cases hel; rfl) | cases hel

theorem secondOk_some {argTypes : Array TypeId} (h : secondOk P argTypes = true) : ∃ tx d, argTypes[1]? = some tx ∧ P.underlying tx = some d ∧ ∀ k, d ≠ .int k := by
  unfold secondOk at h
  split at h
  · rename_i t ht
    split at h
    · cases h
    · rename_i d hn hd
      exact ⟨t, d, ht, hd, fun k hk => hn k hk⟩
    · cases h
  · cases h

section
variable {argTypes : Array TypeId} {size bytes : Nat} {t el ty : TypeId} {inf : TypeInfo} {zv : Value}

theorem append_room (hT : AppT P argTypes size bytes t el inf zv) (h2 : secondOk P argTypes = true) {base : Option Addr} {sLen sCap n : Nat} {x : Value} {news : List Value} (hlen : ∀ w, (Builtin.lenOf x).run P w = .ok n w)
    (hc : (Builtin.firstCells size n x).run P w = .ok news.toArray w) (hroom : sLen + n ≤ sCap) {w' : World}
    (hst : match base with | some a => (Go.storeCells (a.add (sLen * size)) news 0).run P w = .ok () w' | none => w' = w) :
    (Builtin.append_ argTypes ty #[.slice base sLen sCap, x]).run P w = .ok (.slice base (sLen + n) sCap) w' := by
  obtain ⟨tx, d, h1, hd, hk⟩ := secondOk_some h2
  obtain ⟨h0, ht, hi, hz, hzs, rfl, rfl⟩ := hT
  unfold Builtin.append_
  simp only [h0, h1, Sem.run_bind, run_underlying ht, run_underlying hd, Result.andThen_ok, Sem.run_pure, List.getElem?_toArray, List.getElem?_cons_zero, List.getElem?_cons_succ]
  have hsz : ∀ w, (Go.sizeOf el).run P w = .ok inf.size w := fun w => by
    unfold Go.sizeOf
    rw [Sem.run_bind, run_typeInfo w hi]; rfl
  simp only [hsz, Result.andThen_ok, Bool.false_eq_true, if_false, Sem.run_bind, hlen, if_pos hroom, Bool.not_false, if_true, hc]
  cases base with
  | none => cases hst; rfl
  | some a =>
    simp only at hst
    simp only [Sem.run_bind, hst, Result.andThen_ok]
    rfl

theorem append_grow (hT : AppT P argTypes size bytes t el inf zv) (h2 : secondOk P argTypes = true) {base : Option Addr} {sLen sCap n : Nat} {x : Value} {olds news : List Value} (hlen : ∀ w, (Builtin.lenOf x).run P w = .ok n w)
    (hold : (Builtin.firstCells size sLen (.slice base sLen sCap)).run P w.drew = .ok olds.toArray w.drew)
    (hc : (Builtin.firstCells size n x).run P w.drew = .ok news.toArray w.drew) (hg : sCap < sLen + n) (hb : bytes ≠ 0) (hfit : Builtin.nextslicecap (sLen + n) sCap * bytes ≤ 281474976710656) :
    (Builtin.append_ argTypes ty #[.slice base sLen sCap, x]).run P w =
      .ok (.slice (some ⟨w.heap.size, 0, none⟩) (sLen + n) (grownCap w (sLen + n) sCap el))
        (w.drew.alloc (.cells ((olds ++ news).toArray ++ Builtin.zeroCells zv.cells (grownCap w (sLen + n) sCap el - (sLen + n))) el)) := by
  obtain ⟨tx, d, h1, hd, hk⟩ := secondOk_some h2
  obtain ⟨h0, ht, hi, hz, hzs, rfl, rfl⟩ := hT
  have hn : ¬ (sLen + n ≤ sCap) := by omega
  have h48' : ¬ (281474976710656 < Builtin.nextslicecap (sLen + n) sCap * inf.bytes) := by omega
  have h63' : ¬ (9223372036854775807 < ((sLen : Int) + (n : Int))) := by
    have h1 := le_nextslicecap hg
    have h2 : Builtin.nextslicecap (sLen + n) sCap ≤ Builtin.nextslicecap (sLen + n) sCap * inf.bytes := Nat.le_mul_of_pos_right _ (by omega)
    omega
  unfold Builtin.append_
  simp only [h0, h1, Sem.run_bind, run_underlying ht, run_underlying hd, Result.andThen_ok, Sem.run_pure, List.getElem?_toArray, List.getElem?_cons_zero, List.getElem?_cons_succ]
  have hsz : ∀ w, (Go.sizeOf el).run P w = .ok inf.size w := fun w => by
    unfold Go.sizeOf
    rw [Sem.run_bind, run_typeInfo w hi]; rfl
  have h63 : ¬ (((sLen + n : Nat) : Int) > IntKind.i64.max ∧ (False ∨ inf.bytes = 0)) := fun h => by
    rcases h.2 with h | h
    · exact h
    · exact hb h
  have h48 : ¬ (Builtin.nextslicecap (sLen + n) sCap * inf.bytes > 2 ^ 48) := by omega
  simp only [hsz, Result.andThen_ok, Bool.false_eq_true, if_false, Sem.run_bind, hlen, if_neg hn, run_typeInfo w hi, if_neg h63, if_neg h48]
  simp [Question.forced, hc, hold, zeroValue, typeInfo, hi, hz, Go.newRow, grownCap]
  congr 2
  apply Array.ext'
  simp [List.append_assoc]

end

/-- A new row, with room behind what is told. -/
theorem grow_rel (hr : Rel L F w0 e s w) {heap : Heap} (hh : Rel L F w0 e { s with heap := heap } w) {cs : List V} {xs : List Value} {need size c : Nat} {r : V × St} {zs : Array Value} (el : TypeId)
    (hg : X.grown s heap cs need size = some r) (hxs : il L e cs = some xs) (hneed : need ≤ c) (hlen : xs.length = need * size) (hzs : zs.size = size) :
    ∃ e', Ext e e' s r.2 ∧ iv L e' r.1 = some (.slice (some ⟨w.heap.size, 0, none⟩) need c) ∧ Rel L F w0 e' r.2 (w.drew.alloc (.cells (xs.toArray ++ Builtin.zeroCells zs (c - need)) el)) := by
  have hfb := hh.fresh_block
  have h1 := hr.drew.alloc (.cells (xs.toArray ++ Builtin.zeroCells zs (c - need)) el)
  have h2 := hh.drew.alloc (.cells (xs.toArray ++ Builtin.zeroCells zs (c - need)) el)
  refine Rel.grown (b := w.heap.size) (base := 0) (c := c) (ys := xs.toArray ++ Builtin.zeroCells zs (c - need)) (t := el) (fr := (0, 0)) h1 hg h2 hxs ?_ hfb.2 (.inl rfl) ?_ hneed hfb.1 ?_
  · simp
  · simp only [Array.size_append, List.size_toArray, size_zeroCells, hzs, hlen, ← Nat.add_mul]
    rw [Nat.zero_add, Nat.add_sub_cancel' hneed]
    exact Nat.le_refl _
  · intro i x hx
    have hi : i < xs.length := (List.getElem?_eq_some_iff.1 hx).1
    rw [Nat.zero_add, Array.getElem?_append_left (by simpa using hi)]
    simpa using hx

/-- Another block is touched. -/
theorem Rel.touch (h : Rel L F w0 e s w) {w' : World} (b : Nat) (hos : w'.os = w.os) (htape : w'.tape = w.tape) (hout : w'.output = w.output) (hsize : w'.heap.size = w.heap.size) (hoth : ∀ b', b' ≠ b → w'.heap[b']? = w.heap[b']?)
    (hF : ¬ F b) (hno : ∀ id o q, hGet id s.heap = some o → e.blk id = some q → q.1 ≠ b) : Rel L F w0 e s w' := by
  refine ⟨hos.trans h.os, htape.trans h.tape, hout.trans h.output, by rw [hsize]; exact h.size, h.old, fun c hc => ?_, fun id o ho => ?_, h.inj, h.fresh, h.freshc, h.low⟩
  · rw [hoth c (fun hcb => hF (hcb ▸ hc)), h.keep c hc]
  · obtain ⟨b', base, cs, t, fr, hb, hw, r⟩ := h.objs id o ho
    refine ⟨b', base, cs, t, fr, hb, ?_, r⟩
    rw [hoth b' (fun hbb => hno id o _ ho hb hbb), hw]

/-- What setCells leaves. -/
structure SetTo (w w' : World) (b o : Nat) (xs : List Value) : Prop where
  os : w'.os = w.os
  tape : w'.tape = w.tape
  output : w'.output = w.output
  size : w'.heap.size = w.heap.size
  other : ∀ b', b' ≠ b → w'.heap[b']? = w.heap[b']?
  same : ∀ cs t fr, w.heap[b]? = some (.cells cs t fr) → ∃ cs', w'.heap[b]? = some (.cells cs' t fr) ∧ cs'.size = cs.size ∧ (∀ i, i < o ∨ o + xs.length ≤ i → cs'[i]? = cs[i]?) ∧ (o + xs.length ≤ cs.size → ∀ j x, xs[j]? = some x → cs'[o + j]? = some x)

theorem setTo_setCells (b : Nat) : ∀ (xs : List Value) (o : Nat) (w : World), SetTo w (w.setCells b o xs) b o xs
  | [], o, w => ⟨rfl, rfl, rfl, rfl, fun _ _ => rfl, fun cs t fr h => ⟨cs, h, rfl, fun _ _ => rfl, fun _ j x hx => by simp at hx⟩⟩
  | v :: r, o, w => by
    have ih := setTo_setCells b r (o + 1) (w.setCell ⟨b, o, none⟩ v)
    refine ⟨ih.os, ih.tape, ih.output, by rw [World.setCells, ih.size]; simp [World.setCell], fun b' hb => ?_, fun cs t fr h => ?_⟩
    · rw [World.setCells, ih.other b' hb, heap_setCell_other hb]
    · obtain ⟨cs', h1, h2, h3, h4⟩ := ih.same _ _ _ (heap_setCell_same (x := v) (off := o) h)
      refine ⟨cs', h1, by simpa using h2, fun i hi => ?_, fun hfit j x hx => ?_⟩
      · rw [h3 i (by simp at hi; omega), Array.getElem?_setIfInBounds_ne (by simp at hi; omega)]
      · cases j with
        | zero =>
          simp at hx hfit
          subst hx
          rw [Nat.add_zero, h3 o (by omega)]
          rw [Array.getElem?_setIfInBounds_self_of_lt (by omega)]
        | succ j =>
          simp at hx hfit
          rw [show o + (j + 1) = o + 1 + j by omega]
          exact h4 (by rw [Array.size_setIfInBounds]; omega) j x hx

theorem allOne_one (hL : Leafy L) : ∀ {l : List V} {xs : List Value}, allOne l = true → il L e l = some xs → ∀ u ∈ xs, u.oneCell' = true
  | [], xs, _, hx => by rw [il_nil] at hx; cases hx; intro u hu; cases hu
  | v :: l, xs, h, hx => by
    obtain ⟨h1, h2⟩ := band_true.1 (show band v.one (allOne l) = true from h)
    obtain ⟨x, y, hvx, hly, rfl⟩ := il_cons.1 hx
    have h1 := V.one_true.1 h1
    intro u hu
    rcases List.mem_cons.1 hu with rfl | hu
    · exact iv_one hL hvx h1.1 h1.2
    · exact allOne_one hL h2 hly u hu

/-- There was room in a row whose room isn't known: what is appended lies behind it. -/
theorem inplace_rel (hL : Leafy L) (hr : Rel L F w0 e s w) {id : Path} {o : Obj} (ho : hGet id s.heap = some o) (hro : o.ro = false) (hlit : o.lit = false) {size : Nat} (hesz : o.esz = size) {b base : Nat} (hb : e.blk id = some (b, base))
    {k d n m : Nat} (hcap : e.cap o.room = some k) (hfit : d + n + m ≤ k) {old new : List V} {nws : List Value} (hold : X.loadCells o.cells (d * size) (n * size) = some old) (hnew : il L e new = some nws) (hnl : nws.length = m * size)
    (hone : allOne new = true) {r : V × St} (hg : X.grown s (hPut id none s.heap) (old ++ new) (n + m) size = some r) :
    ∃ e' w', (Go.storeCells ⟨b, base + d * size + n * size, none⟩ nws 0).run P w = .ok () w' ∧ Ext e e' s r.2 ∧ iv L e' r.1 = some (.slice (some ⟨b, base + d * size, none⟩) (n + m) (k - d)) ∧ Rel L F w0 e' r.2 w' := by
  obtain ⟨b', base', cs, t, fr, hb', hw, hF, hfr, hroom, hc⟩ := hr.objs id o ho
  rw [hb] at hb'; cases hb'
  obtain ⟨k', hk', hsz⟩ := hroom.1 hlit
  rw [hcap] at hk'; cases hk'
  rw [hesz] at hsz
  obtain ⟨ox, hox, holen, hocell⟩ := hr.cells ho hb hold
  have hmul : (d + n + m) * size ≤ k * size := Nat.mul_le_mul_right _ hfit
  have hadd : (d + n + m) * size = d * size + n * size + m * size := by rw [Nat.add_mul, Nat.add_mul]
  have hin : base + d * size + n * size + nws.length ≤ cs.size := by rw [hnl]; omega
  have hcell : ∀ i, w.cell? ⟨b, i, none⟩ = cs[i]? := fun i => by simp [World.cell?, hw]
  have hst := run_storeCells_cells (P := P) b (base + d * size + n * size) nws 0 w
    (fun j hj => by rw [hcell]; simp; omega)
    (fun j hj => by
      have := hfr hro
      obtain ⟨lo, hi⟩ := fr
      simp only [World.frozen?, hw, Bool.and_eq_false_iff, decide_eq_false_iff_not]
      simp only at this
      omega)
    (allOne_one hL hone hnew)
  have hset := setTo_setCells b nws (base + d * size + n * size) w
  obtain ⟨cs', hw', hsize', hout, hput⟩ := hset.same _ _ _ hw
  have hkill := hr.kill id
  have hno : ∀ id' o' q, hGet id' (hPut id none s.heap) = some o' → e.blk id' = some q → q.1 ≠ b := by
    intro id' o' q ho' hq
    rw [hGet_put] at ho'
    split at ho'
    · cases ho'
    · rename_i hid
      exact fun hbb => hr.inj id id' o o' _ _ ho ho' (Ne.symm hid) hro hb hq hbb.symm
  have hh : Rel L F w0 e { s with heap := hPut id none s.heap } (w.setCells b (base + d * size + n * size) nws) :=
    hkill.touch b hset.os hset.tape hset.output hset.size hset.other (hF.1 hro) hno
  have hself : Rel L F w0 e { s with heap := hPut id none s.heap } (w.setCells b (base + d * size + n * size) nws) := hh
  obtain ⟨ct, hct, _⟩ := bnd_some.1 hg
  obtain ⟨e1, hext, hv, hrel⟩ := Rel.grown (s := { s with heap := hPut id none s.heap }) (b := b) (base := base + d * size) (c := k - d) (ys := cs') (t := t) (fr := fr) hself hg hh
    (il_append.2 ⟨ox, nws, hox, hnew, rfl⟩) hw' (hF.1 hro) (by rw [hsize']; exact hfr hro) (by
      rw [hsize', Nat.sub_mul]
      have : d * size ≤ k * size := Nat.mul_le_mul_right _ (by omega)
      omega) (by omega) hno (by
      intro i x hx
      rcases Nat.lt_or_ge i ox.length with hi | hi
      · rw [List.getElem?_append_left hi] at hx
        have := hocell i x hx
        rw [hcell] at this
        rw [hout _ (.inl (by omega))]
        exact this
      · rw [List.getElem?_append_right hi] at hx
        have := hput hin (i - ox.length) x hx
        rw [show base + d * size + i = base + d * size + n * size + (i - ox.length) by omega]
        exact this)
  refine ⟨e1, _, by simpa using hst, ⟨hext.le, hext.mono, hext.monoc⟩, hv, hrel⟩

end Go.X

/-
  append, copy, conversions: what the reckoner says of them holds.
-/
namespace Go.X
open Go.RowKit
set_option linter.unusedSimpArgs false
set_option linter.unusedVariables false

variable {L : Nat → Value} {F : Nat → Prop} {w0 w : World} {e e' : Env} {s s' : St} {P : Program}

section
variable {argTypes : Array TypeId} {size bytes : Nat} {t el ty : TypeId} {inf : TypeInfo} {zv : Value}

theorem appendLit_sound (hL : Leafy L) (hr : Rel L F w0 e s w) (hT : AppT P argTypes size bytes t el inf zv) (h2 : secondOk P argTypes = true) (hb : bytes ≠ 0) {v y v' : V} {n m : Nat} {vx yx : Value} {new : List V}
    (h6 : v.tag = 6) (hvn : v.b = n) (hvx : iv L e v = some vx) (hym : slLen y = some m) (hyx : iv L e y = some yx) (hnew : firstCells s size m y = some new) (h : appendLit size bytes n m v new s = some (v', s')) :
    Steps1 L F w0 P e s w (Builtin.append_ argTypes ty #[vx, yx]) v' s' := by
  subst hvn
  rw [iv6 h6, Option.bind_eq_some_iff] at hvx
  obtain ⟨q, hq, hvx⟩ := hvx
  cases hvx
  obtain ⟨nws, hnws, hnl, hcr⟩ := firstCells_sound (P := P) hr hnew hym (Nat.le_refl _) hyx
  obtain ⟨nws', hnws', _, hcr'⟩ := firstCells_sound (P := P) hr.drew hnew hym (Nat.le_refl _) hyx
  obtain rfl := il_det hnws hnws'
  unfold appendLit at h
  rw [sel_eq] at h
  split at h
  · rename_i hroom
    obtain ⟨s1, h1, h⟩ := bnd_some.1 h
    cases h
    obtain ⟨w', hst, hrel, hext⟩ := storeRow_sound (P := P) hL hr h1 hnws hq
    refine ⟨e, _, w', hext, iv_vsl hq, hrel, ?_⟩
    exact append_room hT h2 (slLen_sound hym hyx) hcr (ble_true.1 hroom) (by
      simp only [add_addr]
      exact hst _ 0 (by omega))
  · rename_i hroom
    obtain ⟨hry, h⟩ := chk_some.1 h
    obtain ⟨old, hold, h⟩ := bnd_some.1 h
    obtain ⟨olds, holds, holen, hog⟩ := loadRow_cells hr hold hq
    have hneed : v.c < v.b + m := by
      rcases Nat.lt_or_ge v.c (v.b + m) with h | h
      · exact h
      · exact absurd (ble_true.2 h) hroom
    obtain ⟨e1, hext, hv, hrel⟩ := grow_rel hr (heap := s.heap) hr el h (il_append.2 ⟨olds, nws, holds, hnws, rfl⟩) (grownCap_ge w (v.b + m) v.c el) (by rw [List.length_append, holen, hnl, Nat.add_mul]) (hT.hzs.trans hT.hsize)
    refine ⟨e1, _, _, hext, hv, hrel, ?_⟩
    exact append_grow hT h2 (slLen_sound hym hyx) (run_loadCells' (w := w.drew) holen (by simpa using hog)) hcr' hneed hb (ble_true.1 hry)

theorem appendVar_sound (hL : Leafy L) (hr : Rel L F w0 e s w) (hT : AppT P argTypes size bytes t el inf zv) (h2 : secondOk P argTypes = true) (hb : bytes ≠ 0) {v y v' : V} {n m : Nat} {yx : Value} {new : List V}
    {off k bo : Nat} {q : Nat × Nat} (hq : e.blk v.id = some q) (hcap : e.cap v.c = some k) (hdk : v.d + n ≤ k) (hoff : n + m ≤ k - v.d ∨ 0 < n → bo = off) (hm : 0 < m)
    (hym : slLen y = some m) (hyx : iv L e y = some yx) (hnew : firstCells s size m y = some new) (h : appendVar size bytes n m v off new s = some (v', s')) :
    Steps1 L F w0 P e s w (Builtin.append_ argTypes ty #[.slice (some ⟨q.1, q.2 + bo, none⟩) n (k - v.d), yx]) v' s' := by
  obtain ⟨nws, hnws, hnl, hcr⟩ := firstCells_sound (P := P) hr hnew hym (Nat.le_refl _) hyx
  obtain ⟨nws', hnws', _, hcr'⟩ := firstCells_sound (P := P) hr.drew hnew hym (Nat.le_refl _) hyx
  obtain rfl := il_det hnws hnws'
  obtain ⟨o, ho, hA⟩ := bnd_some.1 h
  obtain ⟨hc, hB⟩ := chk_some.1 hA
  obtain ⟨old, hold, hgr⟩ := bnd_some.1 hB
  clear h hA hB
  obtain ⟨hc1, hc2⟩ := band_true.1 hc
  obtain ⟨hro, hlit⟩ := band_true.1 hc1
  obtain ⟨hc3, hc4⟩ := band_true.1 hc2
  obtain ⟨hesz, hrm⟩ := band_true.1 hc3
  obtain ⟨hof, hc5⟩ := band_true.1 hc4
  obtain ⟨hroomy, hone⟩ := band_true.1 hc5
  rw [bnot_true] at hro hlit
  have hesz := beq_true.1 hesz
  have hrm := beq_true.1 hrm
  have hof := beq_true.1 hof
  have hroomy := ble_true.1 hroomy
  subst hof
  rw [← hrm] at hcap
  rcases Nat.lt_or_ge (k - v.d) (n + m) with hlt | hge
  · -- there is none
    obtain ⟨olds, holds, holen, hog⟩ := hr.cells ho hq hold
    obtain ⟨e1, hext, hv, hrel⟩ := grow_rel hr (hr.kill v.id) el hgr (il_append.2 ⟨olds, nws, holds, hnws, rfl⟩) (grownCap_ge w (n + m) (k - v.d) el) (by rw [List.length_append, holen, hnl, Nat.add_mul]) (hT.hzs.trans hT.hsize)
    refine ⟨e1, _, _, hext, hv, hrel, ?_⟩
    have hfc : (Builtin.firstCells size n (.slice (some ⟨q.1, q.2 + bo, none⟩) n (k - v.d))).run P w.drew = .ok olds.toArray w.drew := by
      rcases Nat.eq_zero_or_pos n with rfl | hn
      · have : olds = [] := List.eq_nil_of_length_eq_zero (by rw [holen]; simp)
        subst this
        show (Go.loadCells _ (0 * size)).run P w.drew = _
        rw [Nat.zero_mul]; rfl
      · have := hoff (.inr hn)
        subst this
        exact run_loadCells' (w := w.drew) holen (by simpa using hog)
    refine append_grow hT h2 (slLen_sound hym hyx) hfc hcr' hlt hb ?_
    have h1 := nextslicecap_le hlt
    have h3 : Builtin.nextslicecap (n + m) (k - v.d) * bytes ≤ (2 * (n + m)) * bytes := Nat.mul_le_mul_right _ h1
    have h4 : (2 * (n + m)) * bytes ≤ (2 * (n + m) + 1000) * bytes := Nat.mul_le_mul_right _ (by omega)
    omega
  · have := hoff (.inl hge)
    subst this
    obtain ⟨e1, w', hst, hext, hv, hrel⟩ := inplace_rel (P := P) hL hr ho hro hlit hesz (b := q.1) (base := q.2) hq hcap (d := v.d) (n := n) (m := m) (by omega) hold hnws hnl hone hgr
    refine ⟨e1, _, w', hext, hv, hrel, ?_⟩
    exact append_room hT h2 (slLen_sound hym hyx) hcr hge (by simp only [add_addr]; exact hst)

theorem appendN_sound (hL : Leafy L) (hr : Rel L F w0 e s w) (hT : AppT P argTypes size bytes t el inf zv) (h2 : secondOk P argTypes = true) (hb : bytes ≠ 0) {v y v' : V} {vx yx : Value}
    (hvx : iv L e v = some vx) (hyx : iv L e y = some yx) (h : appendN size bytes v y s = some (v', s')) :
    Steps1 L F w0 P e s w (Builtin.append_ argTypes ty #[vx, yx]) v' s' := by
  obtain ⟨n, hn, hA⟩ := bnd_some.1 h
  obtain ⟨m, hm, hB⟩ := bnd_some.1 hA
  obtain ⟨h10, hC⟩ := chk_some.1 hB
  clear h hA hB
  rw [bnot_true] at h10
  have h10 : v.tag ≠ 10 := fun hc => by rw [V.is_true.2 hc] at h10; cases h10
  rw [sel_eq] at hC
  split at hC
  · -- nothing is appended
    rename_i hm0
    obtain ⟨hc, hD⟩ := chk_some.1 hC
    cases hD
    have hm0 := beq_true.1 hm0
    subst hm0
    refine ⟨e, vx, w, Ext.refl _ _, hvx, hr, ?_⟩
    have key : ∀ (base : Option Addr) (n' c : Nat), n' ≤ c → vx = .slice base n' c → (Builtin.append_ argTypes ty #[vx, yx]).run P w = .ok vx w := by
      intro base n' c hle he
      subst he
      have := append_room (ty := ty) (base := base) (sLen := n') (sCap := c) (w' := w) hT h2 (slLen_sound hm hyx) (news := []) (firstCells_zero size hm hyx w) (by omega) (by cases base <;> rfl)
      simpa using this
    unfold slLen at hn
    rw [sel_eq] at hn
    split at hn
    · rename_i ht
      rw [iv6 (V.is_true.1 ht), Option.bind_eq_some_iff] at hvx
      obtain ⟨q, _, hvx⟩ := hvx
      cases hvx
      refine key _ _ _ ?_ rfl
      rw [bnot_true, ht] at hc
      rcases Nat.lt_or_ge v.c v.b with hlt | hge
      · rw [blt_true.2 hlt] at hc; cases hc
      · exact hge
    rw [sel_eq] at hn
    split at hn
    · rename_i ht
      rw [iv7 (V.is_true.1 ht), Option.bind_eq_some_iff] at hvx
      obtain ⟨q, _, hvx⟩ := hvx
      rw [Option.bind_eq_some_iff] at hvx
      obtain ⟨k, _, hvx⟩ := hvx
      split at hvx
      · cases hvx
        exact key _ _ _ (by omega) rfl
      · cases hvx
    rw [sel_eq] at hn
    split at hn
    · rename_i ht
      rw [iv8 (V.is_true.1 ht)] at hvx
      cases hvx
      exact key _ _ _ (Nat.le_refl _) rfl
    rw [sel_eq] at hn
    split at hn
    · rename_i ht
      rw [iv9 (V.is_true.1 ht), Option.bind_eq_some_iff] at hvx
      obtain ⟨q, _, hvx⟩ := hvx
      rw [Option.bind_eq_some_iff] at hvx
      obtain ⟨k, _, hvx⟩ := hvx
      split at hvx
      · cases hvx
        exact key _ _ _ (Nat.zero_le _) rfl
      · cases hvx
    · obtain ⟨ht, _⟩ := chk_some.1 hn
      exact absurd (V.is_true.1 ht) h10
  · rename_i hm0
    have hm0 : 0 < m := by
      rcases Nat.eq_zero_or_pos m with h0 | h0
      · exact absurd (beq_true.2 h0) hm0
      · exact h0
    obtain ⟨new, hnew, h⟩ := bnd_some.1 hC
    clear hC
    unfold slLen at hn
    rw [sel_eq] at h hn
    split at h
    · rename_i ht
      rw [if_pos ht] at hn
      cases hn
      exact appendLit_sound hL hr hT h2 hb (V.is_true.1 ht) rfl hvx hm hyx hnew h
    rename_i h6
    rw [if_neg h6] at hn
    rw [sel_eq] at h hn
    split at h
    · rename_i ht
      rw [if_pos ht] at hn
      cases hn
      rw [iv7 (V.is_true.1 ht), Option.bind_eq_some_iff] at hvx
      obtain ⟨q, hq, hvx⟩ := hvx
      rw [Option.bind_eq_some_iff] at hvx
      obtain ⟨k, hk, hvx⟩ := hvx
      split at hvx
      · cases hvx
        rename_i hdk
        exact appendVar_sound hL hr hT h2 hb hq hk hdk (fun _ => rfl) hm0 hm hyx hnew h
      · cases hvx
    rename_i h7
    rw [if_neg h7] at hn
    rw [sel_eq] at h
    split at h
    · rename_i ht
      have ht := V.is_true.1 ht
      have h8 : ¬ (v.is 8 = true) := fun hc => by have := V.is_true.1 hc; omega
      rw [sel_eq, if_neg h8, sel_eq, if_pos (V.is_true.2 ht)] at hn
      cases hn
      rw [iv9 ht, Option.bind_eq_some_iff] at hvx
      obtain ⟨q, hq, hvx⟩ := hvx
      rw [Option.bind_eq_some_iff] at hvx
      obtain ⟨k, hk, hvx⟩ := hvx
      split at hvx
      · cases hvx
        rename_i hdk
        refine appendVar_sound hL hr hT h2 hb hq hk (n := 0) (by omega) (fun hc => ?_) hm0 hm hyx hnew h
        rw [if_neg]
        intro hkd
        rcases hc with hc | hc <;> omega
      · cases hvx
    · rename_i h9
      obtain ⟨hry, h⟩ := chk_some.1 h
      have hv8 : v.tag = 8 := by
        rw [sel_eq] at hn
        split at hn
        · rename_i ht; exact V.is_true.1 ht
        · rw [sel_eq, if_neg h9] at hn
          obtain ⟨ht, _⟩ := chk_some.1 hn
          exact absurd (V.is_true.1 ht) h10
      rw [iv8 hv8] at hvx
      cases hvx
      obtain ⟨nws, hnws, hnl, _⟩ := firstCells_sound (P := P) hr hnew hm (Nat.le_refl _) hyx
      obtain ⟨nws', hnws', _, hcr'⟩ := firstCells_sound (P := P) hr.drew hnew hm (Nat.le_refl _) hyx
      obtain rfl := il_det hnws hnws'
      obtain ⟨e1, hext, hv, hrel⟩ := grow_rel hr (heap := s.heap) hr el h hnws (grownCap_ge w m 0 el) hnl (hT.hzs.trans hT.hsize)
      refine ⟨e1, _, _, hext, hv, hrel, ?_⟩
      have := append_grow (ty := ty) (base := none) (sLen := 0) (sCap := 0) (olds := []) hT h2 (slLen_sound hm hyx) (by rfl) hcr' (by omega) hb (by have := ble_true.1 hry; simpa using this)
      simpa using this

theorem noRoom_iv {v : V} {vx : Value} (h : v.noRoom = true) (hv : iv L e v = some vx) : ∃ base, vx = .slice base 0 0 := by
  unfold V.noRoom at h
  simp only [Bool.or_eq_true, Bool.and_eq_true, Go.X.beq_true] at h
  rcases h with h | ⟨⟨h, hb⟩, hc⟩
  · rw [iv8 (V.is_true.1 h)] at hv
    cases hv
    exact ⟨_, rfl⟩
  · rw [iv6 (V.is_true.1 h), Option.bind_eq_some_iff] at hv
    obtain ⟨q, _, hv⟩ := hv
    cases hv
    rw [hb, hc]
    exact ⟨_, rfl⟩

/-- What lies within a told row. -/
theorem inRow_sound {FF : List Fact} (hF : FactsOk L FF) {o : Obj} {v : V} {base : Nat} {cs : Array Value} (hrow : RowOk L o base cs) (h : inRow FF o v = true) :
    o.gs ≠ 0 ∧ ∀ i : Nat, (i : Int) < v.x.eval L → ((v.a + i : Nat) : Int) < o.gn.eval L ∧ cs[base + (v.a + i)]? = some (.int (kindOf o.gk) (valInt (L (gl o.gs (o.go + v.a + i))))) := by
  obtain ⟨h1, h2⟩ := band_true.1 h
  obtain ⟨h3, h4⟩ := band_true.1 h1
  have hgs : o.gs ≠ 0 := fun hc => by
    rw [hc] at h3
    cases h3
  have h4 := blt_true.1 h4
  obtain ⟨g0, g1, hg⟩ := hrow hgs
  refine ⟨hgs, fun i hi => ?_⟩
  split at h2
  · rename_i r hr
    rw [bnot_true] at h2
    subst h2
    have := of_decide_eq_false (fact_lss hF hr).symm
    rw [subL_eval (by omega) (by omega)] at this
    have hlt : ((v.a + i : Nat) : Int) < o.gn.eval L := by omega
    refine ⟨hlt, ?_⟩
    rw [hg _ hlt, Nat.add_assoc]
  · cases h2

theorem noCells (k : Nat) : CT.get k (.c1 z1) = none := by
  simp only [CT.get, z1, N8.get_all]
  cases Nat.blt k 8 <;> rfl

theorem appendSym_sound {FF : List Fact} (hF : FactsOk L FF) (hr : Rel L F w0 e s w) (hT : AppT P argTypes size bytes t el inf zv) (h2 : secondOk P argTypes = true) (hb : bytes ≠ 0) {v u v' : V} {vx ux : Value}
    (hvx : iv L e v = some vx) (hux : iv L e u = some ux) (h20 : (u.is 25 || u.is 20) = true) (h : appendSym FF size bytes v u s = some (v', s')) :
    Steps1 L F w0 P e s w (Builtin.append_ argTypes ty #[vx, ux]) v' s' := by
  have hus : ∃ p c, 0 ≤ u.x.eval L ∧ ux = .slice p (u.x.eval L).toNat c := by
    rw [Bool.or_eq_true] at h20
    rcases h20 with h | h
    · obtain ⟨q, k, _, _, h0, _, rfl⟩ := iv25_some (V.is_true.1 h) hux
      exact ⟨_, _, h0, rfl⟩
    · have h := V.is_true.1 h
      rw [iv_S (by omega) (by omega) (by omega) (by omega)] at hux
      rcases ivS20_cases h hux with ⟨b, n, c, hl, h0, h1, h2, hw, hsp, rfl⟩ | ⟨hl, h0, hn, rfl⟩
      · exact ⟨_, _, h0, rfl⟩
      · exact ⟨none, 0, by omega, by rw [h0]; rfl⟩
  obtain ⟨p, c, h0, rfl⟩ := hus
  obtain ⟨more, hmore, h⟩ := bnd_some.1 h
  have hmore := fact_lss hF hmore
  simp only [IE.eval] at hmore
  have hlen : ∀ w, (Builtin.lenOf (.slice p (u.x.eval L).toNat c)).run P w = .ok (u.x.eval L).toNat w := fun w => rfl
  rw [sel_eq] at h
  split at h
  · rename_i hm
    subst hm
    have hpos := of_decide_eq_true hmore.symm
    obtain ⟨hc, hA⟩ := chk_some.1 h
    obtain ⟨hc1, hc2⟩ := band_true.1 hc
    obtain ⟨h25, hs1⟩ := band_true.1 hc1
    obtain ⟨hno, hc3⟩ := band_true.1 hc2
    obtain ⟨hsm, hby⟩ := band_true.1 hc3
    have hs1 := beq_true.1 hs1
    subst hs1
    have hsm := isSmall_le hF hsm
    have hby := ble_true.1 hby
    obtain ⟨o, ho, hB⟩ := bnd_some.1 hA
    obtain ⟨hin, hC⟩ := chk_some.1 hB
    obtain ⟨nid, hnid, hD⟩ := bnd_some.1 hC
    cases hD
    clear h hA hB hC
    obtain ⟨base, rfl⟩ := noRoom_iv hno hvx
    obtain ⟨q, k, hq, hk, _, h1, hux'⟩ := iv25_some (V.is_true.1 h25) hux
    cases hux'
    obtain ⟨b, bs, cs, tt, fr, hblk, hw, hFF, hfr, hroom, hcc⟩ := hr.objs _ _ ho
    rw [hq] at hblk
    cases hblk
    obtain ⟨hgs, hrow⟩ := inRow_sound hF hroom.2 hin
    obtain ⟨m, hmdef⟩ : ∃ m, m = (u.x.eval L).toNat := ⟨_, rfl⟩
    have hmx : (m : Int) = u.x.eval L := by rw [hmdef]; exact Int.toNat_of_nonneg h0
    rw [← hmdef] at hlen h1 ⊢
    obtain ⟨news, hnews⟩ : ∃ news : List Value, news = (List.range m).map fun i => Value.int (kindOf o.gk) (valInt (L (gl o.gs (o.go + u.a + i)))) := ⟨_, rfl⟩
    have hnl : news.length = m := by rw [hnews]; simp
    have hcr : (Builtin.firstCells 1 m (.slice (some ⟨b, bs + u.a, none⟩) m (k - u.d))).run P w.drew = .ok news.toArray w.drew := by
      show (Go.loadCells ⟨b, bs + u.a, none⟩ (m * 1)).run P w.drew = _
      rw [Nat.mul_one]
      refine run_loadCells' hnl fun i x hx => ?_
      have hi : i < m := by rw [← hnl]; exact (List.getElem?_eq_some_iff.1 hx).1
      rw [hnews] at hx
      simp [hi] at hx
      have := (hrow i (by omega)).2
      show (World.cell? w.drew ⟨b, bs + u.a + i, none⟩) = some x
      have hw' : w.drew.heap[b]? = some (.cells cs tt fr) := hw
      simp only [World.cell?, hw']
      rw [show bs + u.a + i = bs + (u.a + i) by omega, this, hx]
      rfl
    have hold : (Builtin.firstCells 1 0 (.slice base 0 0)).run P w.drew = .ok (([] : List Value).toArray) w.drew := by
      cases base with
      | none => rfl
      | some a => rfl
    have hgrow := append_grow (ty := ty) (w := w) hT h2 (sLen := 0) (sCap := 0) (base := base) hlen hold hcr (by omega) hb (by
      have h1 := nextslicecap_le (show 0 < 0 + m by omega)
      have h3 : Builtin.nextslicecap (0 + m) 0 * bytes ≤ (2 * (0 + m)) * 8 := Nat.mul_le_mul h1 hby
      omega)
    obtain ⟨cap, hcap⟩ : ∃ cap, cap = grownCap w (0 + m) 0 el := ⟨_, rfl⟩
    have hge : m ≤ cap := by
      rw [hcap]
      have := grownCap_ge w (0 + m) 0 el
      omega
    have hzs : zv.cells.size = 1 := hT.hzs.trans hT.hsize
    rw [List.nil_append, Nat.zero_add] at hgrow
    rw [Nat.zero_add] at hcap
    rw [← hcap] at hgrow
    have hR := (hr.drew.alloc (.cells (news.toArray ++ Builtin.zeroCells zv.cells (cap - m)) el)).cap cap
    have hfr1 : (e.setCap s.ncap cap).blk s.nid = none := hr.fresh s.nid (Nat.le_refl _)
    have hle1 := Env.le_setCap (c := cap) (hr.freshc s.ncap (Nat.le_refl _))
    have hle2 := Env.le_setBlk (e := e.setCap s.ncap cap) (q := (w.heap.size, 0)) hfr1
    obtain ⟨hnob, hnF⟩ := hr.fresh_block
    refine ⟨(e.setCap s.ncap cap).setBlk s.nid (w.heap.size, 0), _, w.drew.alloc (.cells (news.toArray ++ Builtin.zeroCells zv.cells (cap - m)) el), ⟨hle1.trans hle2, by have := next_num hnid; show s.nid.num ≤ nid.num; omega, Nat.le_succ _⟩, iv25_of (q := (w.heap.size, 0)) (k := cap) (v := vss s.nid 0 u.x s.ncap 0) rfl ?_ ?_ h0 ?_, ?_, hgrow.trans ?_⟩
    · show (if s.nid = s.nid then some (w.heap.size, 0) else _) = _
      rw [if_pos rfl]
    · show (if s.ncap = s.ncap then some cap else _) = _
      rw [if_pos rfl]
    · show 0 + (u.x.eval L).toNat ≤ cap
      omega
    · refine hR.add hnid hfr1 hR.freshc ?_ ⟨w.heap.size, 0, news.toArray ++ Builtin.zeroCells zv.cells (cap - m), el, (0, 0), by simp [Env.setBlk], ?_, ⟨fun _ => hnF, fun h => (by cases h)⟩, fun _ => .inl rfl, ⟨fun _ => ⟨cap, ?_, ?_⟩, fun _ => ⟨h0, hsm, fun i hi => ?_⟩⟩, fun k v hv => ?_⟩
      · intro id o' q' ho' hq'
        exact hnob id o' q' ho' hq'
      · show (w.heap.push _)[w.heap.size]? = _
        rw [Array.getElem?_push_size]
      · show (e.setCap s.ncap cap).cap s.ncap = some cap
        show (if s.ncap = s.ncap then some cap else _) = _
        rw [if_pos rfl]
      · simp only [Array.size_append, List.size_toArray, size_zeroCells, hzs, hnl]
        omega
      · have hi : i < m := by
          have hi : (i : Int) < u.x.eval L := hi
          omega
        rw [Nat.zero_add, Array.getElem?_append_left (by simpa [hnl] using hi), List.getElem?_toArray, hnews]
        simp [hi]
      · rw [noCells] at hv
        cases hv
    · show Result.ok (Value.slice (some ⟨w.heap.size, 0, none⟩) m cap) _ = Result.ok (Value.slice (some ⟨w.heap.size, 0, none⟩) (u.x.eval L).toNat (cap - 0)) _
      rw [Nat.sub_zero, ← hmdef]
  · rename_i hm
    have hm : more = false := by cases more <;> simp_all
    subst hm
    have hz := of_decide_eq_false hmore.symm
    have hz0 : (u.x.eval L).toNat = 0 := by omega
    obtain ⟨hno, h⟩ := chk_some.1 h
    cases h
    obtain ⟨base, rfl⟩ := noRoom_iv hno hvx
    rw [hz0] at hlen ⊢
    refine ⟨e, _, w, Ext.refl _ _, hvx, hr, ?_⟩
    have hfc : (Builtin.firstCells size 0 (.slice p 0 c)).run P w = .ok (([] : List Value).toArray) w := by
      cases p with
      | none => rfl
      | some a =>
        show (Go.loadCells _ (0 * size)).run P w = _
        rw [Nat.zero_mul]; rfl
    exact append_room (ty := ty) (base := base) (sLen := 0) (sCap := 0) (w' := w) hT h2 hlen hfc (Nat.le_refl _) (by cases base <;> rfl)

theorem appendN2_sound {FF : List Fact} (hF : FactsOk L FF) (hL : Leafy L) (hr : Rel L F w0 e s w) (hT : AppT P argTypes size bytes t el inf zv) (h2 : secondOk P argTypes = true) (hb : bytes ≠ 0) {v y v' : V} {vx yx : Value}
    (hvx : iv L e v = some vx) (hyx : iv L e y = some yx) (h : appendN2 FF size bytes v y s = some (v', s')) :
    Steps1 L F w0 P e s w (Builtin.append_ argTypes ty #[vx, yx]) v' s' := by
  unfold appendN2 at h
  rw [sel_eq] at h
  split at h
  · rename_i h20
    exact appendSym_sound hF hr hT h2 hb hvx hyx h20 h
  · exact appendN_sound hL hr hT h2 hb hvx hyx h

theorem copyN_sound (hL : Leafy L) (hr : Rel L F w0 e s w) (hT : AppT P argTypes size bytes t el inf zv) {v y v' : V} {vx yx : Value}
    (hvx : iv L e v = some vx) (hyx : iv L e y = some yx) (h : copyN size v y s = some (v', s')) :
    Steps1 L F w0 P e s w (Builtin.copy_ argTypes ty #[vx, yx]) v' s' := by
  obtain ⟨n, hn, hA⟩ := bnd_some.1 h
  obtain ⟨m, hm, hB⟩ := bnd_some.1 hA
  obtain ⟨new, hnew, hC⟩ := bnd_some.1 hB
  clear h hA hB
  have hmin : (min m n) ≤ m := Nat.min_le_left _ _
  obtain ⟨nws, hnws, hnl, hcr⟩ := firstCells_sound (P := P) hr hnew hm hmin hyx
  have hly := slLen_sound (P := P) hm hyx
  obtain ⟨h0, ht, hi, hz, hzs, rfl, rfl⟩ := hT
  have hsz : ∀ w, (Go.sizeOf el).run P w = .ok inf.size w := fun w => by
    unfold Go.sizeOf
    rw [Sem.run_bind, run_typeInfo w hi]; rfl
  have hcr : (Builtin.firstCells inf.size (Nat.min m n) yx).run P w = .ok nws.toArray w := hcr
  rw [sel_eq] at hC
  split at hC
  · rename_i h8
    cases hC
    have h8 := V.is_true.1 h8
    rw [iv8 h8] at hvx
    cases hvx
    have hn0 : n = 0 := by
      unfold slLen at hn
      rw [sel_eq, if_neg (fun hc => by have := V.is_true.1 hc; omega), sel_eq, if_neg (fun hc => by have := V.is_true.1 hc; omega), sel_eq, if_pos (V.is_true.2 h8)] at hn
      cases hn; rfl
    subst hn0
    refine ⟨e, _, w, Ext.refl _ _, iv_vi 3 0, hr, ?_⟩
    unfold Builtin.copy_
    simp only [h0, Sem.run_bind, run_underlying ht, Result.andThen_ok, Sem.run_pure, List.getElem?_toArray, List.getElem?_cons_zero, List.getElem?_cons_succ, hly, hsz, hcr]
    simp [goInt, kindOf]
  · obtain ⟨h67, hD⟩ := chk_some.1 hC
    obtain ⟨s1, h1, hE⟩ := bnd_some.1 hD
    cases hE
    have key : ∃ q c, e.blk v.id = some q ∧ vx = .slice (some ⟨q.1, q.2 + v.a, none⟩) n c := by
      unfold slLen at hn
      rw [sel_eq] at hn
      split at hn
      · rename_i ht
        cases hn
        rw [iv6 (V.is_true.1 ht), Option.bind_eq_some_iff] at hvx
        obtain ⟨q, hq, hvx⟩ := hvx
        cases hvx
        exact ⟨q, _, hq, rfl⟩
      · rename_i h6
        have h7 : v.is 7 = true := by
          rw [Bool.or_eq_true] at h67
          rcases h67 with h | h
          · exact absurd h h6
          · exact h
        rw [sel_eq, if_pos h7] at hn
        cases hn
        rw [iv7 (V.is_true.1 h7), Option.bind_eq_some_iff] at hvx
        obtain ⟨q, hq, hvx⟩ := hvx
        rw [Option.bind_eq_some_iff] at hvx
        obtain ⟨k, _, hvx⟩ := hvx
        split at hvx
        · cases hvx
          exact ⟨q, _, hq, rfl⟩
        · cases hvx
    obtain ⟨q, c, hq, rfl⟩ := key
    obtain ⟨w', hst, hrel, hext⟩ := storeRow_sound (P := P) hL hr h1 hnws hq
    refine ⟨e, _, w', hext, iv_vi 3 _, hrel, ?_⟩
    unfold Builtin.copy_
    simp only [h0, Sem.run_bind, run_underlying ht, Result.andThen_ok, Sem.run_pure, List.getElem?_toArray, List.getElem?_cons_zero, List.getElem?_cons_succ, hly, hsz, hcr]
    have := hst (q.2 + v.a) 0 (by omega)
    simp only [this, Result.andThen_ok]
    simp [goInt, kindOf]

end

end Go.X

/-
  Conversions of bytes; every operation on memory: one theorem.
-/
namespace Go.X
open Go.RowKit
set_option linter.unusedSimpArgs false
set_option linter.unusedVariables false

variable {L : Nat → Value} {F : Nat → Prop} {w0 w : World} {e e' : Env} {s s' : St} {P : Program}

theorem isByte_some {el : TypeId} (h : isByte P el = true) : P.underlying el = some (.int .u8) := by
  unfold isByte at h
  split at h
  · assumption
  · cases h

/-- Which conversion. -/
theorem conv3_of {src dst : TypeId} (h : convKind P src dst = 3) : ∃ el, P.underlying src = some .string ∧ P.underlying dst = some (.slice el) ∧ P.underlying el = some (.int .u8) := by
  unfold convKind at h
  split at h <;> first | omega | skip
  · rename_i el h1 h2
    rw [sel_eq] at h
    split at h
    · rename_i hb; exact ⟨el, h1, h2, isByte_some hb⟩
    · omega
  · rw [sel_eq] at h; split at h <;> omega
  · rw [sel_eq] at h; split at h <;> omega
theorem conv4_of {src dst : TypeId} (h : convKind P src dst = 4) : ∃ el, P.underlying src = some (.slice el) ∧ P.underlying dst = some .string ∧ P.underlying el = some (.int .u8) := by
  unfold convKind at h
  split at h <;> first | omega | skip
  · rw [sel_eq] at h; split at h <;> omega
  · rename_i el h1 h2
    rw [sel_eq] at h
    split at h
    · rename_i hb; exact ⟨el, h1, h2, isByte_some hb⟩
    · omega
  · rw [sel_eq] at h; split at h <;> omega
theorem conv5_of {src dst : TypeId} (h : convKind P src dst = 5) : ∃ el, src = dst ∧ P.underlying dst = some (.slice el) ∧ P.underlying el = some (.int .u8) := by
  unfold convKind at h
  split at h <;> first | omega | skip
  · rw [sel_eq] at h; split at h <;> omega
  · rw [sel_eq] at h; split at h <;> omega
  · rename_i el h1 h2
    rw [sel_eq] at h
    split at h
    · rename_i hb
      obtain ⟨h3, h4⟩ := band_true.1 hb
      exact ⟨el, beq_true.1 h4, h2, isByte_some h3⟩
    · omega

theorem conv3_sound (hr : Rel L F w0 e s w) {src dst : TypeId} {u v : V} {x : Value} (hk : convKind P src dst = 3) (hx : iv L e u = some x) (hc : band (u.is 10) (bytesOk u.s) = true)
    (h : X.grown s s.heap (bytesV u.s) (llen u.s) 1 = some (v, s')) : Steps1 L F w0 P e s w (Go.convert src dst x) v s' := by
  obtain ⟨el, h1, h2, h3⟩ := conv3_of hk
  obtain ⟨ht, hok⟩ := band_true.1 hc
  rw [iv_str (V.is_true.1 ht)] at hx
  cases hx
  have hrun := run_bytes_of_string (P := P) w src dst el (strOf u.s) h1 h2 h3
  have hsz : (strOf u.s).size = llen u.s := by rw [llen_eq]; simp [strOf, ByteArray.size]
  have hfb := hr.fresh_block
  have hge := grownCap_ge w (strOf u.s).size 0 el
  obtain ⟨row, hrow⟩ : ∃ row, row = bytesRow (strOf u.s) (grownCap w (strOf u.s).size 0 el) := ⟨_, rfl⟩
  have hrsz : row.size = grownCap w (strOf u.s).size 0 el := by
    rw [hrow]
    simp only [bytesRow, Array.size_append, Array.size_map, Array.size_replicate]
    show (strOf u.s).size + _ = _
    omega
  rw [← hrow] at hrun
  have hA := hr.drew.alloc (.cells row el (row.size, row.size + 1))
  obtain ⟨e1, hext, hv, hrel⟩ := Rel.grown (b := w.heap.size) (base := 0) (c := grownCap w (strOf u.s).size 0 el) (ys := row) (t := el) (fr := (row.size, row.size + 1)) hA h hA (bytesV_il _ hok) (by simp) hfb.2 (.inr (Nat.le_refl _))
    (by rw [hrsz]; omega) (by rw [← hsz]; exact hge) hfb.1 (by
      intro i y hy
      rw [Nat.zero_add, hrow]
      have hi : i < u.s.length := by
        have := (List.getElem?_eq_some_iff.1 hy).1
        simpa using this
      unfold bytesRow
      rw [Array.getElem?_append_left (by simpa [strOf] using hi)]
      simpa [strOf] using hy)
  refine ⟨e1, _, _, hext, hv, hrel, ?_⟩
  rw [hrun, ← hsz]
  rfl

theorem byte_some {v : V} {n : Nat} (h : v.byte = some n) : iv L e v = some (.int .u8 (n : Int)) := by
  obtain ⟨h1, h2⟩ := chk_some.1 h
  obtain ⟨ht, ha⟩ := band_true.1 (show band (v.is 2) (Nat.beq v.a 4) = true from h1)
  rw [iv2 (V.is_true.1 ht), beq_true.1 ha]
  have : v.n = (n : Int) := by
    cases hn : v.n with
    | ofNat m => rw [hn] at h2; cases h2; rfl
    | negSucc m => rw [hn] at h2; cases h2
  rw [this]; rfl

theorem ofBytes_il : ∀ {l : List V} {r : List Nat}, ofBytes l = some r → il L e l = some (r.map fun (n : Nat) => Value.int .u8 (n : Int))
  | [], r, h => by cases h; exact il_nil
  | v :: l, r, h => by
    obtain ⟨y, r', hy, hr', rfl⟩ := mapO_some_cons.1 h
    exact il_cons.2 ⟨_, _, byte_some hy, ofBytes_il hr', rfl⟩

theorem xsOf_rowX : ∀ l : List IE, xsOf (rowX l) = l
  | [] => rfl
  | a :: r => by
    show xsOf (.bin .or .u8 a (rowX r)) = _
    rw [xsOf, xsOf_rowX r]

theorem nums_il : ∀ {l : List V} {r : List IE}, mapO (fun u : V => u.num 4) l = some r → il L e l = some (r.map fun x => Value.int .u8 (x.eval L))
  | [], r, h => by cases h; exact il_nil
  | v :: l, r, h => by
    have h : (v.num 4).bnd (fun x => (mapO (fun u : V => u.num 4) l).bnd fun r => some (x :: r)) = some r := h
    obtain ⟨x, hx, h⟩ := bnd_some.1 h
    obtain ⟨q, hq, h⟩ := bnd_some.1 h
    cases h
    exact il_cons.2 ⟨_, _, num_iv hx, nums_il hq, rfl⟩

theorem conv4_sound (hr : Rel L F w0 e s w) {src dst : TypeId} {u v : V} {x : Value} (hk : convKind P src dst = 4) (hx : iv L e u = some x) (h : convStr u s = some v) :
    ∃ y, iv L e v = some y ∧ (Go.convert src dst x).run P w = .ok y w := by
  obtain ⟨el, h1, h2, h3⟩ := conv4_of hk
  have hempty : iv L e (vstr []) = some (.string ByteArray.empty) := by rw [iv_str rfl]; rfl
  unfold convStr at h
  rw [sel_eq] at h
  split at h
  · rename_i ht
    cases h
    rw [iv8 (V.is_true.1 ht)] at hx
    cases hx
    exact ⟨_, hempty, run_convert_bytes_nil (P := P) w src el h1 h3 0 0 dst h2⟩
  rw [sel_eq] at h
  split at h
  · rename_i ht
    cases h
    rw [iv9 (V.is_true.1 ht), Option.bind_eq_some_iff] at hx
    obtain ⟨q, hq, hx⟩ := hx
    rw [Option.bind_eq_some_iff] at hx
    obtain ⟨k, hk, hx⟩ := hx
    split at hx
    · cases hx
      exact ⟨_, hempty, by
        have := run_convert_bytes_arg (P := P) w src el h1 h3 q.1 (q.2 + if k = u.d then u.a else u.b) 0 (k - u.d) [] rfl (fun i hi => absurd hi (by omega)) dst h2
        rw [this]; rfl⟩
    · cases hx
  · obtain ⟨ht, h⟩ := chk_some.1 h
    obtain ⟨l, hl, h⟩ := bnd_some.1 h
    have key : ∃ q c, e.blk u.id = some q ∧ x = .slice (some ⟨q.1, q.2 + u.a, none⟩) u.b c := by
      rw [Bool.or_eq_true] at ht
      rcases ht with ht | ht
      · rw [iv6 (V.is_true.1 ht), Option.bind_eq_some_iff] at hx
        obtain ⟨q, hq, hx⟩ := hx
        cases hx
        exact ⟨q, _, hq, rfl⟩
      · rw [iv7 (V.is_true.1 ht), Option.bind_eq_some_iff] at hx
        obtain ⟨q, hq, hx⟩ := hx
        rw [Option.bind_eq_some_iff] at hx
        obtain ⟨k, _, hx⟩ := hx
        split at hx
        · cases hx
          exact ⟨q, _, hq, rfl⟩
        · cases hx
    obtain ⟨q, c, hq, rfl⟩ := key
    obtain ⟨xs, hxs, hlen, hg⟩ := loadRow_cells hr hl hq
    split at h
    · rename_i r hr'
      cases h
      have hb := ofBytes_il (L := L) (e := e) hr'
      obtain rfl := il_det hb hxs
      have hrl : r.length = u.b := by simpa using hlen
      refine ⟨_, iv_str rfl, ?_⟩
      have := run_convert_bytes_arg (P := P) w src el h1 h3 q.1 (q.2 + u.a) u.b c (r.map fun (n : Nat) => (n : Int)) (by simpa using hrl) (fun i hi => by
        refine hg i _ ?_
        have hi' : i < r.length := by omega
        simp [hi', List.getD]) dst h2
      rw [this]
      congr 2
      simp [strOfNums, strOf, vstr, Function.comp_def]
    · obtain ⟨xs', hxs', h⟩ := bnd_some.1 h
      cases h
      have hb := nums_il (L := L) (e := e) hxs'
      obtain rfl := il_det hb hxs
      have hrl : xs'.length = u.b := by simpa using hlen
      refine ⟨_, iv19 rfl, ?_⟩
      have := run_convert_bytes_arg (P := P) w src el h1 h3 q.1 (q.2 + u.a) u.b c (xs'.map (IE.eval L)) (by simpa using hrl) (fun i hi => by
        refine hg i _ ?_
        have hi' : i < xs'.length := by omega
        simp [hi', List.getD]) dst h2
      rw [this]
      show Result.ok (Value.string (strOfNums (xs'.map (IE.eval L)))) w = .ok (.string (strOfNums ((xsOf (rowX xs')).map (IE.eval L)))) w
      rw [xsOf_rowX]

theorem convSym_sound {FF : List Fact} (hF : FactsOk L FF) (hr : Rel L F w0 e s w) {src dst : TypeId} {u v : V} {x : Value} (hk : convKind P src dst = 4) (ht : u.tag = 25) (hx : iv L e u = some x) (h : convSym FF u s = some v) :
    ∃ y o q, iv L e v = some y ∧ hGet u.id s.heap = some o ∧ e.blk u.id = some q ∧ o.gs ≠ 0 ∧ ∀ w', (∀ i : Nat, (i : Int) < o.gn.eval L → w'.cell? ⟨q.1, q.2 + i, none⟩ = w.cell? ⟨q.1, q.2 + i, none⟩) → (Go.convert src dst x).run P w' = .ok y w' := by
  obtain ⟨el, h1, h2, h3⟩ := conv4_of hk
  obtain ⟨o, ho, h⟩ := bnd_some.1 h
  obtain ⟨hc, h⟩ := chk_some.1 h
  obtain ⟨hin, hgk⟩ := band_true.1 hc
  have hgk := beq_true.1 hgk
  cases h
  obtain ⟨q, k, hq, hcap, h0, hle, rfl⟩ := iv25_some ht hx
  obtain ⟨b, bs, cs, tt, fr, hblk, hw, hFF, hfr, hroom, hcc⟩ := hr.objs _ _ ho
  rw [hq] at hblk
  cases hblk
  obtain ⟨hgs, hrow⟩ := inRow_sound hF hroom.2 hin
  refine ⟨_, o, (b, bs), iv26 (v := vgs o.gs (o.go + u.a) u.x) rfl, ho, hq, hgs, fun w' hw' => ?_⟩
  have := run_convert_bytes_arg (P := P) w' src el h1 h3 b (bs + u.a) (u.x.eval L).toNat (k - u.d) ((List.range (u.x.eval L).toNat).map fun i => valInt (L (gl o.gs (o.go + u.a + i)))) (by simp) (fun i hi => by
    have hi' : (i : Int) < u.x.eval L := by omega
    obtain ⟨hlt, hcell⟩ := hrow i hi'
    rw [show bs + u.a + i = bs + (u.a + i) by omega, hw' _ hlt]
    simp only [World.cell?, hw, Option.isSome_none, Bool.false_eq_true, if_false]
    rw [hcell, hgk]
    simp [List.getD, hi]
    rfl) dst h2
  rw [this]
  rfl

theorem conv4_sound2 {FF : List Fact} (hF : FactsOk L FF) (hr : Rel L F w0 e s w) {src dst : TypeId} {u v : V} {x : Value} (hk : convKind P src dst = 4) (hx : iv L e u = some x) (h : convStr2 FF u s = some v) :
    ∃ y, iv L e v = some y ∧ (Go.convert src dst x).run P w = .ok y w := by
  unfold convStr2 at h
  rw [sel_eq] at h
  split at h
  · rename_i ht
    cases h
    obtain ⟨el, h1, h2, h3⟩ := conv4_of hk
    obtain ⟨q, k, _, _, _, _, rfl⟩ := iv27_some (V.is_true.1 ht) hx
    refine ⟨.string ByteArray.empty, by rw [iv_str rfl]; rfl, ?_⟩
    have := run_convert_bytes_arg (P := P) w src el h1 h3 q.1 (q.2 + (if k = u.d + (u.x.eval L).toNat then u.a else u.a + (u.x.eval L).toNat)) 0 (k - (u.d + (u.x.eval L).toNat)) [] rfl (fun i hi => absurd hi (by omega)) dst h2
    rw [this]; rfl
  rw [sel_eq] at h
  split at h
  · rename_i ht
    obtain ⟨y, o, q, hy, _, _, _, hrun⟩ := convSym_sound (P := P) hF hr hk (V.is_true.1 ht) hx h
    exact ⟨y, hy, hrun w fun _ _ => rfl⟩
  · exact conv4_sound hr hk hx h

/-- A block is marked, just past its end. -/
theorem Rel.past (h : Rel L F w0 e s w) {id : Path} {o : Obj} (ho : hGet id s.heap = some o) (hro : o.ro = false) {b base : Nat} {cs : Array Value} {t : TypeId} {fr : Nat × Nat} (hb : e.blk id = some (b, base)) (hw : w.heap[b]? = some (.cells cs t fr)) :
    Rel L F w0 e s (w.freeze ⟨b, cs.size, none⟩ 1) := by
  have hoth : ∀ b', b' ≠ b → (w.freeze ⟨b, cs.size, none⟩ 1).heap[b']? = w.heap[b']? := fun b' hb' => by
    simp [World.freeze, Array.getElem?_modify, Ne.symm hb']
  obtain ⟨lo, hi⟩ := fr
  have hsame : (w.freeze ⟨b, cs.size, none⟩ 1).heap[b]? = some (.cells cs t (if lo == hi then (cs.size, cs.size + 1) else (min lo cs.size, max hi (cs.size + 1)))) := by
    simp [World.freeze, Array.getElem?_modify, hw]
  obtain ⟨b0, base0, cs0, t0, fr0, hb0, hw0, hF0, hfr0, hroom0, hcc0⟩ := h.objs id o ho
  rw [hb] at hb0; cases hb0
  rw [hw] at hw0; cases hw0
  refine ⟨h.os, h.tape, h.output, by simpa [World.freeze] using h.size, h.old, fun c hc => ?_, fun id' o' ho' => ?_, h.inj, h.fresh, h.freshc, h.low⟩
  · rw [hoth c (fun hcb => hF0.1 hro (hcb ▸ hc)), h.keep c hc]
  · obtain ⟨b', base', cs', t', fr', hb', hw', hF', hfr', hroom', hcc'⟩ := h.objs id' o' ho'
    by_cases hbb : b' = b
    · subst hbb
      rw [hw] at hw'; cases hw'
      refine ⟨b', base', cs, t, _, hb', hsame, hF', fun hr' => ?_, hroom', hcc'⟩
      rcases hfr' hr' with hf | hf
      · simp only at hf
        right
        simp [hf]
      · simp only at hf
        right
        split
        · simp
        · simp only; omega
    · exact ⟨b', base', cs', t', fr', hb', by rw [hoth b' hbb]; exact hw', hF', hfr', hroom', hcc'⟩

theorem conv5_sound (hr : Rel L F w0 e s w) {src dst : TypeId} {u : V} {x : Value} (hk : convKind P src dst = 5) (hx : iv L e u = some x) (ht : (u.is 6 || u.is 7) = true) {o : Obj} (ho : hGet u.id s.heap = some o) (hro : o.ro = false) :
    ∃ w', (Go.convert src dst x).run P w = .ok x w' ∧ Rel L F w0 e s w' := by
  obtain ⟨el, rfl, h2, h3⟩ := conv5_of hk
  obtain ⟨b, base, cs, t, fr, hb, hw, _⟩ := hr.objs u.id o ho
  have key : ∃ off n c, x = .slice (some ⟨b, off, none⟩) n c := by
    rw [Bool.or_eq_true] at ht
    rcases ht with ht | ht
    · rw [iv6 (V.is_true.1 ht), hb] at hx
      cases hx
      exact ⟨_, _, _, rfl⟩
    · rw [iv7 (V.is_true.1 ht), hb] at hx
      simp only [Option.bind_some] at hx
      rw [Option.bind_eq_some_iff] at hx
      obtain ⟨k, _, hx⟩ := hx
      split at hx
      · cases hx
        exact ⟨_, _, _, rfl⟩
      · cases hx
  obtain ⟨off, n, c, rfl⟩ := key
  refine ⟨_, ?_, hr.past ho hro hb hw⟩
  have hsh : w.shape? b = some (t, cs.size) := by simp [World.shape?, hw]
  unfold Go.convert
  simp only [Sem.run_bind, run_underlying h2, Result.andThen_ok, run_underlying h3, beq_self_eq_true]
  simp [markStringish, hsh]

end Go.X

/-
  Every operation on memory: one theorem.
-/
namespace Go.X
open Go.RowKit
set_option linter.unusedSimpArgs false
set_option linter.unusedVariables false

variable {L : Nat → Value} {F : Nat → Prop} {w0 w : World} {e e' : Env} {s s' : St} {P : Program}

/-- What an operation does, in the reckoner's words and in the model's. -/
def Did (L : Nat → Value) (F : Nat → Prop) (w0 : World) (P : Program) (e : Env) (s : St) (w : World) (o : Oper) (a : Act) (v : V) (s' : St) : Prop :=
  ∃ e' x w', Ext e e' s s' ∧ iv L e' v = some x ∧ Rel L F w0 e' s' w' ∧ Does P o a w x w'

theorem Steps1.did {sem : Sem Value} {v : V} {o : Oper} {a : Act} (h : Steps1 L F w0 P e s w sem v s') (he : execOp a.eval o = (do pure (Next.value (← sem)) : Sem Next)) : Did L F w0 P e s w o a v s' := by
  obtain ⟨e', x, w', h1, h2, h3, h4⟩ := h
  exact ⟨e', x, w', h1, h2, h3, .inl (by rw [he]; exact run_v' h4)⟩

theorem pureO_ne {p : X.Pure} {f : Run} (h : pureO p = some (.run f)) : False := by cases h

/-- **An operation on memory.** -/
theorem run_sound (hL : Leafy L) {c : Cfg} (hF : FactsOk L c.facts) {o : Oper} {f : Run} {tm : Tm} {N : Nat} {a : Act} {v : V} (h : stage1 c o.op = some (.run f)) (ha : ARel L e tm N a) (hr : Rel L F w0 e s w) (hv : f tm s = some (v, s')) :
    Did L F w0 c.P e s w o a v s' := by
  obtain ⟨dst, op, type, pos, after, guard⟩ := o
  simp only at h
  cases op <;> simp only [stage1] at h <;> first | (cases h; done) | skip
  case move q => obtain ⟨p, hp, h⟩ := bnd_some.1 h; cases h
  case assign q => obtain ⟨p, hp, h⟩ := bnd_some.1 h; cases h
  case pick k x y =>
    obtain ⟨_, _, h⟩ := bnd_some.1 h
    obtain ⟨_, _, h⟩ := bnd_some.1 h
    obtain ⟨_, _, h⟩ := bnd_some.1 h
    cases h
  case alloc el =>
    obtain ⟨z, hz, h⟩ := bnd_some.1 h
    cases h
    exact (alloc_sound hr hz hv).did rfl
  case box el q =>
    obtain ⟨q', hq, h⟩ := bnd_some.1 h
    cases h
    obtain ⟨u, hu, hv⟩ := bnd_some.1 hv
    exact (box_sound hL hr (opd_sound hq ha hu) hv).did rfl
  case build t parts =>
    obtain ⟨_, _, h⟩ := bnd_some.1 h
    obtain ⟨_, _, h⟩ := bnd_some.1 h
    obtain ⟨d, _, h⟩ := bnd_some.1 h
    cases d <;> simp only at h <;> first | (cases h; done) | skip
    · obtain ⟨_, _, h⟩ := bnd_some.1 h; cases h
    · obtain ⟨_, h⟩ := chk_some.1 h; cases h
  case buildSlice t len parts =>
    obtain ⟨l, hl, h⟩ := bnd_some.1 h
    obtain ⟨z, hz, h⟩ := bnd_some.1 h
    obtain ⟨hle, h⟩ := chk_some.1 h
    cases h
    obtain ⟨vs, hvs, hv⟩ := bnd_some.1 hv
    obtain ⟨q, hq, hv⟩ := bnd_some.1 hv
    have hp := parts_sound ha hl hvs
    have hp' : PartsRel L e vs (parts.map fun (p : Nat × Operand) => (p.1, a.eval p.2)).toList := by simpa using hp
    exact (buildSlice_sound hL hr hz hle hp' hq hv).did rfl
  case load t q =>
    obtain ⟨q', hq, h⟩ := bnd_some.1 h
    obtain ⟨ag, hag, h⟩ := bnd_some.1 h
    obtain ⟨n, hn, h⟩ := bnd_some.1 h
    cases h
    obtain ⟨u, hu, hv⟩ := bnd_some.1 hv
    obtain ⟨p, hp, hv⟩ := bnd_some.1 hv
    obtain ⟨r, hr', hv⟩ := bnd_some.1 hv
    cases hv
    obtain ⟨y, hy, hrun⟩ := load_sound2 hF hr hag hn (opd_sound hq ha hu) hp hr'
    exact ⟨e, y, w, Ext.refl _ _, hy, hr, .inl (run_v' hrun)⟩
  case store t q x =>
    obtain ⟨q', hq, h⟩ := bnd_some.1 h
    obtain ⟨x', hx, h⟩ := bnd_some.1 h
    obtain ⟨n, hn, h⟩ := bnd_some.1 h
    cases h
    obtain ⟨l, hl, hv⟩ := bnd_some.1 hv
    obtain ⟨p, hp, hv⟩ := bnd_some.1 hv
    obtain ⟨u, hu, hv⟩ := bnd_some.1 hv
    obtain ⟨s1, hs1, hv⟩ := bnd_some.1 hv
    cases hv
    obtain ⟨w', hrun, hrel, hext⟩ := store_sound hL hr hn (opd_sound hq ha hl) hp (opd_sound hx ha hu) hs1
    exact ⟨e, _, w', hext, iv_undef, hrel, .inr ⟨run_u hrun, rfl⟩⟩
  case nilCheck q => obtain ⟨_, _, h⟩ := bnd_some.1 h; cases h
  case binOp =>
    obtain ⟨_, _, h⟩ := bnd_some.1 h
    obtain ⟨_, _, h⟩ := bnd_some.1 h
    obtain ⟨_, _, h⟩ := bnd_some.1 h
    cases h
  case unOp => obtain ⟨_, _, h⟩ := bnd_some.1 h; cases h
  case convert src dst' q =>
    obtain ⟨q', hq, h⟩ := bnd_some.1 h
    unfold stageC at h
    split at h
    · cases h
    · cases h
    · rename_i hk
      cases h
      obtain ⟨u, hu, hv⟩ := bnd_some.1 hv
      obtain ⟨hc, hv⟩ := chk_some.1 hv
      exact (conv3_sound hr hk (opd_sound hq ha hu) hc hv).did rfl
    · rename_i hk
      cases h
      obtain ⟨u, hu, hv⟩ := bnd_some.1 hv
      obtain ⟨r, hr', hv⟩ := bnd_some.1 hv
      cases hv
      obtain ⟨y, hy, hrun⟩ := conv4_sound2 hF hr hk (opd_sound hq ha hu) hr'
      exact ⟨e, y, w, Ext.refl _ _, hy, hr, .inl (run_v' hrun)⟩
    · rename_i hk
      cases h
      obtain ⟨u, hu, hv⟩ := bnd_some.1 hv
      obtain ⟨ht, hv⟩ := chk_some.1 hv
      obtain ⟨ob, ho, hv⟩ := bnd_some.1 hv
      obtain ⟨hro, hv⟩ := chk_some.1 hv
      cases hv
      rw [bnot_true] at hro
      obtain ⟨w', hrun, hrel⟩ := conv5_sound hr hk (opd_sound hq ha hu) ht ho hro
      exact ⟨e, _, w', Ext.refl _ _, opd_sound hq ha hu, hrel, .inl (run_v' hrun)⟩
    · cases h
  case makeInterface t q =>
    obtain ⟨_, _, h⟩ := bnd_some.1 h
    obtain ⟨d, _, h⟩ := bnd_some.1 h
    cases d <;> cases h
  case makeFunc fn first captured =>
    cases fn <;> simp only at h <;> first | (cases h; done) | skip
    obtain ⟨_, _, h⟩ := bnd_some.1 h
    obtain ⟨_, _, h⟩ := bnd_some.1 h
    cases h
  case makeSlice t l m =>
    obtain ⟨l', hl, h⟩ := bnd_some.1 h
    obtain ⟨m', hm, h⟩ := bnd_some.1 h
    obtain ⟨z, hz, h⟩ := bnd_some.1 h
    cases h
    obtain ⟨p, hp, hv⟩ := bnd_some.1 hv
    obtain ⟨n, hn, hv⟩ := bnd_some.1 hv
    obtain ⟨q, hq, hv⟩ := bnd_some.1 hv
    obtain ⟨k, hk, hv⟩ := bnd_some.1 hv
    obtain ⟨hc, hv⟩ := chk_some.1 hv
    obtain ⟨h1, h23⟩ := band_true.1 hc
    obtain ⟨h2, h3⟩ := band_true.1 h23
    exact (makeSlice_sound hr hz (opd_sound hl ha hp) (opd_sound hm ha hq) hn hk (ble_true.1 h1) (ble_true.1 h2) (ble_true.1 h3) hv).did rfl
  case slice =>
    obtain ⟨_, _, h⟩ := bnd_some.1 h
    obtain ⟨_, _, h⟩ := bnd_some.1 h
    obtain ⟨_, _, h⟩ := bnd_some.1 h
    obtain ⟨_, _, h⟩ := bnd_some.1 h
    obtain ⟨_, _, h⟩ := bnd_some.1 h
    cases h
  case fieldAddr =>
    obtain ⟨_, _, h⟩ := bnd_some.1 h
    obtain ⟨_, _, h⟩ := bnd_some.1 h
    obtain ⟨_, _, h⟩ := bnd_some.1 h
    obtain ⟨_, h⟩ := chk_some.1 h
    cases h
  case field =>
    obtain ⟨_, _, h⟩ := bnd_some.1 h
    obtain ⟨_, _, h⟩ := bnd_some.1 h
    obtain ⟨_, _, h⟩ := bnd_some.1 h
    obtain ⟨_, _, h⟩ := bnd_some.1 h
    cases h
  case indexAddr =>
    obtain ⟨_, _, h⟩ := bnd_some.1 h
    obtain ⟨_, _, h⟩ := bnd_some.1 h
    obtain ⟨d, _, h⟩ := bnd_some.1 h
    cases d <;> simp only at h <;> first | (cases h; done) | (obtain ⟨_, _, h⟩ := bnd_some.1 h; cases h)
  case index =>
    obtain ⟨_, _, h⟩ := bnd_some.1 h
    obtain ⟨_, _, h⟩ := bnd_some.1 h
    obtain ⟨d, _, h⟩ := bnd_some.1 h
    cases d <;> simp only at h <;> first | (cases h; done) | (obtain ⟨_, _, h⟩ := bnd_some.1 h; obtain ⟨_, _, h⟩ := bnd_some.1 h; cases h)
  case typeAssert => obtain ⟨_, _, h⟩ := bnd_some.1 h; cases h
  case extract => obtain ⟨_, _, h⟩ := bnd_some.1 h; cases h
  case call k =>
    obtain ⟨callee, args, argTypes⟩ := k
    simp only at h
    split at h
    · rename_i b
      obtain ⟨l, hl, h⟩ := bnd_some.1 h
      have hex : ∀ w, (execOp a.eval ⟨dst, .call ⟨.builtin b, args, argTypes⟩, type, pos, after, guard⟩).run c.P w = (builtin b argTypes type (args.map fun | .const _ => true | _ => false) (args.map a.eval)).run c.P w := fun w => rfl
      have two : ∀ {q r : Opd} {u v : V}, l = [q, r] → q tm = some u → r tm = some v → ∃ x y, args.map a.eval = #[x, y] ∧ iv L e u = some x ∧ iv L e v = some y := by
        intro q r u v hqr hu hv'
        subst hqr
        have hs := opds_sound ha hl (vs := [u, v]) (mapO_some_cons.2 ⟨u, [v], hu, mapO_some_cons.2 ⟨v, [], hv', rfl, rfl⟩, rfl⟩)
        obtain ⟨x, r', hx, hr', he⟩ := il_cons.1 hs
        obtain ⟨y, r'', hy, hr'', he'⟩ := il_cons.1 hr'
        rw [il_nil] at hr''
        cases hr''
        subst he'
        refine ⟨x, y, Array.ext' ?_, hx, hy⟩
        simpa using he
      split at h
      · obtain ⟨_, _, h⟩ := bnd_some.1 h
        obtain ⟨_, _, h⟩ := bnd_some.1 h
        cases h
      · rename_i q r
        obtain ⟨h2, h⟩ := chk_some.1 h
        obtain ⟨el, hel, h⟩ := bnd_some.1 h
        obtain ⟨hb, h⟩ := chk_some.1 h
        cases h
        rw [bnot_true] at hb
        obtain ⟨u, hu, hv⟩ := bnd_some.1 hv
        obtain ⟨u', hu', hv⟩ := bnd_some.1 hv
        obtain ⟨x, y, hxy, hx, hy⟩ := two rfl hu hu'
        obtain ⟨t, e1, inf, zv, hT⟩ := elemOf_some hel
        obtain ⟨e', z, w', h1, h2', h3, h4⟩ := appendN2_sound (ty := type) hF hL hr hT h2 (fun h0 => by rw [h0] at hb; cases hb) hx hy hv
        refine ⟨e', z, w', h1, h2', h3, .inl ?_⟩
        rw [hex, hxy]
        exact run_v' h4
      · rename_i q r
        obtain ⟨el, hel, h⟩ := bnd_some.1 h
        cases h
        obtain ⟨u, hu, hv⟩ := bnd_some.1 hv
        obtain ⟨u', hu', hv⟩ := bnd_some.1 hv
        obtain ⟨x, y, hxy, hx, hy⟩ := two rfl hu hu'
        obtain ⟨t, e1, inf, zv, hT⟩ := elemOf_some hel
        obtain ⟨e', z, w', h1, h2', h3, h4⟩ := copyN_sound (ty := type) hL hr hT hx hy hv
        refine ⟨e', z, w', h1, h2', h3, .inl ?_⟩
        rw [hex, hxy]
        exact run_v' h4
      · cases h
      · cases h
      · cases h
    · cases h

end Go.X

/-
  Calls: of sync/atomic, of functions, of methods.
-/
namespace Go.X
open Go.RowKit
set_option linter.unusedSimpArgs false
set_option linter.unusedVariables false

variable {L : Nat → Value} {F : Nat → Prop} {w0 w : World} {e e' : Env} {s s' : St} {P : Program}

/-- What an atomic is, in the model. -/
def Atom.sem : Atom → (Array Value → Sem Value)
  | .load k => Extern.Atomic.loadT (.int (kindOf k))
  | .add k => Extern.Atomic.update (Op.intArith .add) (kindOf k) true
  | .cas k => Extern.Atomic.casT (.int (kindOf k))
  | .store => Extern.Atomic.storeT

/-- The functions that are told to be atomics are some. -/
def ExtOk (c : Cfg) : Prop := ∀ f a, c.ext f = some a → ∃ fn, c.P.funcs[f]? = some fn ∧ (fn.name == "runtime.NumGoroutine") = false ∧ fn.body.isNone = true ∧ Extern.findNext fn = none ∧ Extern.find fn = some a.sem

/-- One cell is stored. -/
theorem storeOne (hL : Leafy L) (hr : Rel L F w0 e s w) {id : Path} {off : Nat} {z : V} {x : Value} {q : Nat × Nat} (h : storeRow s id off [z] = some s') (hz : iv L e z = some x) (hq : e.blk id = some q) :
    Rel L F w0 e s' (w.setCell ⟨q.1, q.2 + off, none⟩ x) ∧ w.frozen? ⟨q.1, q.2 + off, none⟩ = false ∧ Ext e e s s' := by
  obtain ⟨o, ho, h⟩ := bnd_some.1 h
  obtain ⟨hro, h⟩ := chk_some.1 h
  obtain ⟨c, hc, h⟩ := bnd_some.1 h
  cases h
  rw [bnot_true] at hro
  rw [putCells_cons] at hc
  obtain ⟨u, hu, hc⟩ := bnd_some.1 hc
  obtain ⟨hone, hc⟩ := chk_some.1 hc
  cases hc
  refine ⟨hr.setCell ho hro hu hz hq, ?_, ⟨Le.refl e, Nat.le_refl _, Nat.le_refl _⟩⟩
  obtain ⟨b, base, cs, t, fr, hb, hw, hF, hfr, hroom, hcc⟩ := hr.objs id o ho
  rw [hb] at hq; cases hq
  obtain ⟨y, hy, _⟩ := hcc off u hu
  have hlt := (Array.getElem?_eq_some_iff.1 hy).1
  have := hfr hro
  obtain ⟨lo, hi⟩ := fr
  simp only [World.frozen?, hw, Bool.and_eq_false_iff, decide_eq_false_iff_not]
  simp only at this
  omega

theorem unfrozen (hr : Rel L F w0 e s w) {id : Path} {o : Obj} {off : Nat} {u : V} {q : Nat × Nat} (ho : hGet id s.heap = some o) (hro : o.ro = false) (hu : o.cells.get off = some u) (hq : e.blk id = some q) : w.frozen? ⟨q.1, q.2 + off, none⟩ = false := by
  obtain ⟨b, base, cs, t, fr, hb, hw, hF, hfr, hroom, hcc⟩ := hr.objs id o ho
  rw [hb] at hq; cases hq
  obtain ⟨y, hy, _⟩ := hcc off u hu
  have hlt := (Array.getElem?_eq_some_iff.1 hy).1
  have := hfr hro
  obtain ⟨lo, hi⟩ := fr
  simp only [World.frozen?, hw, Bool.and_eq_false_iff, decide_eq_false_iff_not]
  simp only at this
  omega

theorem il_one {l : List V} {xs : List Value} (h : il L e l = some xs) (hl : llen l = 1) {p : V} (hp : lnth l 0 = some p) : ∃ x, iv L e p = some x ∧ xs = [x] := by
  rw [llen_eq] at hl
  rw [lnth_eq] at hp
  match l, hl with
  | [u], _ =>
    cases hp
    obtain ⟨x, y, hx, hy, rfl⟩ := il_cons.1 h
    rw [il_nil] at hy; cases hy
    exact ⟨x, hx, rfl⟩
theorem il_two {l : List V} {xs : List Value} (h : il L e l = some xs) (hl : llen l = 2) {p q : V} (hp : lnth l 0 = some p) (hq : lnth l 1 = some q) : ∃ x y, iv L e p = some x ∧ iv L e q = some y ∧ xs = [x, y] := by
  rw [llen_eq] at hl
  rw [lnth_eq] at hp hq
  match l, hl with
  | [u, v], _ =>
    cases hp; cases hq
    obtain ⟨x, r, hx, hr, rfl⟩ := il_cons.1 h
    obtain ⟨y, r', hy, hr', rfl⟩ := il_cons.1 hr
    rw [il_nil] at hr'; cases hr'
    exact ⟨x, y, hx, hy, rfl⟩
theorem il_three {l : List V} {xs : List Value} (h : il L e l = some xs) (hl : llen l = 3) {p q r : V} (hp : lnth l 0 = some p) (hq : lnth l 1 = some q) (hr : lnth l 2 = some r) : ∃ x y z, iv L e p = some x ∧ iv L e q = some y ∧ iv L e r = some z ∧ xs = [x, y, z] := by
  rw [llen_eq] at hl
  rw [lnth_eq] at hp hq hr
  match l, hl with
  | [u, v, t], _ =>
    cases hp; cases hq; cases hr
    obtain ⟨x, r, hx, hr, rfl⟩ := il_cons.1 h
    obtain ⟨y, r', hy, hr', rfl⟩ := il_cons.1 hr
    obtain ⟨z, r'', hz, hr'', rfl⟩ := il_cons.1 hr'
    rw [il_nil] at hr''; cases hr''
    exact ⟨x, y, z, hx, hy, hz, rfl⟩

/-- The same number. -/
theorem sameV_sound {F : List Fact} (hF : FactsOk L F) {v y : V} {k : Nat} {a b : IE} {r : Bool} (ha : v.num k = some a) (hb : y.num k = some b) (h : sameV F v y a b = some r) : r = (a.eval L == b.eval L) := by
  unfold sameV at h
  rw [sel_eq] at h
  split at h
  · rename_i hc
    obtain ⟨h1, h2⟩ := band_true.1 hc
    cases h
    have e1 := num_iv (L := L) (e := ⟨fun _ => none, fun _ => none, 0⟩) ha
    have e2 := num_iv (L := L) (e := ⟨fun _ => none, fun _ => none, 0⟩) hb
    rw [iv2 (V.is_true.1 h1)] at e1
    rw [iv2 (V.is_true.1 h2)] at e2
    injection e1 with e1
    injection e2 with e2
    injection e1 with _ e1
    injection e2 with _ e2
    rw [eqF_eq, e1, e2]
  · obtain ⟨g, hg, rfl⟩ := factOf_sound hF h
    cases hg
    rw [eqF_eq]

/-- **sync/atomic.** -/
theorem atomic_sound (hL : Leafy L) (hr : Rel L F w0 e s w) {c : Cfg} (hF : FactsOk L c.facts) (hE : ExtOk c) {f : FuncId} {a : Atom} {args : List V} {xs : List Value} {v : V} (hf : c.ext f = some a) (hx : il L e args = some xs) (h : atomic c.facts a args s = some (v, s')) :
    ∃ x w', Ext e e s s' ∧ iv L e v = some x ∧ Rel L F w0 e s' w' ∧ (callFunc f xs.toArray).run c.P w = .ok (.value x) w' := by
  obtain ⟨fn, h1, h2, h3, h4, h5⟩ := hE f a hf
  cases a with
  | load k =>
    obtain ⟨p, hp, h⟩ := bnd_some.1 h
    obtain ⟨hl, h⟩ := chk_some.1 h
    obtain ⟨r, hpr, h⟩ := bnd_some.1 h
    obtain ⟨o, ho, h⟩ := bnd_some.1 h
    obtain ⟨u, hu, h⟩ := bnd_some.1 h
    obtain ⟨m, hn, h⟩ := bnd_some.1 h
    cases h
    obtain ⟨x, hxp, rfl⟩ := il_one hx (beq_true.1 hl) hp
    obtain ⟨ht, rfl⟩ := asP_some.1 hpr
    obtain ⟨q, hq, rfl⟩ := iv_ptr ht hxp
    obtain ⟨y, hy, hyi⟩ := hr.cell ho hu hq
    rw [num_iv hn] at hyi
    cases hyi
    exact ⟨_, w, Ext.refl _ _, num_iv hn, hr, run_call_load h1 h2 h3 h4 (kindOf k) h5 hy⟩
  | add k =>
    obtain ⟨p, hp, h⟩ := bnd_some.1 h
    obtain ⟨y, hy, h⟩ := bnd_some.1 h
    obtain ⟨hl, h⟩ := chk_some.1 h
    obtain ⟨r, hpr, h⟩ := bnd_some.1 h
    obtain ⟨o, ho, h⟩ := bnd_some.1 h
    obtain ⟨u, hu, h⟩ := bnd_some.1 h
    obtain ⟨n, hn, h⟩ := bnd_some.1 h
    obtain ⟨s1, hs1, h⟩ := bnd_some.1 h
    cases h
    obtain ⟨x, yv, hxp, hyv, rfl⟩ := il_two hx (beq_true.1 hl) hp hy
    obtain ⟨ht, rfl⟩ := asP_some.1 hpr
    obtain ⟨q, hq, rfl⟩ := iv_ptr ht hxp
    obtain ⟨z, hz, hzi⟩ := hr.cell ho hu hq
    have hnum : ∃ A B : Int, iv L e u = some (.int (kindOf k) A) ∧ iv L e y = some (.int (kindOf k) B) ∧ iv L e v = some (.int (kindOf k) ((kindOf k).wrap (A + B))) := by
      unfold num2 at hn
      rw [sel_eq] at hn
      split at hn
      · rename_i hc
        obtain ⟨c1, c2⟩ := band_true.1 hc
        cases hn
        refine ⟨_, _, isNum_iv c1, isNum_iv c2, ?_⟩
        rw [iv_vi, wrapK_eq, addF_eq]
      · obtain ⟨A, hA, hn⟩ := bnd_some.1 hn
        obtain ⟨B, hB, hn⟩ := bnd_some.1 hn
        cases hn
        refine ⟨_, _, num_iv hA, num_iv hB, ?_⟩
        rw [iv_vk hF]
        show some (Value.int (kindOf k) ((some (wrapK (codeOf (kindOf k)) (addF (A.eval L) (B.eval L)))).getD 0)) = _
        rw [Option.getD_some, wrapK_eq, kindOf_codeOf, addF_eq]
    obtain ⟨A, B, hA, hB, hv⟩ := hnum
    rw [hA] at hzi
    rw [hB] at hyv
    cases hzi
    cases hyv
    obtain ⟨hrel, hfz, hext⟩ := storeOne hL hr hs1 hv hq
    exact ⟨_, _, hext, hv, hrel, run_call_add h1 h2 h3 h4 (kindOf k) h5 hz hfz rfl⟩
  | cas k =>
    obtain ⟨p, hp, h⟩ := bnd_some.1 h
    obtain ⟨y, hy, h⟩ := bnd_some.1 h
    obtain ⟨z, hz, h⟩ := bnd_some.1 h
    obtain ⟨hl, h⟩ := chk_some.1 h
    obtain ⟨r, hpr, h⟩ := bnd_some.1 h
    obtain ⟨o, ho, h⟩ := bnd_some.1 h
    obtain ⟨hro, h⟩ := chk_some.1 h
    obtain ⟨u, hu, h⟩ := bnd_some.1 h
    obtain ⟨A, hA, h⟩ := bnd_some.1 h
    obtain ⟨B, hB, h⟩ := bnd_some.1 h
    obtain ⟨C, hC, h⟩ := bnd_some.1 h
    obtain ⟨b, hb, h⟩ := bnd_some.1 h
    rw [bnot_true] at hro
    obtain ⟨x, yv, zv, hxp, hyv, hzv, rfl⟩ := il_three hx (beq_true.1 hl) hp hy hz
    obtain ⟨ht, rfl⟩ := asP_some.1 hpr
    obtain ⟨q, hq, rfl⟩ := iv_ptr ht hxp
    rw [num_iv hB] at hyv
    cases hyv
    have hzi := num_iv (L := L) (e := e) hC
    rw [hzi] at hzv
    cases hzv
    obtain ⟨m, hm, hmi⟩ := hr.cell ho hu hq
    rw [num_iv hA] at hmi
    cases hmi
    have hb := sameV_sound hF hA hB hb
    rw [sel_eq] at h
    split at h
    · rename_i heq
      obtain ⟨s1, hs1, h⟩ := bnd_some.1 h
      cases h
      rw [hb, beq_iff_eq] at heq
      obtain ⟨hrel, hfz, hext⟩ := storeOne hL hr hs1 hzi hq
      refine ⟨_, _, hext, iv1 rfl, hrel, ?_⟩
      rw [← heq]
      exact run_call_cas_hit h1 h2 h3 h4 (kindOf k) h5 hm hfz
    · rename_i hne
      cases h
      rw [hb, beq_iff_eq] at hne
      exact ⟨_, _, Ext.refl _ _, iv0 rfl, hr, run_call_cas_miss h1 h2 h3 h4 (kindOf k) h5 hm (unfrozen hr ho hro hu hq) hne⟩
  | store =>
    obtain ⟨p, hp, h⟩ := bnd_some.1 h
    obtain ⟨y, hy, h⟩ := bnd_some.1 h
    obtain ⟨hc, h⟩ := chk_some.1 h
    obtain ⟨hl, hny⟩ := band_true.1 hc
    obtain ⟨r, hpr, h⟩ := bnd_some.1 h
    obtain ⟨s1, hs1, h⟩ := bnd_some.1 h
    cases h
    obtain ⟨x, yv, hxp, hyv, rfl⟩ := il_two hx (beq_true.1 hl) hp hy
    obtain ⟨ht, rfl⟩ := asP_some.1 hpr
    obtain ⟨q, hq, rfl⟩ := iv_ptr ht hxp
    have hyi := hyv
    have hint : ∃ kk m, yv = .int kk m := by
      rcases Bool.or_eq_true_iff.1 hny with h1 | h1
      · rw [iv2 (V.is_true.1 h1)] at hyv; cases hyv; exact ⟨_, _, rfl⟩
      · rw [iv3 (V.is_true.1 h1)] at hyv; cases hyv; exact ⟨_, _, rfl⟩
    obtain ⟨kk, nn, rfl⟩ := hint
    obtain ⟨hrel, hfz, hext⟩ := storeOne hL hr hs1 hyi hq
    have hcell : ∃ u, w.cell? ⟨q.1, q.2 + p.a, none⟩ = some u := by
      obtain ⟨o, ho, h⟩ := bnd_some.1 hs1
      obtain ⟨_, h⟩ := chk_some.1 h
      obtain ⟨c, hc, _⟩ := bnd_some.1 h
      rw [putCells_cons] at hc
      obtain ⟨u, hu, _⟩ := bnd_some.1 hc
      obtain ⟨m, hm, _⟩ := hr.cell ho hu hq
      exact ⟨m, hm⟩
    obtain ⟨u, hu⟩ := hcell
    exact ⟨_, _, hext, iv_undef, hrel, run_call_store h1 h2 h3 h4 h5 hu hfz⟩

/-! Methods -/

theorem method_run {t : TypeId} {name : String} {f : FuncId} (h : methodOf P t name = some f) (v : Value) (n : Nat) (w : World) : (method (n + 1) t v name).run P w = .ok (f, v) w := by
  obtain ⟨i, hi, h⟩ := bnd_some.1 h
  obtain ⟨m, hm, h⟩ := bnd_some.1 h
  obtain ⟨hp, h⟩ := chk_some.1 h
  obtain ⟨g, hg, h⟩ := bnd_some.1 h
  obtain ⟨d, hd, h⟩ := bnd_some.1 h
  cases d <;> simp only at h <;> first | (cases h; done) | skip
  obtain ⟨h2, h⟩ := chk_some.1 h
  cases h
  obtain ⟨f, pr⟩ := g
  simp only at h2
  subst h2
  have hpath : m.path = #[] := by simpa using hp
  unfold method
  simp only [Sem.run_bind, run_typeInfo w hi, Result.andThen_ok, hm, hpath, follow, Sem.run_pure, hg, receiverAt, run_underlying hd, Place.get]

end Go.X

/-
  One operation, whatever it is: what the reckoner says of it holds.
-/
namespace Go.X
open Go.RowKit
set_option linter.unusedSimpArgs false
set_option linter.unusedVariables false

variable {L : Nat → Value} {F : Nat → Prop} {w0 w : World} {e e' : Env} {s s' : St} {P : Program}

/-- What calls answer holds. -/
def CallOk (L : Nat → Value) (F : Nat → Prop) (w0 : World) (c : Cfg) (call : CallF) : Prop :=
  ∀ (f : FuncId) (args : List V) (s : St) (v : V) (s' : St) (xs : List Value) (e : Env) (w : World), call f args s = some (v, s') → il L e args = some xs → Rel L F w0 e s w →
    (callFunc f xs.toArray).run c.P w = .ok (.enter f xs.toArray) w ∧
    ∀ R : Ending → World → Prop, (∀ e' x w', Ext e e' s s' → iv L e' v = some x → Rel L F w0 e' s' w' → R (.returned x) w') → Calls c.P f xs.toArray w R

/-- An operation, from a state to a state. -/
def OpStep (L : Nat → Value) (F : Nat → Prop) (w0 : World) (P : Program) (e : Env) (s : St) (w : World) (o : Oper) (a : Act) (v : V) (s' : St) : Prop :=
  ∀ (K : Act → World → Prop) (Q : Exit → Act → World → Prop), (∀ e' x w', Ext e e' s s' → iv L e' v = some x → Rel L F w0 e' s' w' → K (a.put o.dst x) w') → o.wp P a w K Q

theorem Did.step {o : Oper} {a : Act} {v : V} (h : Did L F w0 P e s w o a v s') : OpStep L F w0 P e s w o a v s' := by
  obtain ⟨e', x, w', h1, h2, h3, h4⟩ := h
  exact fun K Q hk => h4.wp (hk e' x w' h1 h2 h3)

theorem pure_step (hL : Leafy L) {c : Cfg} (hF : FactsOk L c.facts) {o : Oper} {f : X.Pure} {tm : Tm} {N : Nat} {a : Act} {v : V} (h : stage1 c o.op = some (.pure f)) (ha : ARel L e tm N a) (hr : Rel L F w0 e s w) (hv : f tm = some v) :
    OpStep L F w0 c.P e s w o a v s := by
  obtain ⟨x, hx, hrun⟩ := pure_sound hL hF h ha hv
  exact Did.step ⟨e, x, w, Ext.refl _ _, hx, hr, .inl (hrun w)⟩

/-- Who is called, with what. -/
theorem callee_sound {o : Oper} {k : Call} {g : X.Callee} {tm : Tm} {N : Nat} {a : Act} {f : FuncId} {vs : List V} (ho : o.op = .call k) (h : callee P k = some g) (ha : ARel L e tm N a) (hg : g tm = some (f, vs)) :
    ∃ xs, il L e vs = some xs ∧ ∀ w, (execOp a.eval o).run P w = (callFunc f xs.toArray).run P w := by
  obtain ⟨dst, op, type, pos, after, guard⟩ := o
  simp only at ho
  subst ho
  obtain ⟨cl, args, argTypes⟩ := k
  obtain ⟨l, hl, h⟩ := bnd_some.1 h
  simp only at h
  cases cl with
  | builtin b => cases h
  | value q =>
    obtain ⟨q', hq, h⟩ := bnd_some.1 h
    cases h
    obtain ⟨u, hu, hg⟩ := bnd_some.1 hg
    obtain ⟨us, hus, hg⟩ := bnd_some.1 hg
    obtain ⟨ht, hg⟩ := chk_some.1 hg
    cases hg
    have hus := opds_sound ha hl hus
    have hui := opd_sound hq ha hu
    rw [iv12 (V.is_true.1 ht), Option.bind_eq_some_iff] at hui
    obtain ⟨fs, hfs, hui⟩ := hui
    rw [Option.bind_eq_some_iff] at hui
    obtain ⟨ks, hks, hui⟩ := hui
    have hval := (Option.some.inj hui).symm
    refine ⟨fs ++ (args.toList.map a.eval ++ ks), il_append.2 ⟨fs, _, hfs, il_append.2 ⟨_, ks, hus, hks, rfl⟩, rfl⟩, fun w => ?_⟩
    simp only [execOp, resolve, hval, Deferred.ofValue, Sem.run_bind, Sem.run_pure, Result.andThen_ok, invoke]
    congr 2
    apply Array.ext'
    simp
  | invoke q m =>
    obtain ⟨q', hq, h⟩ := bnd_some.1 h
    cases h
    obtain ⟨u, hu, hg⟩ := bnd_some.1 hg
    obtain ⟨us, hus, hg⟩ := bnd_some.1 hg
    obtain ⟨ht, hg⟩ := chk_some.1 hg
    obtain ⟨r, hr, hg⟩ := bnd_some.1 hg
    obtain ⟨f', hf', hg⟩ := bnd_some.1 hg
    cases hg
    have hus := opds_sound ha hl hus
    have hui := opd_sound hq ha hu
    obtain ⟨u', y, hul, hy, hval⟩ := iv_iface (V.is_true.1 ht) hui
    rw [hul] at hr
    cases hr
    refine ⟨y :: args.toList.map a.eval, il_cons.2 ⟨y, _, hy, hus, rfl⟩, fun w => ?_⟩
    have hprog : ∀ w, (program : Sem Program).run P w = .ok P w := fun w => rfl
    have hd : ∀ w, (method (P.types.size + Made.depth) u.a y m).run P w = .ok (f, y) w := fun w => method_run hf' y (P.types.size + 99) w
    simp only [execOp, resolve, hval, Sem.run_bind, Sem.run_pure, Result.andThen_ok, invoke]
    have h0 : (#[Value.iface u.a y] ++ Array.map a.eval args)[0]? = some (Value.iface u.a y) := by rw [Array.getElem?_append_left (show 0 < 1 from Nat.one_pos)]; rfl
    simp only [h0, callMethod, Sem.run_bind, hprog, Result.andThen_ok, hd]
    congr 2
    apply Array.ext'
    simp
    exact List.take_of_length_le (by simp)

/-- **One operation.** -/
theorem step2_sound (hL : Leafy L) {c : Cfg} (hF : FactsOk L c.facts) (hE : ExtOk c) {call : CallF} (hC : CallOk L F w0 c call) {o : Oper} {d : Dst} {g : Step1} {tm tm' : Tm} {N : Nat} {a : Act}
    (h : stage2 c d o.op = some g) (ha : ARel L e tm N a) (hr : Rel L F w0 e s w) (hv : g call tm s = some (tm', s')) :
    ∃ v, tm' = d.put v tm ∧ OpStep L F w0 c.P e s w o a v s' := by
  have plain : ∀ {k : Kd}, stage1 c o.op = some k → (match k with | .pure f => some (doPure d f) | .run f => some (doRun d fun _ => f)) = some g → ∃ v, tm' = d.put v tm ∧ OpStep L F w0 c.P e s w o a v s' := by
    intro k hk hg
    cases k with
    | pure f =>
      cases hg
      obtain ⟨v, hfv, hv⟩ := bnd_some.1 hv
      cases hv
      exact ⟨v, rfl, pure_step hL hF hk ha hr hfv⟩
    | run f =>
      cases hg
      obtain ⟨r, hfv, hv⟩ := bnd_some.1 hv
      cases hv
      obtain ⟨v, s1⟩ := r
      exact ⟨v, rfl, (run_sound hL hF hk ha hr hfv).step⟩
  by_cases hcall : ∃ k, o.op = .call k
  · obtain ⟨k, hk⟩ := hcall
    rw [hk] at h
    simp only [stage2] at h
    rw [sel_eq] at h
    split at h
    · obtain ⟨kd, hkd, h⟩ := bnd_some.1 h
      exact plain (by rw [hk]; exact hkd) (by cases kd <;> exact h)
    · obtain ⟨gc, hgc, h⟩ := bnd_some.1 h
      cases h
      obtain ⟨r, hrv, hv⟩ := bnd_some.1 hv
      cases hv
      obtain ⟨v, s1⟩ := r
      refine ⟨v, rfl, ?_⟩
      obtain ⟨fa, hfa, hrv⟩ := bnd_some.1 hrv
      obtain ⟨f, vs⟩ := fa
      obtain ⟨xs, hxs, hrun⟩ := callee_sound hk hgc ha hfa
      simp only at hrv
      intro K Q hK
      unfold Oper.wp
      rw [hrun w]
      split at hrv
      · rename_i at' hat
        obtain ⟨x, w', h1, h2, h3, h4⟩ := atomic_sound hL hr hF hE hat hxs hrv
        rw [h4]
        exact hK e x w' h1 h2 h3
      · obtain ⟨h1, h2⟩ := hC f vs s v s1 xs e w hrv hxs hr
        rw [h1]
        exact h2 _ (fun e' x w' he hx hr' => hK e' x w' he hx hr')
  · have hst : stage2 c d o.op = (stage1 c o.op).bnd fun | .pure f => some (doPure d f) | .run f => some (doRun d fun _ => f) := by
      cases hop : o.op <;> first | rfl | exact absurd ⟨_, hop⟩ hcall
    rw [hst] at h
    obtain ⟨kd, hkd, h⟩ := bnd_some.1 h
    exact plain hkd (by cases kd <;> exact h)

/-! Guards -/

theorem dst_put {d : Option Tmp} {N : Nat} (h : dstOk N d = true) {tm : Tm} {a : Act} {v : V} {x : Value} (ha : ARel L e tm N a) (hv : iv L e v = some x) : ARel L e ((dstOf d).put v tm) N (a.put d x) := by
  cases d with
  | none => exact ha
  | some d =>
    obtain ⟨h1, h2⟩ := band_true.1 h
    exact ha.put (blt_true.1 h1) (blt_true.1 h2) hv

theorem want_sound {ops : Array Oper} {o : Oper} {tm : Tm} {N : Nat} {a : Act} {b : Bool} (hg : guardOk ops o = true) (ha : ARel L e tm N a) (h : want (stageG ops o) tm = some b) : Region.wanted o (yielded ops a.tmps) = b := by
  unfold stageG at h
  unfold guardOk at hg
  unfold Region.wanted
  split at h
  · rename_i hn
    rw [hn]
    cases h; rfl
  · rename_i j wnt hj
    rw [hj] at hg ⊢
    simp only at hg ⊢
    split at h
    · rename_i d hd
      rw [hd] at hg
      simp only at hg
      have hd' := blt_true.1 hg
      have hiv0 := ha.tmps d hd'
      unfold want at h
      simp only [sel_eq] at h
      rw [if_neg (by decide), if_neg (by decide)] at h
      unfold wantAt at h
      rw [sel_eq] at h
      unfold yielded
      rw [hd]
      simp only [Option.bind_some]
      have hget : ∀ bb, a.tmps.getD d Go.undef = .bool bb → a.tmps[d]? = some (.bool bb) := fun bb hbb => by
        rw [Array.getD_eq_getD_getElem?] at hbb
        cases hq : a.tmps[d]? with
        | none => rw [hq] at hbb; cases hbb
        | some y => rw [hq] at hbb; simp at hbb; rw [hbb]
      split at h
      · rename_i hle
        cases h
        have hle := ble_true.1 hle
        have hiv := hiv0.resolve_left fun hc => by
          unfold tget at hle
          omega
        unfold tget
        rcases Nat.eq_zero_or_pos (tmGet (path d) tm).tag with h0 | h0
        · rw [iv0 h0] at hiv
          rw [hget false (Option.some.inj hiv).symm, h0]
          cases wnt <;> rfl
        · have h1 : (tmGet (path d) tm).tag = 1 := by unfold tget at hle; omega
          rw [iv1 h1] at hiv
          rw [hget true (Option.some.inj hiv).symm, h1]
          cases wnt <;> rfl
      · obtain ⟨ht, h⟩ := chk_some.1 h
        cases h
        have h16 := V.is_true.1 ht
        unfold tget at h16
        have hiv := hiv0.resolve_left fun hc => by omega
        rw [iv16 h16, Option.bind_eq_some_iff] at hiv
        obtain ⟨q, _, hiv⟩ := hiv
        have htup := (Option.some.inj hiv).symm
        rw [Array.getD_eq_getD_getElem?] at htup
        cases hq : a.tmps[d]? with
        | none => simp
        | some y =>
          rw [hq] at htup
          simp at htup
          rw [htup]
          simp
    · rename_i hd
      cases h
      unfold yielded
      rw [hd]
      simp

end Go.X

/-
  Regions in their own order, code, functions. What regions that draw their order do is asked here, and shown behind.
-/
namespace Go.X
open Go.RowKit
set_option linter.unusedSimpArgs false
set_option linter.unusedVariables false

variable {L : Nat → Value} {F : Nat → Prop} {w0 w : World} {e e' : Env} {s s' : St} {P : Program}

/-- How a code ends. -/
def exOf : Nat → Exit
  | 0 => .normal
  | 1 => .ret
  | n + 2 => .exit n

/-- What the reckoner says of a code holds. -/
def Good (L : Nat → Value) (F : Nat → Prop) (w0 : World) (P : Program) (N : Nat) (k : Code) (g : Go1) : Prop :=
  ∀ (tm : Tm) (s : St) (r : Ex × Tm × St) (e : Env) (a : Act) (w : World) (Q : Exit → Act → World → Prop), g tm s = some r → ARel L e tm N a → Rel L F w0 e s w →
    (∀ e' a' w', Ext e e' s r.2.2 → ARel L e' r.2.1 N a' → Rel L F w0 e' r.2.2 w' → Q (exOf r.1) a' w') → k.wp P Q a w

/-- What a region that draws its order does. -/
def DrawOk (L : Nat → Value) (F : Nat → Prop) (w0 : World) (c : Cfg) : Prop :=
  ∀ (call : CallF), (∀ F w0, CallOk L F w0 c call) → ∀ (N id : Nat) (ops : Array Oper), Good L F w0 c.P N (.region id ops true) (fun tm s => (stageDraw c N ops).bnd fun l => normal (drawn call l tm s))

theorem step3_sound (hL : Leafy L) {c : Cfg} (hF : FactsOk L c.facts) (hE : ExtOk c) {call : CallF} (hC : CallOk L F w0 c call) {N : Nat} {ops : Array Oper} {o : Oper} {x : XO} {tm tm' : Tm} {a : Act}
    (h : stage3 c N ops o = some x) (ha : ARel L e tm N a) (hr : Rel L F w0 e s w) (hv : x.go call tm s = some (tm', s')) {K : Act → World → Prop} {Q : Exit → Act → World → Prop}
    (hK : ∀ e' a' w', Ext e e' s s' → ARel L e' tm' N a' → Rel L F w0 e' s' w' → K a' w') :
    if Region.wanted o (yielded ops a.tmps) = true then o.wp c.P a w K Q else K (a.put o.dst Go.undef) w := by
  obtain ⟨hok, h⟩ := chk_some.1 h
  obtain ⟨g, hg, h⟩ := bnd_some.1 h
  cases h
  obtain ⟨hd, hgd⟩ := band_true.1 hok
  have real : ∀ {t1 : Tm} {s1 : St}, g call tm s = some (t1, s1) → (∀ e' a' w', Ext e e' s s1 → ARel L e' t1 N a' → Rel L F w0 e' s1 w' → K a' w') → o.wp c.P a w K Q := by
    intro t1 s1 hgo hK'
    obtain ⟨v, rfl, hstep⟩ := step2_sound hL hF hE hC hg ha hr hgo
    exact hstep K Q fun e' y w' he hy hr' => hK' e' _ w' he (dst_put hd (ha.mono he.le) hy) hr'
  simp only at hv
  rw [sel_eq] at hv
  split at hv
  · rename_i h0
    have hnone : o.guard = none := by
      have := beq_true.1 h0
      unfold stageG at this
      split at this
      · assumption
      · split at this <;> cases this
    rw [if_pos (by simp [Region.wanted, hnone])]
    exact real hv hK
  · obtain ⟨b, hb, hv⟩ := bnd_some.1 hv
    have hw := want_sound hgd ha hb
    rw [hw]
    cases b with
    | true => exact real hv hK
    | false =>
      cases hv
      exact hK e _ w (Ext.refl _ _) (dst_put hd ha iv_undef) hr

theorem opers_sound (hL : Leafy L) {c : Cfg} (hF : FactsOk L c.facts) (hE : ExtOk c) {call : CallF} (hC : CallOk L F w0 c call) {N : Nat} {ops : Array Oper} {Q : Exit → Act → World → Prop} :
    ∀ (l : List Oper) (xs : List XO) (tm : Tm) (s : St) (tm' : Tm) (s' : St) (e : Env) (a : Act) (w : World), mapO (stage3 c N ops) l = some xs → opers call xs tm s = some (tm', s') → ARel L e tm N a → Rel L F w0 e s w →
    (∀ e' a' w', Ext e e' s s' → ARel L e' tm' N a' → Rel L F w0 e' s' w' → Q .normal a' w') → wpList c.P ops Q l a w := by
  intro l
  induction l with
  | nil =>
    intro xs tm s tm' s' e a w hx hv ha hr hQ
    cases hx
    cases hv
    exact wpList_nil (hQ e a w (Ext.refl _ _) ha hr)
  | cons o l ih =>
    intro xs tm s tm' s' e a w hx hv ha hr hQ
    obtain ⟨x, r, hx1, hr1, rfl⟩ := mapO_some_cons.1 hx
    obtain ⟨q, hq, hv⟩ := bnd_some.1 hv
    obtain ⟨t1, s1⟩ := q
    exact wpList_step fun K hK => step3_sound hL hF hE hC hx1 ha hr hq fun e' a' w' he ha' hr' => hK a' w' (ih r t1 s1 tm' s' e' a' w' hr1 hv ha' hr' fun e'' a'' w'' he' => hQ e'' a'' w'' (he.trans he'))

theorem least {p : Nat → Prop} (h : ∃ n, p n) : ∃ n, p n ∧ ∀ m, p m → n ≤ m := by
  obtain ⟨n, hn⟩ := h
  induction n using Nat.strongRecOn with
  | _ n ih =>
    by_cases hex : ∃ m, m < n ∧ p m
    · obtain ⟨m, hm, hp⟩ := hex
      exact ih m hm hp
    · exact ⟨n, hn, fun m hp => Nat.le_of_not_lt fun hm => hex ⟨m, hm, hp⟩⟩

/-- A loop, by rounds that are told. -/
theorem wp_loop_rec {c : Code} {Q : Exit → Act → World → Prop} {a : Act} {w : World} (I : Nat → Act → World → Prop) {n : Nat} (h0 : I n a w)
    (round : ∀ n a w, I n a w → c.wp P (Exit.then (fun a' w' => ∃ m, m < n ∧ I m a' w') Q) a w) : (Code.loop c).wp P Q a w := by
  classical
  refine wp_loop (fun a w => ∃ n, I n a w) (fun a w => if h : ∃ n, I n a w then (least h).choose else 0) ⟨n, h0⟩ fun a w hI => ?_
  have hn := (least hI).choose_spec
  refine wp_mono (round _ a w hn.1) fun ex a' w' hq => ?_
  cases ex <;> first | exact hq | skip
  obtain ⟨m, hm, hIm⟩ := hq
  refine ⟨⟨m, hIm⟩, ?_⟩
  rw [dif_pos ⟨m, hIm⟩, dif_pos hI]
  exact Nat.lt_of_le_of_lt ((least ⟨m, hIm⟩).choose_spec.2 m hIm) hm

theorem seq_good {N : Nat} {x y : Code} {f g : Go1} (hx : Good L F w0 P N x f) (hy : Good L F w0 P N y g) : Good L F w0 P N (.seq x y) (xSeq f g) := by
  intro tm s r e a w Q h ha hr hQ
  obtain ⟨q, hq, h⟩ := bnd_some.1 h
  refine wp_seq (hx tm s q e a w _ hq ha hr fun e' a' w' he ha' hr' => ?_)
  rw [sel_eq] at h
  split at h
  · rename_i h0
    rw [beq_true.1 h0]
    exact hy _ _ r e' a' w' Q h ha' hr' fun e'' a'' w'' he' => hQ e'' a'' w'' (he.trans he')
  · rename_i h0
    cases h
    have hne : r.1 ≠ 0 := fun hc => h0 (beq_true.2 hc)
    have := hQ e' a' w' he ha' hr'
    match hq1 : r.1, hne with
    | 1, _ => rw [hq1] at this; exact this
    | n + 2, _ => rw [hq1] at this; exact this

theorem loop_good {N : Nat} {x : Code} {f : Go1} (hx : Good L F w0 P N x f) (n : Nat) : Good L F w0 P N (.loop x) (xLoop f n) := by
  intro tm s r e a w Q h ha hr hQ
  refine wp_loop_rec (n := n) (fun n a w => ∃ tm s e1, xLoop f n tm s = some r ∧ ARel L e1 tm N a ∧ Rel L F w0 e1 s w ∧ (∀ e' a' w', Ext e1 e' s r.2.2 → ARel L e' r.2.1 N a' → Rel L F w0 e' r.2.2 w' → Q (exOf r.1) a' w'))
    ⟨tm, s, e, h, ha, hr, hQ⟩ fun n a w ⟨tm, s, e1, h, ha, hr, hQ⟩ => ?_
  cases n with
  | zero => cases h
  | succ n =>
    obtain ⟨q, hq, h⟩ := bnd_some.1 (show (f tm s).bnd (fun q => sel (Nat.beq q.1 0) (xLoop f n q.2.1 q.2.2) (some q)) = some r from h)
    refine hx tm s q e1 a w _ hq ha hr fun e' a' w' he ha' hr' => ?_
    rw [sel_eq] at h
    split at h
    · rename_i h0
      rw [beq_true.1 h0]
      exact ⟨n, Nat.lt_succ_self n, q.2.1, q.2.2, e', h, ha', hr', fun e'' a'' w'' he' => hQ e'' a'' w'' (he.trans he')⟩
    · rename_i h0
      cases h
      have hne : r.1 ≠ 0 := fun hc => h0 (beq_true.2 hc)
      have := hQ e' a' w' he ha' hr'
      match hq1 : r.1, hne with
      | 1, _ => rw [hq1] at this; exact this
      | n + 2, _ => rw [hq1] at this; exact this

theorem block_good {N id : Nat} {x : Code} {f : Go1} (hx : Good L F w0 P N x f) : Good L F w0 P N (.block id x) (xBlock id f) := by
  intro tm s r e a w Q h ha hr hQ
  obtain ⟨q, hq, h⟩ := bnd_some.1 h
  cases h
  refine wp_block (hx tm s q e a w _ hq ha hr fun e' a' w' he ha' hr' => ?_)
  have := hQ e' a' w' he ha' hr'
  simp only at this
  rw [sel_eq] at this
  match hq1 : q.1 with
  | 0 => rw [hq1] at this; exact this
  | 1 => rw [hq1] at this; rw [if_neg (by simp)] at this; exact this
  | n + 2 =>
    rw [hq1] at this
    show (if n = id then Q .normal a' w' else Q (.exit n) a' w')
    by_cases hn : n = id
    · rw [if_pos hn]
      rw [if_pos (by simp [hn])] at this
      exact this
    · rw [if_neg hn]
      rw [if_neg (by simp; omega)] at this
      exact this

theorem exec_good (hL : Leafy L) {c : Cfg} (hF : FactsOk L c.facts) (hE : ExtOk c) (hD : DrawOk L F w0 c) {call : CallF} (hC : ∀ F w0, CallOk L F w0 c call) (N : Nat) : ∀ (k : Code) (f : Nat), Good L F w0 c.P N k (exec c call N k f) := by
  intro k
  induction k with
  | skip => exact fun f tm s r e a w Q h ha hr hQ => by cases h; exact wp_skip (hQ e a w (Ext.refl _ _) ha hr)
  | region id ops draw =>
    intro f
    cases draw with
    | true => exact hD call hC N id ops
    | false =>
      intro tm s r e a w Q h ha hr hQ
      obtain ⟨l, hl, h⟩ := bnd_some.1 (show (mapO (stage3 c N ops) ops.toList).bnd (fun l => normal (opers call l tm s)) = some r from h)
      obtain ⟨q, hq, h⟩ := bnd_some.1 h
      cases h
      obtain ⟨t1, s1⟩ := q
      exact wp_region_list (opers_sound hL hF hE (hC F w0) ops.toList l tm s t1 s1 e a w hl hq ha hr hQ)
  | seq x y hx hy => exact fun f => seq_good (hx f) (hy f)
  | cond k x y hx hy =>
    intro f tm s r e a w Q h ha hr hQ
    obtain ⟨k', hk, h⟩ := bnd_some.1 h
    obtain ⟨v, hv, h⟩ := bnd_some.1 h
    obtain ⟨b, hb, h⟩ := bnd_some.1 h
    have hi := opd_sound hk ha hv
    rw [asB_some hb] at hi
    refine wp_cond (Option.some.inj hi).symm ?_
    cases b with
    | true => exact hx f tm s r e a w Q h ha hr hQ
    | false => exact hy f tm s r e a w Q h ha hr hQ
  | block id x hx => exact fun f => block_good (hx f)
  | loop x hx => exact fun f => loop_good (hx f) f
  | rangeFunc => exact fun f tm s r e a w Q h => by cases h
  | exit id => exact fun f tm s r e a w Q h ha hr hQ => by cases h; exact wp_exit (hQ e a w (Ext.refl _ _) ha hr)
  | scope => exact fun f tm s r e a w Q h => by cases h
  | label => exact fun f tm s r e a w Q h => by cases h
  | goto => exact fun f tm s r e a w Q h => by cases h
  | ret => exact fun f tm s r e a w Q h ha hr hQ => by cases h; exact wp_ret (hQ e a w (Ext.refl _ _) ha hr)
  | refuse => exact fun f tm s r e a w Q h => by cases h

end Go.X

/-
  Functions: frames, results, calls.
-/
namespace Go.X
open Go.RowKit
set_option linter.unusedSimpArgs false
set_option linter.unusedVariables false

variable {L : Nat → Value} {F : Nat → Prop} {w0 w : World} {e e' : Env} {s s' : St} {P : Program}

theorem noSlots_get (p : P3) : tmGet p noSlots = X.undef := by
  unfold tmGet noSlots
  simp only [N8.get_all]

theorem frame_get : ∀ (l : List V) (k : Nat) (tm : Tm) (t : Nat), t < 512 → k + l.length ≤ 512 → tmGet (path t) (frame l k tm) = if k ≤ t ∧ t < k + l.length then (l[t - k]?).getD X.undef else tmGet (path t) tm
  | [], k, tm, t, ht, hk => by rw [if_neg (by simp)]; rfl
  | v :: l, k, tm, t, ht, hk => by
    simp only [List.length_cons] at hk
    show tmGet (path t) (frame l (k + 1) (tmPut (path k) v tm)) = _
    rw [frame_get l (k + 1) _ t ht (by omega), tmGet_put]
    by_cases h1 : k + 1 ≤ t ∧ t < k + 1 + l.length
    · rw [if_pos h1, if_pos (by simp; omega), show t - k = (t - (k + 1)) + 1 by omega]
      rfl
    · rw [if_neg h1]
      by_cases h2 : t = k
      · subst h2
        rw [if_pos rfl, if_pos (by simp)]
        simp
      · rw [if_neg (fun hp => h2 (path_inj ht (by omega) hp)), if_neg (by simp; omega)]

theorem frame_rel {l : List V} {xs : List Value} (h : il L e l = some xs) {N : Nat} (hN : l.length ≤ N) (h5 : l.length ≤ 512) :
    ARel L e (frame l 0 noSlots) N { tmps := xs.toArray ++ Array.replicate (N - xs.toArray.size) Go.undef, defers := [] } := by
  have hlen := il_length h
  refine ⟨by simp; omega, rfl, fun t ht => .inr ?_⟩
  rw [frame_get l 0 noSlots t ht (by omega), noSlots_get]
  by_cases hlt : t < l.length
  · rw [if_pos (by omega)]
    obtain ⟨v, hv⟩ : ∃ v, l[t]? = some v := ⟨l[t], by simp [hlt]⟩
    obtain ⟨x, hx, hi⟩ := il_get h t v hv
    have ht' : t < xs.length := by omega
    simp only [Nat.sub_zero, hv, Option.getD_some]
    rw [hi, Array.getD_eq_getD_getElem?, Array.getElem?_append_left (by simpa using ht')]
    simp [hx]
  · rw [if_neg (by omega), iv_undef, Array.getD_eq_getD_getElem?, Array.getElem?_append_right (by simp; omega)]
    rw [Array.getElem?_replicate]
    split <;> rfl

theorem loadVarP (hr : Rel L F w0 e s w) {t : TypeId} {id : Path} {off : Nat} {v : V} {q : Nat × Nat} (h : X.loadVar P s t id off = some v) (hq : e.blk id = some q) :
    ∃ x, iv L e v = some x ∧ (Go.loadVar t ⟨q.1, q.2 + off, none⟩).run P w = .ok x w := by
  obtain ⟨ag, ha, h⟩ := bnd_some.1 h
  obtain ⟨n, hn, h⟩ := bnd_some.1 h
  exact hr.loadVar ha hn h hq

/-- What one result is. -/
def resSem (tmps : Array Value) : ResultVar → Sem Value
  | .tmp t => pure (tmps.getD t Go.undef)
  | .cell a t => do Go.loadVar t (← asAddr (tmps.getD a Go.undef))

theorem result_sound (hr : Rel L F w0 e s w) {tm : Tm} {N : Nat} {a : Act} (ha : ARel L e tm N a) {r : ResultVar} {v : V} (h : resultOf P tm s r = some v) : ∃ x, iv L e v = some x ∧ (resSem a.tmps r).run P w = .ok x w := by
  cases r with
  | tmp t =>
    obtain ⟨ht, h⟩ := chk_some.1 h
    exact ⟨_, (ha.live (blt_true.1 ht) h).2, rfl⟩
  | cell t ty =>
    obtain ⟨ht, h⟩ := chk_some.1 h
    obtain ⟨p, hp, h⟩ := bnd_some.1 h
    obtain ⟨h4, rfl⟩ := asP_some.1 hp
    have hi := (ha.tmps t (blt_true.1 ht)).resolve_left fun hc => by
      have h4 : (tmGet (path t) tm).tag = 4 := h4
      omega
    obtain ⟨q, hq, hx⟩ := iv_ptr h4 hi
    obtain ⟨x, hx', hrun⟩ := loadVarP hr h hq
    refine ⟨x, hx', ?_⟩
    show (do Go.loadVar ty (← asAddr (a.tmps.getD t Go.undef)) : Sem Value).run P w = _
    rw [hx]
    simp only [asAddr, Sem.run_bind, Sem.run_pure, Result.andThen_ok]
    exact hrun

theorem results_list (hr : Rel L F w0 e s w) {tm : Tm} {N : Nat} {a : Act} (ha : ARel L e tm N a) : ∀ {l : List ResultVar} {vs : List V}, mapO (resultOf P tm s) l = some vs → ∃ xs, il L e vs = some xs ∧ (l.mapM (resSem a.tmps)).run P w = .ok xs w
  | [], vs, h => by cases h; exact ⟨[], il_nil, rfl⟩
  | r :: l, vs, h => by
    obtain ⟨v, q, hv, hq, rfl⟩ := mapO_some_cons.1 h
    obtain ⟨x, hx, hrun⟩ := result_sound hr ha hv
    obtain ⟨xs, hxs, hruns⟩ := results_list hr ha hq
    refine ⟨x :: xs, il_cons.2 ⟨x, xs, hx, hxs, rfl⟩, ?_⟩
    rw [List.mapM_cons, Sem.run_bind, hrun, Result.andThen_ok, Sem.run_bind, hruns]
    rfl

theorem results_sound (hr : Rel L F w0 e s w) {tm : Tm} {N : Nat} {a : Act} (ha : ARel L e tm N a) {fn : Func} {vs : List V} (h : resultsOf P tm s fn.results.toList = some vs) :
    ∃ x, iv L e (result1 vs) = some x ∧ (results fn a.tmps).run P w = .ok x w := by
  obtain ⟨xs, hxs, hrun⟩ := results_list (P := P) hr ha h
  have hm : (fn.results.mapM (resSem a.tmps)).run P w = .ok xs.toArray w := by
    rw [Array.mapM_eq_mapM_toList]
    show (Functor.map _ _ : Sem _).run P w = _
    rw [map_eq_pure_bind, Sem.run_bind, hrun]
    rfl
  have hres : results fn a.tmps = (do
      let vs ← fn.results.mapM (resSem a.tmps)
      pure (if h : vs.size = 1 then vs[0] else .tuple vs)) := by
    unfold results
    congr 1
  refine ⟨if h : xs.toArray.size = 1 then xs.toArray[0] else .tuple xs.toArray, ?_, ?_⟩
  · have hlen := il_length hxs
    match vs, hxs with
    | [], hxs =>
      rw [il_nil] at hxs; cases hxs
      exact iv_vtup il_nil
    | [v], hxs =>
      obtain ⟨x, y, hx, hy, rfl⟩ := il_cons.1 hxs
      rw [il_nil] at hy; cases hy
      simpa [result1] using hx
    | u :: v :: l, hxs =>
      rw [dif_neg (by simp; simp at hlen; omega)]
      exact iv_vtup hxs
  · rw [hres, Sem.run_bind, hm]
    rfl

/-- A call. -/
theorem enter_sound (hL : Leafy L) {c : Cfg} (hF : FactsOk L c.facts) (hE : ExtOk c) (hD : ∀ F w0, DrawOk L F w0 c) {call : CallF} (hC : ∀ F w0, CallOk L F w0 c call) (F : Nat → Prop) (w0 : World) : CallOk L F w0 c (enter c call) := by
  intro f args s v s' xs e w h hx hr
  obtain ⟨fn, hfn, h⟩ := bnd_some.1 h
  obtain ⟨k, hk, h⟩ := bnd_some.1 h
  obtain ⟨hc, h⟩ := chk_some.1 h
  obtain ⟨r, hr1, h⟩ := bnd_some.1 h
  obtain ⟨hle, h⟩ := chk_some.1 h
  obtain ⟨vs, hvs, h⟩ := bnd_some.1 h
  cases h
  obtain ⟨hc1, hc2⟩ := band_true.1 hc
  obtain ⟨hn, h5⟩ := band_true.1 hc2
  rw [bnot_true] at hc1
  have hn := ble_true.1 hn
  have h5 := ble_true.1 h5
  rw [llen_eq] at hn h5
  refine ⟨?_, fun R hR => ?_⟩
  · have hprog : ∀ w, (program : Sem Program).run c.P w = .ok c.P w := fun w => rfl
    unfold callFunc
    simp only [Sem.run_bind, hprog, Result.andThen_ok, hfn, hc1, hk, Option.isNone_some, Bool.false_eq_true, if_false]
    rfl
  · refine calls_of_wp hfn hk ?_
    refine exec_good hL hF hE (hD F w0) hC fn.ntmps k 10000 _ s r e _ w _ hr1 (frame_rel hx hn h5) hr fun e' a' w' he ha' hr' => ?_
    obtain ⟨x, hxi, hrun⟩ := results_sound hr' ha' hvs
    have hle := ble_true.1 hle
    have hfin : a'.defers = [] ∧ ∃ v, (results fn a'.tmps).run c.P w' = .ok v w' ∧ R (.returned v) w' := ⟨ha'.calm, x, hrun, hR e' x w' he hxi hr'⟩
    match hr1 : r.1, hle with
    | 0, _ => exact hfin
    | 1, _ => exact hfin

/-- **Calls**, as deep as told. -/
theorem callFn_sound (hL : Leafy L) {c : Cfg} (hF : FactsOk L c.facts) (hE : ExtOk c) (hD : ∀ F w0, DrawOk L F w0 c) (hH : ∀ f args s, c.hook f args s = none) : ∀ n F w0, CallOk L F w0 c (callFn c n)
  | 0 => fun F w0 f args s v s' xs e w h => by cases h
  | n + 1 => fun F w0 f args s v s' xs e w h => by
    have h : (match c.hook f args s with | some r => some r | none => enter c (callFn c n) f args s) = some (v, s') := h
    rw [hH f args s] at h
    exact enter_sound hL hF hE hD (callFn_sound hL hF hE hD hH n) F w0 f args s v s' xs e w h

end Go.X

/-
  Sets of numbers as numbers; operations of a region that are apart.
-/
namespace Go.X
open Go.RowKit
set_option linter.unusedSimpArgs false
set_option linter.unusedVariables false

theorem hasBit_eq (l n : Nat) : hasBit l n = l.testBit n := by
  unfold hasBit
  show Nat.beq ((l >>> n) &&& 1) 1 = _
  rw [Nat.and_one_is_mod, Nat.shiftRight_eq_div_pow, Nat.testBit_eq_decide_div_mod_eq]
  by_cases h : l / 2 ^ n % 2 = 1
  · rw [h]; rfl
  · have : l / 2 ^ n % 2 = 0 := by omega
    rw [this]; rfl

theorem bit_test (n m : Nat) : (bit n).testBit m = decide (n = m) := by
  show (2 ^ n).testBit m = _
  rw [Nat.testBit_two_pow]

theorem bitsOf_test (l : List Nat) (n : Nat) : (bitsOf l).testBit n = true ↔ n ∈ l := by
  induction l with
  | nil => show (0 : Nat).testBit n = true ↔ _; simp
  | cons a l ih =>
    show (bit a ||| bitsOf l).testBit n = true ↔ _
    rw [Nat.testBit_or, bit_test, Bool.or_eq_true, ih]
    simp [eq_comm]

theorem subset_spec {a l : Nat} (h : subset a l = true) (n : Nat) (hn : a.testBit n = true) : l.testBit n = true := by
  have h : a &&& l = a := beq_true.1 h
  rw [← h, Nat.testBit_and, Bool.and_eq_true] at hn
  exact hn.2

theorem distinct_spec : ∀ (l : List Nat) (seen : Nat), distinct l seen = true → l.Nodup ∧ ∀ x ∈ l, seen.testBit x = false
  | [], seen, _ => ⟨List.nodup_nil, fun x hx => by cases hx⟩
  | a :: l, seen, h => by
    obtain ⟨h1, h2⟩ := band_true.1 (show band (bnot (hasBit seen a)) (distinct l (Nat.lor seen (bit a))) = true from h)
    rw [bnot_true, hasBit_eq] at h1
    obtain ⟨h3, h4⟩ := distinct_spec l _ h2
    have h5 : ∀ x ∈ l, seen.testBit x = false ∧ a ≠ x := fun x hx => by
      have := h4 x hx
      have : (seen ||| bit a).testBit x = false := this
      rw [Nat.testBit_or, bit_test, Bool.or_eq_false_iff] at this
      exact ⟨this.1, by simpa using this.2⟩
    refine ⟨List.nodup_cons.2 ⟨fun hm => (h5 a hm).2 rfl, h3⟩, fun x hx => ?_⟩
    rcases List.mem_cons.1 hx with rfl | hx
    · exact h1
    · exact (h5 x hx).1

theorem nodup_filterMap {α β : Type} {f : α → Option β} : ∀ {l : List α}, (l.filterMap f).Nodup → ∀ {i j : Nat} {x y : α} {d : β}, l[i]? = some x → l[j]? = some y → f x = some d → f y = some d → i = j := by
  intro l
  induction l with
  | nil => intro _ i j x y d hx; simp at hx
  | cons a l ih =>
    intro h i j x y d hx hy hfx hfy
    rw [List.filterMap_cons] at h
    have htail : (l.filterMap f).Nodup := by
      split at h
      · exact h
      · exact (List.nodup_cons.1 h).2
    have hhead : ∀ {k : Nat} {z : α}, l[k]? = some z → f z = some d → f a = some d → False := by
      intro k z hz hfz hfa
      rw [hfa] at h
      exact (List.nodup_cons.1 h).1 (List.mem_filterMap.2 ⟨z, List.mem_of_getElem? hz, hfz⟩)
    cases i with
    | zero =>
      simp at hx; subst hx
      cases j with
      | zero => rfl
      | succ j => simp at hy; exact (hhead hy hfy hfx).elim
    | succ i =>
      simp at hx
      cases j with
      | zero => simp at hy; subst hy; exact (hhead hx hfx hfy).elim
      | succ j => simp at hy; rw [ih htail hx hy hfx hfy]

theorem mem_waits {o : Oper} {k : Nat} : k ∈ waits o ↔ ∃ e ∈ o.after, Region.binds .any e = true ∧ e.on = k := by
  unfold waits
  rw [List.mem_map]
  constructor
  · rintro ⟨e, he, rfl⟩
    rw [List.mem_filter] at he
    exact ⟨e, by simpa using he.1, he.2, rfl⟩
  · rintro ⟨e, he, hb, rfl⟩
    exact ⟨e, List.mem_filter.2 ⟨by simpa using he, hb⟩, rfl⟩

theorem mindsFrom_spec {ops : Array Oper} {all : Nat} : ∀ (l : List Oper) (k : Nat), mindsFrom ops all l k = true → ∀ i o, l[i]? = some o → minds ops all o (k + i) = true
  | [], k, _, i, o, ho => by simp at ho
  | a :: l, k, h, i, o, ho => by
    obtain ⟨h1, h2⟩ := band_true.1 (show band (minds ops all a k) (mindsFrom ops all l (k + 1)) = true from h)
    cases i with
    | zero => simp at ho; subst ho; exact h1
    | succ i =>
      simp at ho
      have := mindsFrom_spec l (k + 1) h2 i o ho
      rw [show k + (i + 1) = k + 1 + i by omega]
      exact this

section
variable {ops : Array Oper}

theorem dst_unique (h : mindsAll ops = true) {i j : Nat} {oi oj : Oper} {d : Tmp} (hi : ops[i]? = some oi) (hj : ops[j]? = some oj) (hdi : oi.dst = some d) (hdj : oj.dst = some d) : i = j := by
  obtain ⟨h1, _⟩ := band_true.1 h
  exact nodup_filterMap (f := fun (o : Oper) => o.dst) (l := ops.toList) (distinct_spec _ _ h1).1 (by simpa using hi) (by simpa using hj) hdi hdj

/-- What an operation looks at, and another one writes: that one is waited for, or waits. -/
theorem minds_spec (h : mindsAll ops = true) {i j : Nat} {oi oj : Oper} {d : Tmp} (hi : ops[i]? = some oi) (hj : ops[j]? = some oj) (hd : oj.dst = some d) (hl : d ∈ oi.looksAt ops) : j ∈ waits oi ∨ i ∈ waits oj := by
  obtain ⟨_, h2⟩ := band_true.1 h
  have hm := mindsFrom_spec ops.toList 0 h2 i oi (by simpa using hi)
  rw [Nat.zero_add] at hm
  have hall : (bitsOf (dsts ops.toList)).testBit d = true := (bitsOf_test _ _).2 (List.mem_filterMap.2 ⟨oj, List.mem_of_getElem? (by simpa using hj), hd⟩)
  have hboth : (Nat.land (bitsOf (oi.looksAt ops)) (bitsOf (dsts ops.toList))).testBit d = true := by
    show (bitsOf (oi.looksAt ops) &&& bitsOf (dsts ops.toList)).testBit d = true
    rw [Nat.testBit_and, hall, (bitsOf_test _ _).2 hl]
    rfl
  have hw : ∀ {x : Nat}, (bitsOf (dsts ((waits oi).filterMap (ops[·]?)))).testBit d = true → j ∈ waits oi := fun hx => by
    obtain ⟨om, hom, hdm⟩ := List.mem_filterMap.1 ((bitsOf_test _ _).1 hx)
    obtain ⟨m, hmw, hm⟩ := List.mem_filterMap.1 hom
    rw [dst_unique h hj hm hd hdm]
    exact hmw
  unfold minds at hm
  rw [Bool.or_eq_true] at hm
  rcases hm with hm | hm
  · exact .inl (hw (x := 0) (subset_spec hm d hboth))
  · have := subset_spec hm d hboth
    have : ((bitsOf (dsts ((waits oi).filterMap (ops[·]?)))) ||| bitsOf (revDsts ops.toList i)).testBit d = true := this
    rw [Nat.testBit_or, Bool.or_eq_true] at this
    rcases this with hx | hx
    · exact .inl (hw (x := 0) hx)
    · right
      obtain ⟨om, hom, hdm⟩ := List.mem_filterMap.1 ((bitsOf_test _ _).1 hx)
      obtain ⟨hom1, hom2⟩ := List.mem_filter.1 hom
      obtain ⟨m, hm⟩ := List.getElem?_of_mem hom1
      have := dst_unique h hj (by simpa using hm) hd hdm
      rw [hasBit_eq, bitsOf_test] at hom2
      rw [show oj = om by
        have h1 : ops[j]? = some om := by rw [this]; simpa using hm
        rw [hj] at h1; exact Option.some.inj h1]
      exact hom2

theorem apart_of (h : mindsAll ops = true) {i j : Nat} {oi oj : Oper} (hi : ops[i]? = some oi) (hj : ops[j]? = some oj) (hne : j ≠ i) (h1 : i ∉ waits oj) (h2 : j ∉ waits oi) : oi.apart ops oj = true := by
  unfold Oper.apart
  rw [Bool.and_eq_true]
  constructor
  · cases hd : oi.dst with
    | none => rfl
    | some d =>
      simp only [Bool.and_eq_true, Bool.not_eq_true', List.contains_eq_mem, decide_eq_false_iff_not, bne_iff_ne, ne_eq]
      refine ⟨fun hl => ?_, fun hdj => hne (dst_unique h hj hi hdj hd)⟩
      rcases minds_spec h hj hi hd hl with hx | hx
      · exact h1 hx
      · exact h2 hx
  · cases hd : oj.dst with
    | none => rfl
    | some d =>
      simp only [Bool.not_eq_true', List.contains_eq_mem, decide_eq_false_iff_not]
      intro hl
      rcases minds_spec h hi hj hd hl with hx | hx
      · exact h2 hx
      · exact h1 hx

end

end Go.X

/-
  A region that draws its order: an operation that does nothing but yield may be taken first, where those that write keep what it reads.
-/
namespace Go.X
open Go.RowKit
set_option linter.unusedSimpArgs false
set_option linter.unusedVariables false

section
variable {P : Program} {ops : Array Oper} {Q : Exit → Act → World → Prop} {look : Nat → Prop} {S : World → Prop}

/-- Whatever order is picked from here on; those that are looked at keep S. -/
def wpAnyS (P : Program) (ops : Array Oper) (Q : Exit → Act → World → Prop) (look : Nat → Prop) (S : World → Prop) : Nat → Array Bool → Act → World → Prop
  | 0, listed, a, w => Region.ready .any ops listed = [] ∧ Q .normal a w
  | fuel + 1, listed, a, w =>
    (Region.ready .any ops listed = [] → Q .normal a w) ∧
    ∀ j ∈ Region.ready .any ops listed, wpOp P ops Q j (fun a' w' => (look j → S w → S w') ∧ wpAnyS P ops Q look S fuel (listed.setIfInBounds j true) a' w') a w

theorem wpAny_of_wpAnyS : ∀ (fuel : Nat) (listed : Array Bool) (a : Act) (w : World), wpAnyS P ops Q look S fuel listed a w → wpAny P .any ops Q fuel listed a w
  | 0, _, _, _, h => h
  | fuel + 1, _, _, _, h => ⟨h.1, fun i hi => wpOp_mono (fun a' w' h' => wpAny_of_wpAnyS fuel _ a' w' h'.2) (h.2 i hi)⟩

/-- One that yields v in whatever world meets T may be taken first: T is S, or nothing at all. -/
theorem wpAnyS_first {T : World → Prop} {i : Nat} {oi : Oper} {v : Value} (hi : ops[i]? = some oi) (hsel : ∀ (j : Nat) (o : Oper) cs b, ops[j]? = some o → o.op ≠ .select cs b)
    (hQ : ∀ c a w, Q (.panic c) (a.put oi.dst v) w → Q (.panic c) a w) (Inv : Array Bool → Prop)
    (hinv : ∀ j listed, Inv listed → j ∈ Region.ready .any ops listed → Inv (listed.setIfInBounds j true))
    (hT : ∀ j listed w w', Inv listed → j ∈ Region.ready .any ops listed → j ≠ i → listed.getD i true = false → T w → (look j → S w → S w') → T w') :
    ∀ (fuel : Nat) (listed : Array Bool) (a : Act) (w : World), Inv listed →
      (∀ j oj, ops[j]? = some oj → j ≠ i → listed.getD j true = false → (∀ e ∈ oj.after, Region.binds .any e = true → e.on ≠ i) → oi.apart ops oj = true) →
      i ∈ Region.ready .any ops listed → YieldsIf P ops T oi v a → T w →
      wpAnyS P ops Q look S fuel (listed.setIfInBounds i true) (a.put oi.dst v) w → wpAnyS P ops Q look S (fuel + 1) listed a w := by
  intro fuel
  induction fuel with
  | zero =>
    intro listed a w hI _ hr hy hS H
    refine ⟨fun h => (by rw [h] at hr; cases hr), fun j hj => ?_⟩
    by_cases hji : j = i
    · subst hji; exact hy.wpOp hi hS ⟨fun _ h => h, H⟩
    · have := ready_mono hj hji
      rw [H.1] at this
      cases this
  | succ fuel ih =>
    intro listed a w hI hfree hr hy hS H
    refine ⟨fun h => (by rw [h] at hr; cases hr), fun j hj => ?_⟩
    by_cases hji : j = i
    · subst hji; exact hy.wpOp hi hS ⟨fun _ h => h, H⟩
    · have h1 := H.2 j (ready_mono hj hji)
      obtain ⟨hjun, oj, hoj, hall⟩ := mem_ready.1 hj
      have hiun := (mem_ready.1 hr).1
      have hnot : ∀ e ∈ oj.after, Region.binds .any e = true → e.on ≠ i := fun e he hb heq => by
        have h1 := hall e he hb
        rw [heq] at h1
        rcases Nat.lt_or_ge i listed.size with h' | h'
        · simp [h'] at hiun h1; rw [hiun] at h1; cases h1
        · simp [Array.getElem?_eq_none h'] at h1
      have h2 := wpOp_putIf hoj (hfree j oj hoj hji hjun hnot) (fun cs b => hsel i oi cs b hi) (fun cs b => hsel j oj cs b hoj) hQ hy h1
      have hfree' : ∀ k ok, ops[k]? = some ok → k ≠ i → (listed.setIfInBounds j true).getD k true = false →
          (∀ e ∈ ok.after, Region.binds .any e = true → e.on ≠ i) → oi.apart ops ok = true := fun k ok hk hki hun hno => by
        refine hfree k ok hk hki ?_ hno
        by_cases hjk : j = k
        · subst hjk; exact hjun
        · rw [getD_set_ne true hjk] at hun; exact hun
      refine wpOp_mono (fun a' w' h3 => ⟨h3.2.1, ?_⟩) h2
      refine ih (listed.setIfInBounds j true) a' w' (hinv j listed hI hj) hfree' (ready_mono hr (Ne.symm hji)) h3.1 (hT j listed w w' hI hj hji hiun hS h3.2.1) ?_
      rw [Array.setIfInBounds_comm _ _ hji]
      exact h3.2.2

end

/-- An operation that does not look at a slot, nor write it, may have that slot filled before it or behind it. -/
theorem wpOp_late {P : Program} {ops : Array Oper} {Q : Exit → Act → World → Prop} {j : Nat} {oj : Oper} {d : Option Tmp} {v : Value} (hj : ops[j]? = some oj) (hsj : ∀ cs b, oj.op ≠ .select cs b)
    (h1 : ∀ t, d = some t → t ∉ oj.looksAt ops) (h2 : ∀ t, d = some t → oj.dst ≠ some t) (hQ : ∀ c a w, Q (.panic c) a w → Q (.panic c) (a.put d v) w) {K : Act → World → Prop} {a : Act} {w : World}
    (h : wpOp P ops Q j (fun a' w' => K (a'.put d v) w') a w) : wpOp P ops Q j K (a.put d v) w := by
  unfold wpOp at *
  simp only [hj] at *
  rw [wanted_put oj a d v h1]
  split
  · rename_i hw
    simp only [hw, if_true] at h
    rcases h with h | ⟨hasks, hlets⟩
    case inr => exact .inr ⟨by unfold Oper.asks at *; rw [execOp_put oj hsj a d v h1]; exact hasks, hlets⟩
    refine .inl ?_
    unfold Oper.wp at *
    rw [execOp_put oj hsj a d v h1]
    generalize (execOp a.eval oj).run P w = r at *
    cases r with
    | ok n w' =>
      cases n <;> simp only [Oper.upon] at h ⊢
      case value u => rw [Act.put_comm a v u h2]; exact h
      case skip => rw [Act.put_comm a v Go.undef h2]; exact h
      case defer dd =>
        have h := h
        rw [← Act.put_comm _ v Go.undef h2] at h
        cases d <;> exact h
      case enter f args =>
        refine Calls.mono h fun e w'' he => ?_
        cases e with
        | returned u =>
          have he : K ((a.put oj.dst u).put d v) w'' := he
          rw [← Act.put_comm a v u h2] at he
          exact he
        | panicked c => exact hQ _ _ _ he
        | outgrown => exact he
      case row row args => exact Rows.mono h fun u w'' he => by rw [Act.put_comm a v u h2]; exact he
    | halt x w' =>
      cases x <;> simp only [Oper.upon] at h ⊢
      case panic u => exact hQ _ _ _ h
  · rename_i hw
    simp only [hw] at h
    have h : K ((a.put oj.dst Go.undef).put d v) w := by simpa using h
    rw [← Act.put_comm a v Go.undef h2] at h
    simpa using h

end Go.X

/-
  Plans of regions that draw their order.
-/
namespace Go.X
open Go.RowKit
set_option linter.unusedSimpArgs false
set_option linter.unusedVariables false

section
variable {P : Program} {ops : Array Oper}

/-- Who is listed waits for none that isn't. -/
def Closed (ops : Array Oper) (listed : Array Bool) : Prop :=
  listed.size = ops.size ∧ ∀ k o, ops[k]? = some o → listed.getD k true = true → ∀ m ∈ waits o, listed.getD m false = true

theorem ready_iff {j : Nat} {listed : Array Bool} : j ∈ Region.ready .any ops listed ↔ listed.getD j true = false ∧ ∃ o, ops[j]? = some o ∧ ∀ k ∈ waits o, listed.getD k false = true := by
  rw [mem_ready]
  constructor
  · rintro ⟨h1, o, ho, h2⟩
    exact ⟨h1, o, ho, fun k hk => by obtain ⟨e, he, hb, rfl⟩ := mem_waits.1 hk; exact h2 e he hb⟩
  · rintro ⟨h1, o, ho, h2⟩
    exact ⟨h1, o, ho, fun e he hb => h2 _ (mem_waits.2 ⟨e, he, hb, rfl⟩)⟩

theorem closed_start : Closed ops (Array.replicate ops.size false) := by
  refine ⟨by simp, fun k o ho hk => ?_⟩
  have hlt := (Array.getElem?_eq_some_iff.1 ho).1
  rw [Array.getD_eq_getD_getElem?, Array.getElem?_replicate, if_pos hlt] at hk
  cases hk

theorem getD_tf {listed : Array Bool} {k : Nat} (h : listed.getD k true = false) : listed.getD k false = false := by
  rw [Array.getD_eq_getD_getElem?] at h ⊢
  cases hq : listed[k]? with
  | none => rfl
  | some b => rw [hq] at h; simpa using h

theorem Closed.step {listed : Array Bool} {j : Nat} (h : Closed ops listed) (hj : j ∈ Region.ready .any ops listed) : Closed ops (listed.setIfInBounds j true) := by
  obtain ⟨h1, o, ho, h2⟩ := ready_iff.1 hj
  refine ⟨by simpa using h.1, fun k ok hk hl m hm => ?_⟩
  by_cases hjk : j = k
  · subst hjk
    rw [ho] at hk; cases hk
    exact getD_set_true (h2 m hm)
  · rw [getD_set_ne true hjk] at hl
    exact getD_set_true (h.2 k ok hk hl m hm)

/-! Items -/

noncomputable def itemOf (P : Program) (m k : Nat) (o : Oper) : It := { i := k, mask := bitsOf (waits o), reader := pureOp P o.op || band (loadOp P o.op) (bnot (hasBit m k)), alloc := allocOp o.op }

theorem itemsFrom_mem {m : Nat} : ∀ {l : List Oper} {k : Nat} {q : It}, q ∈ itemsFrom P m l k → ∃ i o, l[i]? = some o ∧ q = itemOf P m (k + i) o
  | o :: l, k, q, h => by
    rcases List.mem_cons.1 (show q ∈ itemOf P m k o :: itemsFrom P m l (k + 1) from h) with rfl | h
    · exact ⟨0, o, rfl, rfl⟩
    · obtain ⟨i, o', ho', rfl⟩ := itemsFrom_mem h
      exact ⟨i + 1, o', by simpa using ho', by rw [show k + (i + 1) = k + 1 + i by omega]⟩

theorem mem_itemsFrom {m : Nat} : ∀ {l : List Oper} {k i : Nat} {o : Oper}, l[i]? = some o → itemOf P m (k + i) o ∈ itemsFrom P m l k
  | [], k, i, o, h => by simp at h
  | a :: l, k, i, o, h => by
    show _ ∈ itemOf P m k a :: itemsFrom P m l (k + 1)
    cases i with
    | zero => simp at h; subst h; exact List.mem_cons_self
    | succ i =>
      simp at h
      rw [show k + (i + 1) = k + 1 + i by omega]
      exact List.mem_cons_of_mem _ (mem_itemsFrom h)

noncomputable abbrev late (P : Program) (ops : Array Oper) : Nat := lateLoads P ops.toList
noncomputable abbrev its (P : Program) (ops : Array Oper) : List It := itemsFrom P (late P ops) ops.toList 0

theorem its_mem {q : It} (h : q ∈ its P ops) : ∃ o, ops[q.i]? = some o ∧ q = itemOf P (late P ops) q.i o := by
  obtain ⟨i, o, ho, rfl⟩ := itemsFrom_mem h
  exact ⟨o, by simpa [itemOf] using ho, by simp [itemOf]⟩

theorem mem_its {i : Nat} {o : Oper} (h : ops[i]? = some o) : itemOf P (late P ops) i o ∈ its P ops := by
  have := mem_itemsFrom (P := P) (m := late P ops) (l := ops.toList) (k := 0) (i := i) (o := o) (by simpa using h)
  rwa [Nat.zero_add] at this

theorem ready_item {m L i : Nat} {o : Oper} : ready L (itemOf P m i o) = true ↔ L.testBit i = false ∧ ∀ k ∈ waits o, L.testBit k = true := by
  unfold ready
  rw [band_true, bnot_true, hasBit_eq]
  refine ⟨fun ⟨h1, h2⟩ => ⟨h1, fun k hk => subset_spec h2 k ((bitsOf_test _ _).2 hk)⟩, fun ⟨h1, h2⟩ => ⟨h1, ?_⟩⟩
  show Nat.beq (bitsOf (waits o) &&& L) (bitsOf (waits o)) = true
  refine beq_true.2 (Nat.eq_of_testBit_eq fun n => ?_)
  rw [Nat.testBit_and]
  by_cases hn : (bitsOf (waits o)).testBit n = true
  · rw [hn, h2 n ((bitsOf_test _ _).1 hn)]; rfl
  · rw [Bool.eq_false_iff.2 hn]; rfl

theorem readys_mem {L : Nat} {q : It} : ∀ {l : List It}, q ∈ readys L l ↔ q ∈ l ∧ ready L q = true
  | [] => by
    show q ∈ [] ↔ _
    simp
  | a :: l => by
    show q ∈ sel (ready L a) (a :: readys L l) (readys L l) ↔ _
    rw [sel_eq]
    split
    · rename_i h
      rw [List.mem_cons, List.mem_cons, readys_mem]
      constructor
      · rintro (rfl | ⟨h1, h2⟩)
        · exact ⟨.inl rfl, h⟩
        · exact ⟨.inr h1, h2⟩
      · rintro ⟨rfl | h1, h2⟩
        · exact .inl rfl
        · exact .inr ⟨h1, h2⟩
    · rename_i h
      rw [readys_mem, List.mem_cons]
      constructor
      · rintro ⟨h1, h2⟩; exact ⟨.inr h1, h2⟩
      · rintro ⟨rfl | h1, h2⟩
        · exact absurd h2 h
        · exact ⟨h1, h2⟩

theorem firstReader_some {L i : Nat} : ∀ {l : List It}, firstReader L l = some i → ∃ q ∈ l, q.i = i ∧ q.reader = true ∧ ready L q = true
  | [], h => by cases h
  | a :: l, h => by
    have h : sel (band a.reader (ready L a)) (some a.i) (firstReader L l) = some i := h
    rw [sel_eq] at h
    split at h
    · rename_i hb
      cases h
      obtain ⟨h1, h2⟩ := band_true.1 hb
      exact ⟨a, List.mem_cons_self, rfl, h1, h2⟩
    · obtain ⟨q, hq, h1, h2⟩ := firstReader_some h
      exact ⟨q, List.mem_cons_of_mem _ hq, h1, h2⟩

theorem nextOf_mem {r : Nat} : ∀ {l : List It}, (∃ q ∈ l, q.i = nextOf l r) ∨ nextOf l r = r
  | [] => .inr rfl
  | a :: l => by
    show (∃ q ∈ a :: l, q.i = sel a.alloc (nextOf l r) a.i) ∨ sel a.alloc (nextOf l r) a.i = r
    rw [sel_eq]
    split
    · rcases nextOf_mem (r := r) (l := l) with ⟨q, hq, h⟩ | h
      · exact .inl ⟨q, List.mem_cons_of_mem _ hq, h⟩
      · exact .inr h
    · exact .inl ⟨a, List.mem_cons_self, rfl⟩

theorem news_mem {i k : Nat} : ∀ {l : List It}, k ∈ news i l ↔ ∃ q ∈ l, q.i = k ∧ q.alloc = true ∧ k ≠ i
  | [] => by
    show k ∈ [] ↔ _
    simp
  | a :: l => by
    show k ∈ sel (band a.alloc (bnot (Nat.beq a.i i))) (a.i :: news i l) (news i l) ↔ _
    rw [sel_eq]
    split
    · rename_i h
      obtain ⟨h1, h2⟩ := band_true.1 h
      rw [bnot_true] at h2
      have h2 : a.i ≠ i := fun hc => by rw [beq_true.2 hc] at h2; cases h2
      rw [List.mem_cons, news_mem]
      constructor
      · rintro (rfl | ⟨q, hq, hk⟩)
        · exact ⟨a, List.mem_cons_self, rfl, h1, h2⟩
        · exact ⟨q, List.mem_cons_of_mem _ hq, hk⟩
      · rintro ⟨q, hq, hk⟩
        rcases List.mem_cons.1 hq with rfl | hq
        · exact .inl hk.1.symm
        · exact .inr ⟨q, hq, hk⟩
    · rename_i h
      rw [news_mem]
      constructor
      · rintro ⟨q, hq, hk⟩; exact ⟨q, List.mem_cons_of_mem _ hq, hk⟩
      · rintro ⟨q, hq, hk1, hk2, hk3⟩
        rcases List.mem_cons.1 hq with rfl | hq
        · exact absurd (band_true.2 ⟨hk2, bnot_true.2 (by
            rw [Bool.eq_false_iff]
            exact fun hc => hk3 (hk1 ▸ beq_true.1 hc))⟩) h
        · exact ⟨q, hq, hk1, hk2, hk3⟩

/-- What a plan is. -/
inductive PlanOk (l : List It) : Nat → List (Nat × Bool) → Prop where
  | done {L : Nat} : readys L l = [] → PlanOk l L []
  | reader {L i : Nat} {r : List (Nat × Bool)} : firstReader L l = some i → PlanOk l (L ||| bit i) r → PlanOk l L ((i, true) :: r)
  | other {L i : Nat} {q : It} {r0 : List It} {r : List (Nat × Bool)} : readys L l = q :: r0 → i = nextOf (q :: r0) q.i → isOne i (readys (L ||| bitsOf (news i (q :: r0))) l) = true → PlanOk l (L ||| bit i) r → PlanOk l L ((i, false) :: r)

theorem plan_ok {l : List It} : ∀ (f L : Nat) (r : List (Nat × Bool)), plan l f L = some r → PlanOk l L r
  | 0, L, r, h => by
    obtain ⟨h1, h2⟩ := chk_some.1 (show chk (readys L l).isEmpty (some []) = some r from h)
    cases h2
    exact .done (by simpa using h1)
  | f + 1, L, r, h => by
    have h : (match firstReader L l with
      | some i => (plan l f (Nat.lor L (bit i))).bnd fun r => some ((i, true) :: r)
      | none => match readys L l with
        | [] => some []
        | q :: r => chk (isOne (nextOf (q :: r) q.i) (readys (Nat.lor L (bitsOf (news (nextOf (q :: r) q.i) (q :: r)))) l))
          ((plan l f (Nat.lor L (bit (nextOf (q :: r) q.i)))).bnd fun p => some ((nextOf (q :: r) q.i, false) :: p))) = some r := h
    split at h
    · rename_i i hi
      obtain ⟨r1, hr1, h⟩ := bnd_some.1 h
      cases h
      exact .reader hi (plan_ok f _ r1 hr1)
    · split at h
      · rename_i hr
        cases h
        exact .done hr
      · rename_i q r0 hr
        obtain ⟨h1, h⟩ := chk_some.1 h
        obtain ⟨p, hp, h⟩ := bnd_some.1 h
        cases h
        exact .other hr rfl h1 (plan_ok f _ p hp)

/-! Who comes before whom, whatever the order -/

theorem ups_spec {listed : Array Bool} (hc : Closed ops listed) {m : Nat} (hm : ∀ n, m.testBit n = true → listed.getD n false = true) : ∀ (l : List It), (∀ q ∈ l, ∃ o, ops[q.i]? = some o ∧ q.mask = bitsOf (waits o)) → ∀ n, (ups l m).testBit n = true → listed.getD n false = true
  | [], _, n, hn => hm n hn
  | q :: l, hl, n, hn => by
    have ih := ups_spec hc hm l fun q hq => hl q (List.mem_cons_of_mem _ hq)
    have hn : (sel (hasBit (ups l m) q.i) (Nat.lor q.mask (ups l m)) (ups l m)).testBit n = true := hn
    rw [sel_eq] at hn
    split at hn
    · rename_i hb
      rw [hasBit_eq] at hb
      have hq := ih q.i hb
      have hn : (q.mask ||| ups l m).testBit n = true := hn
      rw [Nat.testBit_or, Bool.or_eq_true] at hn
      rcases hn with hn | hn
      · obtain ⟨o, ho, hmask⟩ := hl q List.mem_cons_self
        rw [hmask] at hn
        refine hc.2 q.i o ho ?_ n ((bitsOf_test _ _).1 hn)
        rw [Array.getD_eq_getD_getElem?] at hq ⊢
        cases hx : listed[q.i]? with
        | none => rfl
        | some b => rw [hx] at hq; simpa using hq
      · exact ih n hn
    · exact ih n hn

/-- One may come before a load. -/
def lookOf (ops : Array Oper) (loads : Nat) (j : Nat) : Prop :=
  ∃ listed, Closed ops listed ∧ j ∈ Region.ready .any ops listed ∧ ∃ i, loads.testBit i = true ∧ listed.getD i true = false

theorem not_look {loads j : Nat} {o : Oper} (ho : ops[j]? = some o) (h : allBefore (its P ops) loads o = true) : ¬ lookOf ops loads j := by
  rintro ⟨listed, hc, hj, i, hi, hun⟩
  obtain ⟨_, o', ho', hw⟩ := ready_iff.1 hj
  rw [ho] at ho'; cases ho'
  unfold allBefore at h
  rw [sel_eq] at h
  split at h
  · rename_i h0
    rw [beq_true.1 h0] at hi
    simp at hi
  · have := ups_spec hc (m := bitsOf (waits o)) (fun n hn => hw n ((bitsOf_test _ _).1 hn)) (its P ops) (fun q hq => by
      obtain ⟨o', ho', hq'⟩ := its_mem hq
      exact ⟨o', ho', by rw [hq']; rfl⟩) i (subset_spec h i hi)
    rw [getD_tf hun] at this
    cases this

/-! How many are still to come -/

def unl (listed : Array Bool) : Nat := listed.toList.count false

theorem unl_set {listed : Array Bool} {i : Nat} (h : listed.getD i true = false) : unl (listed.setIfInBounds i true) + 1 = unl listed := by
  rw [Array.getD_eq_getD_getElem?] at h
  have hlt : i < listed.size := by
    rcases Nat.lt_or_ge i listed.size with h' | h'
    · exact h'
    · rw [Array.getElem?_eq_none h'] at h; cases h
  have hval : listed.toList[i]'(by simpa using hlt) = false := by
    rw [Array.getElem?_eq_getElem hlt] at h
    simpa using h
  unfold unl
  rw [Array.toList_setIfInBounds, List.count_set (by simpa using hlt), hval]
  have hpos : 0 < listed.toList.count false := List.count_pos_iff.2 (hval ▸ List.getElem_mem _)
  rw [if_pos (by decide), if_neg (by decide)]
  omega

theorem unl_zero {listed : Array Bool} (h : unl listed = 0) : Region.ready .any ops listed = [] := by
  rw [List.eq_nil_iff_forall_not_mem]
  intro j hj
  have := unl_set (ready_iff.1 hj).1
  omega

end

end Go.X

/-
  Readers of a region that draws its order: what they yield, wherever the cells that they read are as they were.
-/
namespace Go.X
open Go.RowKit
set_option linter.unusedSimpArgs false
set_option linter.unusedVariables false

variable {L : Nat → Value} {F : Nat → Prop} {w0 w : World} {e e' : Env} {s s' : St} {P : Program}

theorem D.beq_eq {a b : D} (h : D.beq a b = true) : a = b := by
  cases a <;> cases b <;> first | rfl | cases h

theorem Path.beq_eq {p q : Path} (h : Path.beq p q = true) : p = q := by
  obtain ⟨h0, h⟩ := band_true.1 h
  obtain ⟨h1, h⟩ := band_true.1 h
  obtain ⟨h2, h⟩ := band_true.1 h
  obtain ⟨h3, h4⟩ := band_true.1 h
  cases p; cases q
  simp only at h0 h1 h2 h3 h4
  rw [D.beq_eq h0, D.beq_eq h1, D.beq_eq h2, D.beq_eq h3, D.beq_eq h4]

mutual
theorem V.same_eq : ∀ (a b : V), V.same a b = true → a = b
  | ⟨t, a, b, c, d, n, id, s, x, l, m⟩, ⟨t', a', b', c', d', n', id', s', x', l', m'⟩, h => by
    unfold V.same at h
    simp only [Bool.and_eq_true] at h
    obtain ⟨⟨⟨⟨⟨⟨⟨⟨⟨⟨h1, h2⟩, h3⟩, h4⟩, h5⟩, h6⟩, h7⟩, h8⟩, h9⟩, h10⟩, h11⟩ := h
    rw [eqF_eq, beq_iff_eq] at h6
    rw [natsEq_eq, beq_iff_eq] at h8
    rw [beq_true.1 h1, beq_true.1 h2, beq_true.1 h3, beq_true.1 h4, beq_true.1 h5, h6, Path.beq_eq h7, h8, IE.beq_eq h9, V.sames_eq l l' h10, V.sames_eq m m' h11]
theorem V.sames_eq : ∀ (l l' : List V), V.sames l l' = true → l = l'
  | [], [], _ => rfl
  | [], _ :: _, h => by unfold V.sames at h; cases h
  | _ :: _, [], h => by unfold V.sames at h; cases h
  | a :: l, b :: l', h => by
    unfold V.sames at h
    rw [Bool.and_eq_true] at h
    rw [V.same_eq a b h.1, V.sames_eq l l' h.2]
end

/-- The cells are as they were. -/
def AgreeAt (L : Nat → Value) (e : Env) (k : RdK) (w w' : World) : Prop :=
  ∀ q, e.blk k.1 = some q → ∀ i : Nat, (i : Int) < k.2.2.eval L → w'.cell? ⟨q.1, q.2 + k.2.1 + i, none⟩ = w.cell? ⟨q.1, q.2 + k.2.1 + i, none⟩

def AgreeAll (L : Nat → Value) (e : Env) (l : List RdK) (w w' : World) : Prop := ∀ k ∈ l, AgreeAt L e k w w'

theorem sameCells_agree (hr : Rel L F w0 e s w) {F' : Nat → Prop} {w1 w' : World} (hr' : Rel L F' w1 e' s' w') (hle : Le e e') {l : List RdK} (h : sameCells s s' l = true) : AgreeAll L e l w w' := by
  intro k hk q hq i hi
  have := List.all_eq_true.1 h k hk
  rw [sel_eq] at this
  split at this
  · rename_i hrows
    unfold sameRows at hrows
    split at hrows
    · rename_i o o' ho ho'
      simp only [Bool.and_eq_true, bnot_true, Go.X.beq_true] at hrows
      obtain ⟨⟨⟨⟨⟨⟨h1, h2⟩, h3⟩, h4⟩, h5⟩, h6⟩, h7⟩ := hrows
      have h5 := IE.beq_eq h5
      have h6 := IE.beq_eq h6
      have hgs : o.gs ≠ 0 := fun hc => by rw [hc] at h1; cases h1
      obtain ⟨b, bs, cs, tt, fr, hblk, hw, _, _, hroom, _⟩ := hr.objs _ _ ho
      obtain ⟨b', bs', cs', tt', fr', hblk', hw', _, _, hroom', _⟩ := hr'.objs _ _ ho'
      rw [hle.blk _ _ hblk] at hblk'
      cases hblk'
      rw [hblk] at hq
      cases hq
      have e1 := (hroom.2 hgs).2.2 i (by rw [h5]; exact hi)
      have e2 := (hroom'.2 (by rw [← h2]; exact hgs)).2.2 i (by rw [h6]; exact hi)
      simp only [World.cell?, hw, hw', h7, Nat.add_zero, Option.isSome_none, Bool.false_eq_true, if_false]
      rw [e1, e2, h2, h3, h4]
    · cases hrows
  split at this
  · rename_i n hn
    split at this
    · rename_i n' hn'
      split at this
      · rename_i a b ha hb
        rw [V.sames_eq _ _ this] at ha
        obtain ⟨xs, hxs, hlen, hc⟩ := loadRow_cells hr ha hq
        obtain ⟨ys, hys, hlen', hc'⟩ := loadRow_cells hr' hb (hle.blk _ _ hq)
        have := il_mono hle _ _ hxs
        obtain rfl := il_det this hys
        have hin : i < n' := by
          rw [hn] at hi
          cases n with
          | ofNat m =>
            cases hn'
            simp only [IE.eval] at hi
            exact Int.ofNat_lt.1 hi
          | negSucc m => cases hn'
        have hx : xs[i]? = some (xs[i]'(by omega)) := by simp [show i < xs.length by omega]
        rw [hc i _ hx, hc' i _ hx]
      · cases this
    · cases this
  · cases this

theorem sameCells_obj {l : List RdK} (h : sameCells s s' l = true) {k : RdK} (hk : k ∈ l) : ∃ o, hGet k.1 s.heap = some o := by
  have := List.all_eq_true.1 h k hk
  rw [sel_eq] at this
  split at this
  · rename_i hrows
    unfold sameRows at hrows
    split at hrows
    · rename_i o o' ho ho'
      exact ⟨o, ho⟩
    · cases hrows
  split at this
  · split at this
    · split at this
      · rename_i a b ha hb
        obtain ⟨o, ho, _⟩ := bnd_some.1 ha
        exact ⟨o, ho⟩
      · cases this
    · cases this
  · cases this

/-- All the cells that are read stood at the start. -/
theorem sameCells_stood {l : List RdK} (hr : Rel L F w0 e s w) (h : sameCells s s' l = true) {k : RdK} (hk : k ∈ l) : ∃ q, e.blk k.1 = some q := by
  obtain ⟨o, ho⟩ := sameCells_obj h hk
  obtain ⟨b, base, cs, t, fr, hb, _⟩ := hr.objs _ o ho
  exact ⟨_, hb⟩

/-- A load, wherever its cells are as they are here. -/
theorem load_agree (hr : Rel L F w0 e s w) {t : TypeId} {ag : Bool} {n : Nat} {u v : V} {p : Path × Nat} {x : Value} (ha : X.isAgg P t = some ag) (hn : X.sizeOf P t = some n) (hu : iv L e u = some x) (hp : u.asP = some p)
    (hv : loadVarN ag n s p.1 p.2 = some v) : ∃ y, iv L e v = some y ∧ ∀ w', AgreeAt L e (p.1, p.2, .lit (.ofNat (sel ag n 1))) w w' → (Instr.loadAt t x).run P w' = .ok y w' := by
  obtain ⟨h4, rfl⟩ := asP_some.1 hp
  obtain ⟨q, hq, rfl⟩ := iv_ptr h4 hu
  have hgo : ∀ {y : Value}, (∀ w', AgreeAt L e (u.id, u.a, .lit (.ofNat (sel ag n 1))) w w' → (Go.loadVar t ⟨q.1, q.2 + u.a, none⟩).run P w' = .ok y w') → ∀ w', AgreeAt L e (u.id, u.a, .lit (.ofNat (sel ag n 1))) w w' → (Instr.loadAt t (.pointer (some ⟨q.1, q.2 + u.a, none⟩))).run P w' = .ok y w' := fun h w' hw' => by
    unfold Instr.loadAt
    simp only [Instr.sureAddr, Sem.run_bind, Sem.run_pure, Result.andThen_ok]
    exact h w' hw'
  unfold loadVarN at hv
  cases ag with
  | true =>
    simp only [sel_true] at hv
    obtain ⟨l, hrow, hv⟩ := bnd_some.1 hv
    cases hv
    obtain ⟨xs, hxs, hlen, hg⟩ := loadRow_cells hr hrow hq
    refine ⟨_, iv_vagg hxs, hgo fun w' hw' => ?_⟩
    unfold Go.loadVar
    rw [Sem.run_bind, isAgg_run ha]
    simp only [Result.andThen_ok, if_true, Sem.run_bind, sizeOf_run hn]
    rw [run_loadCells' hlen (fun i x hx => by
      have hi : i < n := by rw [← hlen]; exact (List.getElem?_eq_some_iff.1 hx).1
      have := hw' q hq i (Int.ofNat_lt.2 hi)
      simp only at this
      rw [this]
      exact hg i x hx)]
    rfl
  | false =>
    simp only [sel_false] at hv
    obtain ⟨o, ho, hl⟩ := bnd_some.1 hv
    obtain ⟨x, hx, hi⟩ := hr.cell ho hl hq
    refine ⟨x, hi, hgo fun w' hw' => ?_⟩
    have := hw' q hq 0 (by simp [sel, IE.eval])
    simp only [Nat.add_zero] at this
    rw [hx] at this
    unfold Go.loadVar
    rw [Sem.run_bind, isAgg_run ha]
    simp [this]

theorem load_agree2 {FF : List Fact} (hF : FactsOk L FF) (hr : Rel L F w0 e s w) {t : TypeId} {ag : Bool} {n : Nat} {u v : V} {p : Path × Nat} {x : Value} (ha : X.isAgg P t = some ag) (hn : X.sizeOf P t = some n) (hu : iv L e u = some x) (hp : u.asP = some p)
    (hv : loadF FF ag n s p.1 p.2 = some v) : ∃ y, iv L e v = some y ∧ ∀ w', ((loadVarN ag n s p.1 p.2).isNone = false → AgreeAt L e (p.1, p.2, .lit (.ofNat (sel ag n 1))) w w') →
      ((loadVarN ag n s p.1 p.2).isNone = true → ∀ o, hGet p.1 s.heap = some o → AgreeAt L e (p.1, 0, o.gn) w w') → (Instr.loadAt t x).run P w' = .ok y w' := by
  unfold loadF at hv
  split at hv
  · rename_i v' hv'
    cases hv
    obtain ⟨y, hy, hrun⟩ := load_agree (P := P) hr ha hn hu hp hv'
    exact ⟨y, hy, fun w' h1 _ => hrun w' (h1 (by rw [hv']; rfl))⟩
  · rename_i hnone
    cases ag with
    | true => cases hv
    | false =>
      simp only [sel_false] at hv
      obtain ⟨h4, rfl⟩ := asP_some.1 hp
      obtain ⟨q, hq, rfl⟩ := iv_ptr h4 hu
      obtain ⟨o, y, ho, hgs, hlt, hy, hcell⟩ := toldCell_sound hF hr hv hq
      refine ⟨y, hy, fun w' _ h2 => ?_⟩
      have := h2 (by rw [hnone]; rfl) o ho q hq u.a hlt
      rw [show q.2 + ((u.id, 0, o.gn) : RdK).2.1 + u.a = q.2 + u.a by show q.2 + 0 + u.a = _; omega] at this
      unfold Instr.loadAt
      simp only [Instr.sureAddr, Sem.run_bind, Sem.run_pure, Result.andThen_ok]
      unfold Go.loadVar
      rw [Sem.run_bind, isAgg_run ha]
      simp [this, hcell]

/-- A string out of bytes, wherever they are as they are here. -/
theorem conv4_agree (hr : Rel L F w0 e s w) {src dst : TypeId} {u v : V} {x : Value} (hk : convKind P src dst = 4) (hx : iv L e u = some x) (h : convStr u s = some v) :
    ∃ y, iv L e v = some y ∧ ∀ w', ((u.is 6 || u.is 7) = true → AgreeAt L e (u.id, u.a, .lit (.ofNat u.b)) w w') → (Go.convert src dst x).run P w' = .ok y w' := by
  obtain ⟨el, h1, h2, h3⟩ := conv4_of hk
  have hempty : iv L e (vstr []) = some (.string ByteArray.empty) := by rw [iv_str rfl]; rfl
  unfold convStr at h
  rw [sel_eq] at h
  split at h
  · rename_i ht
    cases h
    rw [iv8 (V.is_true.1 ht)] at hx
    cases hx
    exact ⟨_, hempty, fun w' _ => run_convert_bytes_nil (P := P) w' src el h1 h3 0 0 dst h2⟩
  rw [sel_eq] at h
  split at h
  · rename_i ht
    cases h
    rw [iv9 (V.is_true.1 ht), Option.bind_eq_some_iff] at hx
    obtain ⟨q, hq, hx⟩ := hx
    rw [Option.bind_eq_some_iff] at hx
    obtain ⟨k, hk, hx⟩ := hx
    split at hx
    · cases hx
      exact ⟨_, hempty, fun w' _ => by
        have := run_convert_bytes_arg (P := P) w' src el h1 h3 q.1 (q.2 + if k = u.d then u.a else u.b) 0 (k - u.d) [] rfl (fun i hi => absurd hi (by omega)) dst h2
        rw [this]; rfl⟩
    · cases hx
  · obtain ⟨ht, h⟩ := chk_some.1 h
    obtain ⟨l, hl, h⟩ := bnd_some.1 h
    have key : ∃ q c, e.blk u.id = some q ∧ x = .slice (some ⟨q.1, q.2 + u.a, none⟩) u.b c := by
      have ht := ht
      rw [Bool.or_eq_true] at ht
      rcases ht with ht | ht
      · rw [iv6 (V.is_true.1 ht), Option.bind_eq_some_iff] at hx
        obtain ⟨q, hq, hx⟩ := hx
        cases hx
        exact ⟨q, _, hq, rfl⟩
      · rw [iv7 (V.is_true.1 ht), Option.bind_eq_some_iff] at hx
        obtain ⟨q, hq, hx⟩ := hx
        rw [Option.bind_eq_some_iff] at hx
        obtain ⟨k, _, hx⟩ := hx
        split at hx
        · cases hx
          exact ⟨q, _, hq, rfl⟩
        · cases hx
    obtain ⟨q, c, hq, rfl⟩ := key
    obtain ⟨xs, hxs, hlen, hg⟩ := loadRow_cells hr hl hq
    split at h
    · rename_i r hr'
      cases h
      have hb := ofBytes_il (L := L) (e := e) hr'
      obtain rfl := il_det hb hxs
      have hrl : r.length = u.b := by simpa using hlen
      refine ⟨_, iv_str rfl, fun w' hw' => ?_⟩
      have := run_convert_bytes_arg (P := P) w' src el h1 h3 q.1 (q.2 + u.a) u.b c (r.map fun (n : Nat) => (n : Int)) (by simpa using hrl) (fun i hi => by
        have := hw' ht q hq i (Int.ofNat_lt.2 hi)
        simp only at this
        rw [this]
        refine hg i _ ?_
        have hi' : i < r.length := by omega
        simp [hi', List.getD]) dst h2
      rw [this]
      congr 2
      simp [strOfNums, strOf, vstr, Function.comp_def]
    · obtain ⟨xs', hxs', h⟩ := bnd_some.1 h
      cases h
      have hb := nums_il (L := L) (e := e) hxs'
      obtain rfl := il_det hb hxs
      have hrl : xs'.length = u.b := by simpa using hlen
      refine ⟨_, iv19 rfl, fun w' hw' => ?_⟩
      have := run_convert_bytes_arg (P := P) w' src el h1 h3 q.1 (q.2 + u.a) u.b c (xs'.map (IE.eval L)) (by simpa using hrl) (fun i hi => by
        have := hw' ht q hq i (Int.ofNat_lt.2 hi)
        simp only at this
        rw [this]
        refine hg i _ ?_
        have hi' : i < xs'.length := by omega
        simp [hi', List.getD]) dst h2
      rw [this]
      show Result.ok (Value.string (strOfNums (xs'.map (IE.eval L)))) w' = .ok (.string (strOfNums ((xsOf (rowX xs')).map (IE.eval L)))) w'
      rw [xsOf_rowX]

theorem conv4_agree2 {FF : List Fact} (hF : FactsOk L FF) (hr : Rel L F w0 e s w) {src dst : TypeId} {u v : V} {x : Value} (hk : convKind P src dst = 4) (hx : iv L e u = some x) (h : convStr2 FF u s = some v) :
    ∃ y, iv L e v = some y ∧ ∀ w', (∀ o, u.is 25 = true → hGet u.id s.heap = some o → AgreeAt L e (u.id, 0, o.gn) w w') → (u.is 25 = false → (u.is 6 || u.is 7) = true → AgreeAt L e (u.id, u.a, .lit (.ofNat u.b)) w w') → (Go.convert src dst x).run P w' = .ok y w' := by
  unfold convStr2 at h
  rw [sel_eq] at h
  split at h
  · rename_i ht
    cases h
    obtain ⟨el, h1, h2, h3⟩ := conv4_of hk
    obtain ⟨q, k, _, _, _, _, rfl⟩ := iv27_some (V.is_true.1 ht) hx
    refine ⟨.string ByteArray.empty, by rw [iv_str rfl]; rfl, fun w' _ _ => ?_⟩
    have := run_convert_bytes_arg (P := P) w' src el h1 h3 q.1 (q.2 + (if k = u.d + (u.x.eval L).toNat then u.a else u.a + (u.x.eval L).toNat)) 0 (k - (u.d + (u.x.eval L).toNat)) [] rfl (fun i hi => absurd hi (by omega)) dst h2
    rw [this]; rfl
  rw [sel_eq] at h
  split at h
  · rename_i ht
    obtain ⟨y, o, q, hy, ho, hq, hgs, hrun⟩ := convSym_sound (P := P) hF hr hk (V.is_true.1 ht) hx h
    refine ⟨y, hy, fun w' h1 _ => hrun w' fun i hi => ?_⟩
    have := h1 o ht ho q hq i hi
    simpa using this
  · rename_i ht
    obtain ⟨y, hy, hrun⟩ := conv4_agree (P := P) hr hk hx h
    exact ⟨y, hy, fun w' _ h2 => hrun w' (h2 (by simpa using ht))⟩

end Go.X

/-
  Readers, with their guards; operations that but make a block.
-/
namespace Go.X
open Go.RowKit
set_option linter.unusedSimpArgs false
set_option linter.unusedVariables false

variable {L : Nat → Value} {F : Nat → Prop} {w0 w : World} {e e' : Env} {s s' : St} {P : Program}

theorem stage2_plain {c : Cfg} {d : Dst} {o : Op} {g : Step1} (hnc : ∀ k, o = .call k → isBuiltin k.callee = true) (h : stage2 c d o = some g) :
    ∃ kd, stage1 c o = some kd ∧ (match kd with | .pure f => doPure d f = g | .run f => doRun d (fun _ => f) = g) := by
  have fin : (stage1 c o).bnd (fun | .pure f => some (doPure d f) | .run f => some (doRun d fun _ => f)) = some g → ∃ kd, stage1 c o = some kd ∧ (match kd with | .pure f => doPure d f = g | .run f => doRun d (fun _ => f) = g) := fun h => by
    obtain ⟨kd, hkd, h⟩ := bnd_some.1 h
    refine ⟨kd, hkd, ?_⟩
    cases kd <;> exact Option.some.inj h
  cases o <;> first | exact fin h | skip
  rename_i k
  simp only [stage2] at h
  rw [sel_eq, if_pos (hnc k rfl)] at h
  exact fin h

theorem pureOp_kind {c : Cfg} {o : Op} {k : Kd} (hp : pureOp c.P o = true) (h : stage1 c o = some k) : ∃ f, k = .pure f := by
  cases o <;> simp only [pureOp] at hp <;> first | (cases hp; done) | skip
  all_goals simp only [stage1] at h
  case move => obtain ⟨_, _, h⟩ := bnd_some.1 h; cases h; exact ⟨_, rfl⟩
  case assign => obtain ⟨_, _, h⟩ := bnd_some.1 h; cases h; exact ⟨_, rfl⟩
  case pick =>
    obtain ⟨_, _, h⟩ := bnd_some.1 h
    obtain ⟨_, _, h⟩ := bnd_some.1 h
    obtain ⟨_, _, h⟩ := bnd_some.1 h
    cases h; exact ⟨_, rfl⟩
  case build =>
    obtain ⟨_, _, h⟩ := bnd_some.1 h
    obtain ⟨_, _, h⟩ := bnd_some.1 h
    obtain ⟨d, _, h⟩ := bnd_some.1 h
    cases d <;> simp only at h <;> first | (cases h; done) | skip
    · obtain ⟨_, _, h⟩ := bnd_some.1 h; cases h; exact ⟨_, rfl⟩
    · obtain ⟨_, h⟩ := chk_some.1 h; cases h; exact ⟨_, rfl⟩
  case nilCheck => obtain ⟨_, _, h⟩ := bnd_some.1 h; cases h; exact ⟨_, rfl⟩
  case binOp =>
    obtain ⟨_, _, h⟩ := bnd_some.1 h
    obtain ⟨_, _, h⟩ := bnd_some.1 h
    obtain ⟨_, _, h⟩ := bnd_some.1 h
    cases h; exact ⟨_, rfl⟩
  case unOp => obtain ⟨_, _, h⟩ := bnd_some.1 h; cases h; exact ⟨_, rfl⟩
  case convert =>
    obtain ⟨_, _, h⟩ := bnd_some.1 h
    rw [beq_true.1 hp] at h
    cases h; exact ⟨_, rfl⟩
  case makeInterface =>
    obtain ⟨_, _, h⟩ := bnd_some.1 h
    obtain ⟨d, _, h⟩ := bnd_some.1 h
    cases d <;> cases h <;> exact ⟨_, rfl⟩
  case makeFunc fn first captured =>
    cases fn <;> simp only at h <;> first | (cases h; done) | skip
    obtain ⟨_, _, h⟩ := bnd_some.1 h
    obtain ⟨_, _, h⟩ := bnd_some.1 h
    cases h; exact ⟨_, rfl⟩
  case slice =>
    obtain ⟨_, _, h⟩ := bnd_some.1 h
    obtain ⟨_, _, h⟩ := bnd_some.1 h
    obtain ⟨_, _, h⟩ := bnd_some.1 h
    obtain ⟨_, _, h⟩ := bnd_some.1 h
    obtain ⟨_, _, h⟩ := bnd_some.1 h
    cases h; exact ⟨_, rfl⟩
  case fieldAddr =>
    obtain ⟨_, _, h⟩ := bnd_some.1 h
    obtain ⟨_, _, h⟩ := bnd_some.1 h
    obtain ⟨_, _, h⟩ := bnd_some.1 h
    obtain ⟨_, h⟩ := chk_some.1 h
    cases h; exact ⟨_, rfl⟩
  case field =>
    obtain ⟨_, _, h⟩ := bnd_some.1 h
    obtain ⟨_, _, h⟩ := bnd_some.1 h
    obtain ⟨_, _, h⟩ := bnd_some.1 h
    obtain ⟨_, _, h⟩ := bnd_some.1 h
    cases h; exact ⟨_, rfl⟩
  case indexAddr =>
    obtain ⟨_, _, h⟩ := bnd_some.1 h
    obtain ⟨_, _, h⟩ := bnd_some.1 h
    obtain ⟨d, _, h⟩ := bnd_some.1 h
    cases d <;> simp only at h <;> first | (cases h; done) | (obtain ⟨_, _, h⟩ := bnd_some.1 h; cases h; exact ⟨_, rfl⟩)
  case index =>
    obtain ⟨_, _, h⟩ := bnd_some.1 h
    obtain ⟨_, _, h⟩ := bnd_some.1 h
    obtain ⟨d, _, h⟩ := bnd_some.1 h
    cases d <;> simp only at h <;> first | (cases h; done) | (cases h; exact ⟨_, rfl⟩) | (obtain ⟨_, _, h⟩ := bnd_some.1 h; obtain ⟨_, _, h⟩ := bnd_some.1 h; cases h; exact ⟨_, rfl⟩)
  case extract => obtain ⟨_, _, h⟩ := bnd_some.1 h; cases h; exact ⟨_, rfl⟩
  case call k =>
    obtain ⟨cl, args, argTypes⟩ := k
    cases cl <;> simp only at hp <;> first | (cases hp; done) | skip
    rename_i b
    simp only at h
    obtain ⟨l, _, h⟩ := bnd_some.1 h
    cases b <;> simp only at hp <;> first | (cases hp; done) | skip
    all_goals split at h
    all_goals first
      | (cases h; exact ⟨_, rfl⟩)
      | (obtain ⟨_, _, h⟩ := bnd_some.1 h; obtain ⟨_, _, h⟩ := bnd_some.1 h; cases h; exact ⟨_, rfl⟩)
      | (cases h; done)
      | skip
    all_goals simp_all

/-- A reader leaves the world as it is, and yields the same wherever the cells that it reads are as they are here. -/
theorem reader_step (hL : Leafy L) {c : Cfg} (hF : FactsOk L c.facts) {call : CallF} {N : Nat} {ops : Array Oper} {o : Oper} {x : XO} {tm tm' : Tm} {a : Act}
    (hrd : pureOp c.P o.op = true ∨ loadOp c.P o.op = true) (h : stage3 c N ops o = some x) (ha : ARel L e tm N a) (hr : Rel L F w0 e s w) (hv : x.go call tm s = some (tm', s')) {T : World → Prop}
    (hT : loadOp c.P o.op = true → ∀ k, reads c.P o.op tm s = some k → want x.guard tm = some true → ∀ w', T w' → AgreeAt L e k w w') :
    dstOk N o.dst = true ∧ s' = s ∧ ∃ v xv, tm' = (dstOf o.dst).put v tm ∧ iv L e v = some xv ∧ YieldsIf c.P ops T o xv a := by
  obtain ⟨hok, h⟩ := chk_some.1 h
  obtain ⟨g, hg, h⟩ := bnd_some.1 h
  cases h
  obtain ⟨hd, hgd⟩ := band_true.1 hok
  refine ⟨hd, ?_⟩
  have hnc : ∀ k, o.op = .call k → isBuiltin k.callee = true := by
    intro k hk
    rw [hk] at hrd
    rcases hrd with hrd | hrd
    · simp only [pureOp] at hrd
      split at hrd
      · rename_i heq; rw [heq]; rfl
      · rename_i heq; rw [heq]; rfl
      · rename_i heq; rw [heq]; rfl
      · cases hrd
    · cases hrd
  obtain ⟨kd, hkd, hgk⟩ := stage2_plain hnc hg
  -- what it does where it is done
  have real : ∀ {t1 : Tm} {s1 : St}, want (stageG ops o) tm = some true → g call tm s = some (t1, s1) → s1 = s ∧ ∃ v xv, t1 = (dstOf o.dst).put v tm ∧ iv L e v = some xv ∧ ∀ w', T w' → (execOp a.eval o).run c.P w' = .ok (.value xv) w' := by
    intro t1 s1 hwant hgo
    rcases hrd with hpu | hlo
    · obtain ⟨f, rfl⟩ := pureOp_kind hpu hkd
      simp only at hgk
      subst hgk
      obtain ⟨v, hfv, hgo⟩ := bnd_some.1 hgo
      cases hgo
      obtain ⟨xv, hx, hrun⟩ := pure_sound hL hF hkd ha hfv
      exact ⟨rfl, v, xv, rfl, hx, fun w' _ => hrun w'⟩
    · have hT := hT hlo
      obtain ⟨dst, op, type, pos, after, guard⟩ := o
      simp only at hkd hlo hT
      cases op <;> simp only [loadOp] at hlo <;> first | (cases hlo; done) | skip
      · -- a load
        rename_i t q
        simp only [stage1] at hkd
        obtain ⟨q', hq, hkd⟩ := bnd_some.1 hkd
        obtain ⟨ag, hag, hkd⟩ := bnd_some.1 hkd
        obtain ⟨n, hn, hkd⟩ := bnd_some.1 hkd
        cases hkd
        simp only at hgk
        subst hgk
        obtain ⟨r, hfr, hgo⟩ := bnd_some.1 hgo
        cases hgo
        obtain ⟨u, hu, hfr⟩ := bnd_some.1 hfr
        obtain ⟨p, hp, hfr⟩ := bnd_some.1 hfr
        obtain ⟨v, hlv, hfr⟩ := bnd_some.1 hfr
        cases hfr
        obtain ⟨y, hy, hrun⟩ := load_agree2 hF hr hag hn (opd_sound hq ha hu) hp hlv
        refine ⟨rfl, v, y, rfl, hy, fun w' hw' => run_v (hrun w' (fun hn1 => hT _ ?_ hwant w' hw') (fun hn1 o ho => hT _ ?_ hwant w' hw'))⟩
        · simp only [reads]
          exact bnd_some.2 ⟨q', hq, bnd_some.2 ⟨u, hu, bnd_some.2 ⟨p, hp, bnd_some.2 ⟨ag, hag, bnd_some.2 ⟨n, hn, by rw [hn1]; rfl⟩⟩⟩⟩⟩
        · simp only [reads]
          exact bnd_some.2 ⟨q', hq, bnd_some.2 ⟨u, hu, bnd_some.2 ⟨p, hp, bnd_some.2 ⟨ag, hag, bnd_some.2 ⟨n, hn, by rw [hn1]; exact bnd_some.2 ⟨o, ho, rfl⟩⟩⟩⟩⟩⟩
      · -- a conversion
        rename_i src dst' q
        simp only [stage1] at hkd
        obtain ⟨q', hq, hkd⟩ := bnd_some.1 hkd
        have hk4 := beq_true.1 hlo
        rw [hk4] at hkd
        cases hkd
        simp only at hgk
        subst hgk
        obtain ⟨r, hfr, hgo⟩ := bnd_some.1 hgo
        cases hgo
        obtain ⟨u, hu, hfr⟩ := bnd_some.1 hfr
        obtain ⟨v, hcv, hfr⟩ := bnd_some.1 hfr
        cases hfr
        obtain ⟨y, hy, hrun⟩ := conv4_agree2 hF hr hk4 (opd_sound hq ha hu) hcv
        refine ⟨rfl, v, y, rfl, hy, fun w' hw' => run_v (hrun w' (fun o h25 ho => hT (u.id, 0, o.gn) ?_ hwant w' hw') (fun h25 h67 => hT (u.id, u.a, .lit (.ofNat u.b)) ?_ hwant w' hw'))⟩
        · simp only [reads]
          exact bnd_some.2 ⟨q', hq, bnd_some.2 ⟨u, hu, by rw [h25]; exact bnd_some.2 ⟨o, ho, rfl⟩⟩⟩
        · simp only [reads]
          exact bnd_some.2 ⟨q', hq, bnd_some.2 ⟨u, hu, by rw [h25]; exact chk_some.2 ⟨h67, rfl⟩⟩⟩
  simp only at hv
  rw [sel_eq] at hv
  split at hv
  · rename_i h0
    have hk0 := beq_true.1 h0
    have hnone : o.guard = none := by
      unfold stageG at hk0
      split at hk0
      · assumption
      · split at hk0 <;> cases hk0
    obtain ⟨h1, v, xv, h2, h3, h4⟩ := real (by unfold want; rw [sel_eq, if_pos h0]) hv
    exact ⟨h1, v, xv, h2, h3, .inl ⟨by simp [Region.wanted, hnone], h4⟩⟩
  · obtain ⟨b, hb, hv⟩ := bnd_some.1 hv
    have hw := want_sound hgd ha hb
    cases b with
    | true =>
      obtain ⟨h1, v, xv, h2, h3, h4⟩ := real hb hv
      exact ⟨h1, v, xv, h2, h3, .inl ⟨hw, h4⟩⟩
    | false =>
      cases hv
      exact ⟨rfl, X.undef, Go.undef, rfl, iv_undef, .inr ⟨hw, rfl⟩⟩

end Go.X
