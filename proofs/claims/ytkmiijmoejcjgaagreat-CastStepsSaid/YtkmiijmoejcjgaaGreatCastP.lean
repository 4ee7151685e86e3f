/- A send: the loop that changes the bytes that were handed in. -/
import Derived.Test.YtkmiijmoejcjgaaGreatCastO
namespace Go.Proofs.YtkmiijmoejcjgaaGreat.castSteps
open Go.X Go.RowKit Go.Proofs.YtkmiijmoejcjgaaGreat.rk
set_option linter.unusedSimpArgs false
set_option linter.unusedVariables false

theorem step_op {P : Program} {ops : Array Oper} {Q : Exit → Act → World → Prop} {a : Act} {w w' : World} {rest : List Oper} {o : Oper} {d : Option Tmp} {p : Op} {x : Value} (ho : Is o d p) (h : Does P o a w x w') (hk : wpList P ops Q rest (a.put d x) w') : wpList P ops Q (o :: rest) a w :=
  wpList_step fun K hK => by
    have hw : Region.wanted o (yielded ops a.tmps) = true := by simp [Region.wanted, ho.guard]
    rw [if_pos hw]
    refine h.wp (hK _ _ ?_)
    rw [ho.dst]
    exact hk
theorem Is.does {P : Program} {o : Oper} {d : Option Tmp} {p : Op} {a : Act} {w w' : World} {x : Value} (ho : Is o d p) (h : ∀ ty pos after, Does P ⟨d, p, ty, pos, after, none⟩ a w x w') : Does P o a w x w' := by
  obtain ⟨dst, op, ty, pos, after, guard⟩ := o
  obtain ⟨h1, h2, h3⟩ := ho
  simp only at h1 h2 h3
  subst h1 h2 h3
  exact h _ _ _

def at' (a : Act) (t : Nat) : Value := a.tmps.getD t Go.undef
theorem at_put {a : Act} {d t : Nat} {x : Value} (hd : d < a.tmps.size) : at' (a.put (some d) x) t = if t = d then x else at' a t := by
  unfold at'
  by_cases h : t = d
  · subst h; simp [Act.put, Array.getD_eq_getD_getElem?, hd]
  · simp [Act.put, Array.getD_eq_getD_getElem?, h, Ne.symm h]
theorem size_put {a : Act} {d : Option Tmp} {x : Value} : (a.put d x).tmps.size = a.tmps.size := by cases d <;> simp [Act.put]
theorem defers_put {a : Act} {d : Option Tmp} {x : Value} : (a.put d x).defers = a.defers := by cases d <;> rfl
theorem eval_tmp (a : Act) (t : Nat) : a.eval (.tmp t) = at' a t := rfl

/-- Slots that the loop writes. -/
def Free (j : Nat) : Prop := j = 11 ∨ (32 ≤ j ∧ j ≤ 41)
structure Same (a0 a : Act) : Prop where
  size : a.tmps.size = 69
  calm : a.defers = []
  keep : ∀ j, ¬ Free j → at' a j = at' a0 j
theorem Same.put {a0 a : Act} {d : Nat} {x : Value} (h : Same a0 a) (hd : Free d) (h69 : d < 69) : Same a0 (a.put (some d) x) :=
  ⟨by rw [size_put]; exact h.size, by rw [defers_put]; exact h.calm, fun j hj => by
    rw [at_put (by rw [h.size]; exact h69), if_neg (fun hh : j = d => hj (by rw [hh]; exact hd))]; exact h.keep j hj⟩

/-- But for the bytes of one block the world is as it was. -/
structure Bytes (b off n : Nat) (w0 w : World) : Prop where
  os : w.os = w0.os
  tape : w.tape = w0.tape
  output : w.output = w0.output
  size : w.heap.size = w0.heap.size
  other : ∀ b', b' ≠ b → w.heap[b']? = w0.heap[b']?
  row : ∃ cs t fr, w.heap[b]? = some (.cells cs t fr) ∧ (fr.1 = fr.2 ∨ cs.size ≤ fr.1) ∧ ∀ j, j < n → ∃ x, cs[off + j]? = some (.int .u8 x)

theorem u_int : Tryz.prog.underlying 3 = some (.int .i64) := Tryz.underlying3
theorem u_u8 : Tryz.prog.underlying 5 = some (.int .u8) := Tryz.underlying5
theorem u_sl : Tryz.prog.underlying 24 = some (.slice 5) := Tryz.underlying24
theorem s_u8 : X.sizeOf Tryz.prog 5 = some 1 := by kernel_rfl
theorem g_u8 : X.isAgg Tryz.prog 5 = some false := by kernel_rfl

theorem add_run (k : IntKind) (t : TypeId) (x y : Int) (w : World) (ox oy : Operand) : (do eqGuard .add t ox oy (.int k x) (.int k y); Go.binOp .add t (.int k x) (.int k y) : Sem Value).run Tryz.prog w = .ok (.int k (k.wrap (x + y))) w := by
  rw [Sem.run_bind, eqGuard_plain notNil_int notAgg_int]
  simp [Go.binOp, Op.intArith]
theorem lss_run (k : IntKind) (t : TypeId) (x y : Int) (w : World) (ox oy : Operand) : (do eqGuard .lss t ox oy (.int k x) (.int k y); Go.binOp .lss t (.int k x) (.int k y) : Sem Value).run Tryz.prog w = .ok (.bool (decide (x < y))) w := by
  rw [Sem.run_bind, eqGuard_plain notNil_int notAgg_int]
  simp [Go.binOp, Op.intCmp]
theorem index_run {A : Addr} {n c : Nat} {i : Nat} (hi : i < n) (w : World) : (Instr.indexAt 24 (.slice (some A) n c) (.int .i64 (i : Int))).run Tryz.prog w = .ok (.pointer (some (A.add i))) w := by
  unfold Instr.indexAt
  have hcond : (0 : Int) ≤ (i : Int) ∧ (i : Int) < (n : Int) := ⟨by omega, by omega⟩
  simp only [asIntOf, Sem.run_bind, Sem.run_pure, run_underlying u_sl, Result.andThen_ok]
  simp only [hcond, and_self, if_true, Sem.run_bind, sizeOf_run s_u8, Result.andThen_ok, Sem.run_pure, Int.toNat_natCast, Nat.mul_one]

set_option maxRecDepth 100000 in
theorem own_loop {P0 : Act → World → Prop} {Q : Exit → Act → World → Prop} {r : List Code} {a0 : Act} {w0 : World} {b off n cap : Nat} (h9 : at' a0 9 = .slice (some ⟨b, off, none⟩) n cap) (h31 : at' a0 31 = .int .i64 (n : Int)) (h32 : at' a0 32 = .int .i64 0) (hs : a0.tmps.size = 69) (hd : a0.defers = []) (hn : n ≤ 1100)
    (hw : Bytes b off n w0 w0) (hk : ∀ a w, Same a0 a → Bytes b off n w0 w → wps Tryz.prog P0 Q r a w) : wps Tryz.prog P0 Q (own :: r) a0 w0 := by
  have hid : loopId body = 0 := by kernel_rfl
  unfold own
  rw [hid]
  refine wps_loop (fun m a w => ∃ i : Nat, m + i = n ∧ at' a 32 = .int .i64 (i : Int) ∧ Same a0 a ∧ Bytes b off n w0 w) (n := n) ⟨0, by omega, h32, ⟨hs, hd, fun _ _ => rfl⟩, hw⟩ ?_
  rintro m a w ⟨i, hmi, h32', hsm, hby⟩
  refine wp_flat _ _ _ _ ?_
  show wps Tryz.prog _ _ round a w
  rw [round_eq]
  have n9 : ¬ Free 9 := by unfold Free; omega
  have n31 : ¬ Free 31 := by unfold Free; omega
  refine wp_region_list ?_
  rw [ops0]
  have e31 : at' a 31 = .int .i64 (n : Int) := by rw [hsm.keep 31 n31, h31]
  refine step_op i0 (i0.does fun ty pos af => .inl ?_) (wpList_nil ?_) (x := .bool (decide ((i : Int) < (n : Int)))) (w' := w)
  · show (do pure (Next.value (← (do eqGuard .lss 3 (.tmp 32) (.tmp 31) (at' a 32) (at' a 31); Go.binOp .lss 3 (at' a 32) (at' a 31) : Sem Value))) : Sem Next).run Tryz.prog w = _
    rw [h32', e31]
    exact run_v' (lss_run _ _ _ _ _ _ _)
  have hsm1 := hsm.put (d := 33) (x := .bool (decide ((i : Int) < (n : Int)))) (.inr (by omega)) (by omega)
  have f33 : at' (a.put (some 33) (.bool (decide ((i : Int) < (n : Int))))) 33 = .bool (decide ((i : Int) < (n : Int))) := by rw [at_put (by rw [hsm.size]; omega), if_pos rfl]
  have f32 : at' (a.put (some 33) (.bool (decide ((i : Int) < (n : Int))))) 32 = .int .i64 (i : Int) := by rw [at_put (by rw [hsm.size]; omega), if_neg (by omega), h32']
  generalize a.put (some 33) (.bool (decide ((i : Int) < (n : Int)))) = a1 at hsm1 f33 f32 ⊢
  rcases Nat.lt_or_ge i n with hlt | hge
  rotate_left
  · refine wp_cond_false (by rw [eval_tmp, f33]; simp; omega) (wp_exit ?_)
    show (if 0 = 0 then wps Tryz.prog P0 Q r a1 w else Q (.exit 0) a1 w)
    rw [if_pos rfl]
    exact hk a1 w hsm1 hby
  refine wp_cond_true (by rw [eval_tmp, f33]; simp; omega) (wp_skip ?_)
  refine wp_block (wp_flat _ _ _ _ ?_)
  show wps Tryz.prog _ _ inner a1 w
  rw [inner_eq]
  -- the place
  refine wp_region_list ?_
  rw [opsI]
  refine step_op i1 (i1.does fun ty pos af => .inl rfl) (x := at' a1 32) (w' := w) ?_
  rw [f32]
  have hsm2 := hsm1.put (d := 34) (x := .int .i64 (i : Int)) (.inr (by omega)) (by omega)
  have g34 : at' (a1.put (some 34) (.int .i64 (i : Int))) 34 = .int .i64 (i : Int) := by rw [at_put (by rw [hsm1.size]; omega), if_pos rfl]
  have g32 : at' (a1.put (some 34) (.int .i64 (i : Int))) 32 = .int .i64 (i : Int) := by rw [at_put (by rw [hsm1.size]; omega), if_neg (by omega), f32]
  generalize a1.put (some 34) (.int .i64 (i : Int)) = a2 at hsm2 g34 g32 ⊢
  refine step_op i2 (i2.does fun ty pos af => .inl rfl) (x := at' a2 34) (w' := w) (wpList_nil ?_)
  rw [g34]
  have hsm3 := hsm2.put (d := 11) (x := .int .i64 (i : Int)) (.inl rfl) (by omega)
  have p11 : at' (a2.put (some 11) (.int .i64 (i : Int))) 11 = .int .i64 (i : Int) := by rw [at_put (by rw [hsm2.size]; omega), if_pos rfl]
  have p32 : at' (a2.put (some 11) (.int .i64 (i : Int))) 32 = .int .i64 (i : Int) := by rw [at_put (by rw [hsm2.size]; omega), if_neg (by omega), g32]
  generalize a2.put (some 11) (.int .i64 (i : Int)) = a3 at hsm3 p11 p32 ⊢
  -- the byte
  obtain ⟨cs, t, fr, hcs, hfr, hrow⟩ := hby.row
  obtain ⟨x, hx⟩ := hrow i hlt
  have hin : off + i < cs.size := (Array.getElem?_eq_some_iff.1 hx).1
  have hcell : w.cell? ⟨b, off + i, none⟩ = some (.int .u8 x) := by simp [World.cell?, hcs, hx]
  have hfz : w.frozen? ⟨b, off + i, none⟩ = false := by
    obtain ⟨lo, hi⟩ := fr
    simp only [World.frozen?, hcs, Bool.and_eq_false_iff, decide_eq_false_iff_not]
    simp only at hfr
    omega
  refine wp_region_list ?_
  rw [opsJ]
  have e9 : at' a3 9 = .slice (some ⟨b, off, none⟩) n cap := by rw [hsm3.keep 9 n9, h9]
  refine step_op j0 (j0.does fun ty pos af => .inl rfl) (x := at' a3 9) (w' := w) ?_
  rw [e9]
  have hsm4 := hsm3.put (d := 35) (x := .slice (some ⟨b, off, none⟩) n cap) (.inr (by omega)) (by omega)
  have q35 : at' (a3.put (some 35) (.slice (some ⟨b, off, none⟩) n cap)) 35 = .slice (some ⟨b, off, none⟩) n cap := by rw [at_put (by rw [hsm3.size]; omega), if_pos rfl]
  have q11 : at' (a3.put (some 35) (.slice (some ⟨b, off, none⟩) n cap)) 11 = .int .i64 (i : Int) := by rw [at_put (by rw [hsm3.size]; omega), if_neg (by omega), p11]
  have q32 : at' (a3.put (some 35) (.slice (some ⟨b, off, none⟩) n cap)) 32 = .int .i64 (i : Int) := by rw [at_put (by rw [hsm3.size]; omega), if_neg (by omega), p32]
  generalize a3.put (some 35) (.slice (some ⟨b, off, none⟩) n cap) = a4 at hsm4 q35 q11 q32 ⊢
  refine step_op j1 (j1.does fun ty pos af => .inl rfl) (x := at' a4 11) (w' := w) ?_
  rw [q11]
  have hsm5 := hsm4.put (d := 36) (x := .int .i64 (i : Int)) (.inr (by omega)) (by omega)
  have r36 : at' (a4.put (some 36) (.int .i64 (i : Int))) 36 = .int .i64 (i : Int) := by rw [at_put (by rw [hsm4.size]; omega), if_pos rfl]
  have r35 : at' (a4.put (some 36) (.int .i64 (i : Int))) 35 = .slice (some ⟨b, off, none⟩) n cap := by rw [at_put (by rw [hsm4.size]; omega), if_neg (by omega), q35]
  have r32 : at' (a4.put (some 36) (.int .i64 (i : Int))) 32 = .int .i64 (i : Int) := by rw [at_put (by rw [hsm4.size]; omega), if_neg (by omega), q32]
  generalize a4.put (some 36) (.int .i64 (i : Int)) = a5 at hsm5 r36 r35 r32 ⊢
  refine step_op j2 (j2.does fun ty pos af => .inl ?_) (x := .pointer (some ⟨b, off + i, none⟩)) (w' := w) ?_
  · show (do pure (Next.value (← Instr.indexAt 24 (at' a5 35) (at' a5 36))) : Sem Next).run Tryz.prog w = _
    rw [r35, r36]
    exact run_v' (by rw [index_run hlt]; rw [add_addr])
  have hsm6 := hsm5.put (d := 37) (x := .pointer (some ⟨b, off + i, none⟩)) (.inr (by omega)) (by omega)
  have s37 : at' (a5.put (some 37) (.pointer (some ⟨b, off + i, none⟩))) 37 = .pointer (some ⟨b, off + i, none⟩) := by rw [at_put (by rw [hsm5.size]; omega), if_pos rfl]
  have s36 : at' (a5.put (some 37) (.pointer (some ⟨b, off + i, none⟩))) 36 = .int .i64 (i : Int) := by rw [at_put (by rw [hsm5.size]; omega), if_neg (by omega), r36]
  have s35 : at' (a5.put (some 37) (.pointer (some ⟨b, off + i, none⟩))) 35 = .slice (some ⟨b, off, none⟩) n cap := by rw [at_put (by rw [hsm5.size]; omega), if_neg (by omega), r35]
  have s32 : at' (a5.put (some 37) (.pointer (some ⟨b, off + i, none⟩))) 32 = .int .i64 (i : Int) := by rw [at_put (by rw [hsm5.size]; omega), if_neg (by omega), r32]
  generalize a5.put (some 37) (.pointer (some ⟨b, off + i, none⟩)) = a6 at hsm6 s37 s36 s35 s32 ⊢
  refine step_op j3 (j3.does fun ty pos af => .inl ?_) (x := .int .u8 x) (w' := w) ?_
  · show (do pure (Next.value (← Instr.loadAt 5 (at' a6 37))) : Sem Next).run Tryz.prog w = _
    rw [s37]
    refine run_v' ?_
    unfold Instr.loadAt
    simp only [Instr.sureAddr, Sem.run_bind, Sem.run_pure, Result.andThen_ok]
    unfold Go.loadVar
    rw [Sem.run_bind, isAgg_run g_u8]
    simp [hcell]
  have hsm7 := hsm6.put (d := 38) (x := .int .u8 x) (.inr (by omega)) (by omega)
  have t38 : at' (a6.put (some 38) (.int .u8 x)) 38 = .int .u8 x := by rw [at_put (by rw [hsm6.size]; omega), if_pos rfl]
  have t36 : at' (a6.put (some 38) (.int .u8 x)) 36 = .int .i64 (i : Int) := by rw [at_put (by rw [hsm6.size]; omega), if_neg (by omega), s36]
  have t35 : at' (a6.put (some 38) (.int .u8 x)) 35 = .slice (some ⟨b, off, none⟩) n cap := by rw [at_put (by rw [hsm6.size]; omega), if_neg (by omega), s35]
  have t32 : at' (a6.put (some 38) (.int .u8 x)) 32 = .int .i64 (i : Int) := by rw [at_put (by rw [hsm6.size]; omega), if_neg (by omega), s32]
  generalize a6.put (some 38) (.int .u8 x) = a7 at hsm7 t38 t36 t35 t32 ⊢
  obtain ⟨y, hy⟩ : ∃ y, y = IntKind.u8.wrap (x + 1) := ⟨_, rfl⟩
  refine step_op j4 (j4.does fun ty pos af => .inl ?_) (x := .int .u8 y) (w' := w) ?_
  · show (do pure (Next.value (← (do eqGuard .add 5 (.tmp 38) (.const (.int .u8 1)) (at' a7 38) (.int .u8 1); Go.binOp .add 5 (at' a7 38) (.int .u8 1) : Sem Value))) : Sem Next).run Tryz.prog w = _
    rw [t38, hy]
    exact run_v' (add_run _ _ _ _ _ _ _)
  have hsm8 := hsm7.put (d := 39) (x := .int .u8 y) (.inr (by omega)) (by omega)
  have u39 : at' (a7.put (some 39) (.int .u8 y)) 39 = .int .u8 y := by rw [at_put (by rw [hsm7.size]; omega), if_pos rfl]
  have u36 : at' (a7.put (some 39) (.int .u8 y)) 36 = .int .i64 (i : Int) := by rw [at_put (by rw [hsm7.size]; omega), if_neg (by omega), t36]
  have u35 : at' (a7.put (some 39) (.int .u8 y)) 35 = .slice (some ⟨b, off, none⟩) n cap := by rw [at_put (by rw [hsm7.size]; omega), if_neg (by omega), t35]
  have u32 : at' (a7.put (some 39) (.int .u8 y)) 32 = .int .i64 (i : Int) := by rw [at_put (by rw [hsm7.size]; omega), if_neg (by omega), t32]
  generalize a7.put (some 39) (.int .u8 y) = a8 at hsm8 u39 u36 u35 u32 ⊢
  refine step_op j5 (j5.does fun ty pos af => .inl ?_) (x := .pointer (some ⟨b, off + i, none⟩)) (w' := w) ?_
  · show (do pure (Next.value (← Instr.indexAt 24 (at' a8 35) (at' a8 36))) : Sem Next).run Tryz.prog w = _
    rw [u35, u36]
    exact run_v' (by rw [index_run hlt]; rw [add_addr])
  have hsm9 := hsm8.put (d := 40) (x := .pointer (some ⟨b, off + i, none⟩)) (.inr (by omega)) (by omega)
  have v40 : at' (a8.put (some 40) (.pointer (some ⟨b, off + i, none⟩))) 40 = .pointer (some ⟨b, off + i, none⟩) := by rw [at_put (by rw [hsm8.size]; omega), if_pos rfl]
  have v39 : at' (a8.put (some 40) (.pointer (some ⟨b, off + i, none⟩))) 39 = .int .u8 y := by rw [at_put (by rw [hsm8.size]; omega), if_neg (by omega), u39]
  have v32 : at' (a8.put (some 40) (.pointer (some ⟨b, off + i, none⟩))) 32 = .int .i64 (i : Int) := by rw [at_put (by rw [hsm8.size]; omega), if_neg (by omega), u32]
  generalize a8.put (some 40) (.pointer (some ⟨b, off + i, none⟩)) = a9 at hsm9 v40 v39 v32 ⊢
  refine step_op j6 (j6.does fun ty pos af => .inr ⟨?_, rfl⟩) (x := Go.undef) (w' := w.setCell ⟨b, off + i, none⟩ (.int .u8 y)) (wpList_nil ?_)
  · show (do Instr.storeAt 5 (at' a9 40) (at' a9 39); pure Next.skip : Sem Next).run Tryz.prog w = _
    rw [v40, v39]
    refine run_u ?_
    unfold Instr.storeAt Go.storeVar
    simp only [Instr.sureAddr, Sem.run_bind, Sem.run_pure, Result.andThen_ok, sizeOf_run s_u8]
    show (Go.storeCells ⟨b, off + i, none⟩ [.int .u8 y] 0).run Tryz.prog w = _
    simp only [Go.storeCells, Sem.run_bind]
    rw [add_addr, Nat.add_zero, run_store Tryz.prog w _ _ _ rfl, hcell]
    simp only [hfz]
    rfl
  have hby2 : Bytes b off n w0 (w.setCell ⟨b, off + i, none⟩ (.int .u8 y)) := by
    refine ⟨hby.os, hby.tape, hby.output, by simpa [World.setCell] using hby.size, fun b' hb' => by rw [Go.X.heap_setCell_other hb']; exact hby.other b' hb', cs.setIfInBounds (off + i) (.int .u8 y), t, fr, Go.X.heap_setCell_same hcs, by simpa using hfr, fun j hj => ?_⟩
    by_cases hji : j = i
    · subst hji
      exact ⟨y, by simp [hin]⟩
    · obtain ⟨z, hz⟩ := hrow j hj
      exact ⟨z, by rw [Array.getElem?_setIfInBounds_ne (by omega)]; exact hz⟩
  -- the next one
  show wps Tryz.prog _ _ [.region (idA (cAt round 3)) (opsA (cAt round 3)) false] (a9.put none Go.undef) _
  have hput : a9.put none Go.undef = a9 := rfl
  rw [hput]
  refine wp_region_list ?_
  rw [ops3]
  have hwr : IntKind.i64.wrap ((i : Int) + 1) = ((i + 1 : Nat) : Int) := by rw [wrap_i64]; omega
  refine step_op k0 (k0.does fun ty pos af => .inl ?_) (x := .int .i64 ((i + 1 : Nat) : Int)) (w' := w.setCell ⟨b, off + i, none⟩ (.int .u8 y)) ?_
  · show (do pure (Next.value (← (do eqGuard .add 3 (.tmp 32) (.const (.int .i64 1)) (at' a9 32) (.int .i64 1); Go.binOp .add 3 (at' a9 32) (.int .i64 1) : Sem Value))) : Sem Next).run Tryz.prog _ = _
    rw [v32, ← hwr]
    exact run_v' (add_run _ _ _ _ _ _ _)
  have hsma := hsm9.put (d := 41) (x := .int .i64 ((i + 1 : Nat) : Int)) (.inr (by omega)) (by omega)
  have w41 : at' (a9.put (some 41) (.int .i64 ((i + 1 : Nat) : Int))) 41 = .int .i64 ((i + 1 : Nat) : Int) := by rw [at_put (by rw [hsm9.size]; omega), if_pos rfl]
  generalize a9.put (some 41) (.int .i64 ((i + 1 : Nat) : Int)) = aa at hsma w41 ⊢
  refine step_op k1 (k1.does fun ty pos af => .inl rfl) (x := at' aa 41) (w' := w.setCell ⟨b, off + i, none⟩ (.int .u8 y)) (wpList_nil ?_)
  rw [w41]
  exact ⟨m - 1, by omega, i + 1, by omega, by rw [at_put (by rw [hsma.size]; omega), if_pos rfl], hsma.put (.inr (by omega)) (by omega), hby2⟩

end Go.Proofs.YtkmiijmoejcjgaaGreat.castSteps
