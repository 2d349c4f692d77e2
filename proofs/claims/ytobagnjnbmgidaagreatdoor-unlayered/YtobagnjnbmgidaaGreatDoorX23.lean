/- Entries without a body that turn memory; the entries that errors.As comes to. -/
import Derived.Test.YtobagnjnbmgidaaGreatDoorX14
set_option linter.unusedSimpArgs false
set_option linter.unusedVariables false
set_option maxHeartbeats 4000000
set_option maxRecDepth 100000
namespace Go.Proofs.YtobagnjnbmgidaaGreatDoor
section
open Go.Conc Go.RowKit Go.Extern
variable {Ok : Addr → Bool → Prop} {main : Bool}

section
variable {P : Program} {D : World → World → Array Event → Prop} {Ψ : Goroutine → World → Prop} {b : Frame} {a : Act} {k : List Item} {cs : List Frame} {w w' : World} {ops : Array Oper} {i : Nat} {rest : List Nat} {o : Oper} {f : FuncId} {fn : Func} {x : Array Value → Sem Value} {v : Value} {E : Array Event}

theorem Fut.extc (F : Fut P main D Ψ) (ho : ops[i]? = some o) (hw : Region.wanted o (yielded ops a.tmps) = true) (hk : b.kind ≠ .early) {args : Array Operand} {ats : Array TypeId} (hop : o.op = .call { callee := .value (.func f), args, argTypes := ats })
    (hf : P.funcs[f]? = some fn) (hname : (fn.name == "runtime.NumGoroutine") = false) (hb : fn.body.isNone = true) (hn : Extern.findNext fn = none) (he : Extern.find fn = some x)
    (hr : ∀ d, (x (args.map a.eval)).run P (w.at d) = .ok v (w'.at d)) (hev : ∀ d es, (x (args.map a.eval)).events P (w.at d) es = es ++ E) (hD : ∀ d es, (∀ e ∈ es, e ∈ E) → D (w.at d) (w'.at d) es)
    (h : Ψ (G (b.at (a.put o.dst v) (.inRegion ops rest :: k)) cs) w') : Ψ (G (b.at a (.inRegion ops (i :: rest) :: k)) cs) w :=
  F.step _ _ rfl fun d => by
    have hrun : (execOp a.eval o).run P (w.at d) = .ok (.value v) (w'.at d) := by rw [exec_ext hop, run_callFunc_extern hf hname hb hn he, hr d]; rfl
    have hraw : raw P a o (w.at d) = #[⟨.mark (.extern f), false, true⟩] ++ E := by unfold raw; rw [exec_ext hop, events_callFunc_extern hf hname hb hn he, hev]; rfl
    refine ⟨_, _, _, stepG_value ho hw hk hrun, hD _ _ fun e hm => ?_, F.at' _ _ _ h, fun z y hz hR => ?_⟩
    · obtain ⟨h1, h2⟩ := mem_listed2 hm
      rw [exec_ext hop, events_callFunc_extern hf hname hb hn he, hev] at h1
      simp at h1
      rcases h1 with rfl | h1
      · exact (h2 fun _ _ _ => rfl).elim
      · exact h1
    · obtain ⟨h1, h2⟩ := op_set (z := z) y hrun (fun e hm => by
        rw [hraw, Array.mem_append] at hm; rcases hm with hm | hm
        · simp at hm; subst hm; exact fun e => by cases e
        · exact hz _ _ _ (hD d E fun e he => he) e hm) hR
      rw [stepG_value ho hw hk h1]; unfold listed; unfold raw at h2; rw [h2]
end

/-! ### Closed facts at this program's types. 168: *Link, 170: **Link, 217: rtype, 121: error, 193: Value -/
theorem vo170 (t : Addr) (w : World) : (ReflectliteValue.unpack (.iface 170 (.pointer (some t)))).run Tryz.prog w = .ok (.agg #[.pointer (some ⟨1, 170, none⟩), .pointer (some ⟨w.heap.size, 0, none⟩), .int .u64 150]) (w.alloc (.cells #[.pointer (some t)] 170)) := by kernel_rfl
theorem vo170e (t : Addr) (w : World) (es : Array Event) : (ReflectliteValue.unpack (.iface 170 (.pointer (some t)))).events Tryz.prog w es = es := by kernel_rfl
theorem vo168 (t : Addr) (w : World) : (ReflectliteValue.unpack (.iface 168 (.pointer (some t)))).run Tryz.prog w = .ok (.agg #[.pointer (some ⟨1, 168, none⟩), .pointer (some ⟨w.heap.size, 0, none⟩), .int .u64 150]) (w.alloc (.cells #[.pointer (some t)] 168)) := by kernel_rfl
theorem vo168e (t : Addr) (w : World) (es : Array Event) : (ReflectliteValue.unpack (.iface 168 (.pointer (some t)))).events Tryz.prog w es = es := by kernel_rfl
theorem vt170 (a : Addr) (w : World) : (ReflectliteValue.methodAny (ReflectliteValue.valueError "reflectlite.Value.Type" 0) (fun t _ _ _ => ReflectliteType.toType t) #[.agg #[.pointer (some ⟨1, 170, none⟩), .pointer (some a), .int .u64 150]]).run Tryz.prog w = .ok (.iface 217 (.agg #[.pointer (some ⟨1, 170, none⟩)])) w := by kernel_rfl
theorem vt170e (a : Addr) (w : World) (es : Array Event) : (ReflectliteValue.methodAny (ReflectliteValue.valueError "reflectlite.Value.Type" 0) (fun t _ _ _ => ReflectliteType.toType t) #[.agg #[.pointer (some ⟨1, 170, none⟩), .pointer (some a), .int .u64 150]]).events Tryz.prog w es = es := by kernel_rfl
theorem mKind (h : Value) (w : World) : (Go.method (Tryz.prog.types.size + Made.depth) 217 (.agg #[h]) "Kind").run Tryz.prog w = .ok (140, h) w := by kernel_rfl
theorem mKinde (h : Value) (w : World) (es : Array Event) : (Go.method (Tryz.prog.types.size + Made.depth) 217 (.agg #[h]) "Kind").events Tryz.prog w es = es := by kernel_rfl
theorem kind170 (w : World) : ((ReflectliteType.abiMethod fun t => do pure (.int .u8 (← Rtype.kind t))) #[.pointer (some ⟨1, 170, none⟩)]).run Tryz.prog w = .ok (.int .u8 22) w := by kernel_rfl
theorem kind170e (w : World) (es : Array Event) : ((ReflectliteType.abiMethod fun t => do pure (.int .u8 (← Rtype.kind t))) #[.pointer (some ⟨1, 170, none⟩)]).events Tryz.prog w es = es := by kernel_rfl
theorem kind168 (w : World) : ((ReflectliteType.abiMethod fun t => do pure (.int .u8 (← Rtype.kind t))) #[.pointer (some ⟨1, 168, none⟩)]).run Tryz.prog w = .ok (.int .u8 22) w := by kernel_rfl
theorem kind168e (w : World) (es : Array Event) : ((ReflectliteType.abiMethod fun t => do pure (.int .u8 (← Rtype.kind t))) #[.pointer (some ⟨1, 168, none⟩)]).events Tryz.prog w es = es := by kernel_rfl
theorem mElem (h : Value) (w : World) : (Go.method (Tryz.prog.types.size + Made.depth) 217 (.agg #[h]) "Elem").run Tryz.prog w = .ok (222, .agg #[h]) w := by kernel_rfl
theorem mEleme (h : Value) (w : World) (es : Array Event) : (Go.method (Tryz.prog.types.size + Made.depth) 217 (.agg #[h]) "Elem").events Tryz.prog w es = es := by kernel_rfl
theorem mImpl (h : Value) (w : World) : (Go.method (Tryz.prog.types.size + Made.depth) 217 (.agg #[h]) "Implements").run Tryz.prog w = .ok (223, .agg #[h]) w := by kernel_rfl
theorem mImple (h : Value) (w : World) (es : Array Event) : (Go.method (Tryz.prog.types.size + Made.depth) 217 (.agg #[h]) "Implements").events Tryz.prog w es = es := by kernel_rfl
theorem mAssign (h : Value) (w : World) : (Go.method (Tryz.prog.types.size + Made.depth) 217 (.agg #[h]) "AssignableTo").run Tryz.prog w = .ok (220, .agg #[h]) w := by kernel_rfl
theorem mAssigne (h : Value) (w : World) (es : Array Event) : (Go.method (Tryz.prog.types.size + Made.depth) 217 (.agg #[h]) "AssignableTo").events Tryz.prog w es = es := by kernel_rfl
theorem elem170 (w : World) : (ReflectliteType.method ReflectliteType.elem #[.agg #[.pointer (some ⟨1, 170, none⟩)]]).run Tryz.prog w = .ok (.iface 217 (.agg #[.pointer (some ⟨1, 168, none⟩)])) w := by kernel_rfl
theorem elem170e (w : World) (es : Array Event) : (ReflectliteType.method ReflectliteType.elem #[.agg #[.pointer (some ⟨1, 170, none⟩)]]).events Tryz.prog w es = es := by kernel_rfl
theorem impl168 (w : World) : (ReflectliteType.relation "Implements" ReflectliteType.implements_ #[.agg #[.pointer (some ⟨1, 168, none⟩)], .iface 217 (.agg #[.pointer (some ⟨1, 121, none⟩)])]).run Tryz.prog w = .ok (.bool true) w := by kernel_rfl
theorem impl168e (w : World) (es : Array Event) : (ReflectliteType.relation "Implements" ReflectliteType.implements_ #[.agg #[.pointer (some ⟨1, 168, none⟩)], .iface 217 (.agg #[.pointer (some ⟨1, 121, none⟩)])]).events Tryz.prog w es = es := by kernel_rfl
theorem ty168 (v : Value) (w : World) : (ReflectliteType.typeOf #[.iface 168 v]).run Tryz.prog w = .ok (.iface 217 (.agg #[.pointer (some ⟨1, 168, none⟩)])) w := by kernel_rfl
theorem ty168e (v : Value) (w : World) (es : Array Event) : (ReflectliteType.typeOf #[.iface 168 v]).events Tryz.prog w es = es := by kernel_rfl
theorem asgn168 (w : World) : (ReflectliteType.relation "AssignableTo" ReflectliteType.assignableTo #[.agg #[.pointer (some ⟨1, 168, none⟩)], .iface 217 (.agg #[.pointer (some ⟨1, 168, none⟩)])]).run Tryz.prog w = .ok (.bool true) w := by kernel_rfl
theorem asgn168e (w : World) (es : Array Event) : (ReflectliteType.relation "AssignableTo" ReflectliteType.assignableTo #[.agg #[.pointer (some ⟨1, 168, none⟩)], .iface 217 (.agg #[.pointer (some ⟨1, 168, none⟩)])]).events Tryz.prog w es = es := by kernel_rfl

/-! ### The entries that read or write memory -/
theorem pt170 (a : Addr) (w : World) : (ReflectliteValue.parts (.agg #[.pointer (some ⟨1, 170, none⟩), .pointer (some a), .int .u64 150])).run Tryz.prog w = .ok (some (170, a, 150)) w := by kernel_rfl
theorem pt170e (a : Addr) (w : World) (es : Array Event) : (ReflectliteValue.parts (.agg #[.pointer (some ⟨1, 170, none⟩), .pointer (some a), .int .u64 150])).events Tryz.prog w es = es := by kernel_rfl
theorem pt168 (a : Addr) (w : World) : (ReflectliteValue.parts (.agg #[.pointer (some ⟨1, 168, none⟩), .pointer (some a), .int .u64 150])).run Tryz.prog w = .ok (some (168, a, 150)) w := by kernel_rfl
theorem pt168e (a : Addr) (w : World) (es : Array Event) : (ReflectliteValue.parts (.agg #[.pointer (some ⟨1, 168, none⟩), .pointer (some a), .int .u64 150])).events Tryz.prog w es = es := by kernel_rfl
theorem pt168a (a : Addr) (w : World) : (ReflectliteValue.parts (.agg #[.pointer (some ⟨1, 168, none⟩), .pointer (some a), .int .u64 406])).run Tryz.prog w = .ok (some (168, a, 406)) w := by kernel_rfl
theorem pt168ae (a : Addr) (w : World) (es : Array Event) : (ReflectliteValue.parts (.agg #[.pointer (some ⟨1, 168, none⟩), .pointer (some a), .int .u64 406])).events Tryz.prog w es = es := by kernel_rfl
theorem un170 : Tryz.prog.underlying 170 = some (.pointer 168) := by kernel_rfl
theorem un168 : ∃ t, Tryz.prog.underlying 168 = some (.pointer t) := ⟨match Tryz.prog.underlying 168 with | some (.pointer t) => t | _ => 0, by kernel_rfl⟩

theorem isNil170 (a p : Addr) (W : World) (ha : W.cell? a = some (.pointer (some p))) :
    (ReflectliteValue.method (ReflectliteValue.valueError "reflectlite.Value.IsNil" 0) ReflectliteValue.isNil #[.agg #[.pointer (some ⟨1, 170, none⟩), .pointer (some a), .int .u64 150]]).run Tryz.prog W = .ok (.bool false) W := by
  change (ReflectliteValue.parts (.agg #[.pointer (some ⟨1, 170, none⟩), .pointer (some a), .int .u64 150]) >>= _ : Sem Value).run Tryz.prog W = _
  simp only [Sem.run_bind, pt170, Result.andThen]; simp [ReflectliteValue.isNil, loadVar, isAgg, underlying, un170, ha, Result.andThen]
theorem isNil170e (a p : Addr) (W : World) (es : Array Event) (ha : W.cell? a = some (.pointer (some p))) :
    (ReflectliteValue.method (ReflectliteValue.valueError "reflectlite.Value.IsNil" 0) ReflectliteValue.isNil #[.agg #[.pointer (some ⟨1, 170, none⟩), .pointer (some a), .int .u64 150]]).events Tryz.prog W es = es ++ #[⟨.cell a, false, false⟩] := by
  change (ReflectliteValue.parts (.agg #[.pointer (some ⟨1, 170, none⟩), .pointer (some a), .int .u64 150]) >>= _ : Sem Value).events Tryz.prog W es = _
  simp only [Sem.events_bind, pt170, pt170e, Result.evThen_ok]; simp [ReflectliteValue.isNil, loadVar, isAgg, underlying, un170, ha, Result.andThen, go_sem]
  rfl
theorem elemOf170 (w : World) : (Rtype.elem? 170).run Tryz.prog w = .ok (some 168) w := by kernel_rfl
theorem elemOf170e (w : World) (es : Array Event) : (Rtype.elem? 170).events Tryz.prog w es = es := by kernel_rfl
theorem mk168 (p : Addr) (w : World) : (ReflectliteValue.mk 168 p ReflectliteValue.flagAddr).run Tryz.prog w = .ok (.agg #[.pointer (some ⟨1, 168, none⟩), .pointer (some p), .int .u64 406]) w := by kernel_rfl
theorem mk168e (p : Addr) (w : World) (es : Array Event) : (ReflectliteValue.mk 168 p ReflectliteValue.flagAddr).events Tryz.prog w es = es := by kernel_rfl
theorem elemV170 (a p : Addr) (W : World) (ha : W.cell? a = some (.pointer (some p))) :
    (ReflectliteValue.method (ReflectliteValue.valueError "reflectlite.Value.Elem" 0) ReflectliteValue.elem #[.agg #[.pointer (some ⟨1, 170, none⟩), .pointer (some a), .int .u64 150]]).run Tryz.prog W = .ok (.agg #[.pointer (some ⟨1, 168, none⟩), .pointer (some p), .int .u64 406]) W := by
  change (ReflectliteValue.parts (.agg #[.pointer (some ⟨1, 170, none⟩), .pointer (some a), .int .u64 150]) >>= _ : Sem Value).run Tryz.prog W = _
  simp only [Sem.run_bind, pt170, Result.andThen]; simp [ReflectliteValue.elem, loadVar, isAgg, underlying, un170, ha, Result.andThen, elemOf170, mk168]
theorem elemV170e (a p : Addr) (W : World) (es : Array Event) (ha : W.cell? a = some (.pointer (some p))) :
    (ReflectliteValue.method (ReflectliteValue.valueError "reflectlite.Value.Elem" 0) ReflectliteValue.elem #[.agg #[.pointer (some ⟨1, 170, none⟩), .pointer (some a), .int .u64 150]]).events Tryz.prog W es = es ++ #[⟨.cell a, false, false⟩] := by
  change (ReflectliteValue.parts (.agg #[.pointer (some ⟨1, 170, none⟩), .pointer (some a), .int .u64 150]) >>= _ : Sem Value).events Tryz.prog W es = _
  simp only [Sem.events_bind, pt170, pt170e, Result.evThen_ok]; simp [ReflectliteValue.elem, loadVar, isAgg, underlying, un170, ha, Result.andThen, elemOf170, elemOf170e, mk168, mk168e, go_sem]
  rfl
theorem direct168 (w : World) : (Rtype.directlyAssignable 168 168).run Tryz.prog w = .ok true w := by kernel_rfl
theorem direct168e (w : World) (es : Array Event) : (Rtype.directlyAssignable 168 168).events Tryz.prog w es = es := by kernel_rfl
theorem set168 (ta b e : Addr) (old : Value) (W : World) (hb : W.cell? b = some (.pointer (some e))) (ht : W.cell? ta = some old) (hf : W.frozen? ta = false) :
    (ReflectliteValue.set #[.agg #[.pointer (some ⟨1, 168, none⟩), .pointer (some ta), .int .u64 406], .agg #[.pointer (some ⟨1, 168, none⟩), .pointer (some b), .int .u64 150]]).run Tryz.prog W = .ok (.tuple #[]) (W.setCell ta (.pointer (some e))) := by
  obtain ⟨t, un⟩ := un168
  change (ReflectliteValue.parts (.agg #[.pointer (some ⟨1, 168, none⟩), .pointer (some ta), .int .u64 406]) >>= fun x => ReflectliteValue.parts (.agg #[.pointer (some ⟨1, 168, none⟩), .pointer (some b), .int .u64 150]) >>= _ : Sem Value).run Tryz.prog W = _
  simp only [Sem.run_bind, pt168a, pt168, Result.andThen]; simp [ReflectliteValue.flagAddr, loadVar, isAgg, underlying, un, hb, Result.andThen, direct168, storeVar, Value.cells, storeCells, Addr.add]; rw [run_store Tryz.prog W ta _ _ (by rfl)]; simp [ht, hf]
theorem set168e (ta b e : Addr) (old : Value) (W : World) (es : Array Event) (hb : W.cell? b = some (.pointer (some e))) (ht : W.cell? ta = some old) (hf : W.frozen? ta = false) :
    (ReflectliteValue.set #[.agg #[.pointer (some ⟨1, 168, none⟩), .pointer (some ta), .int .u64 406], .agg #[.pointer (some ⟨1, 168, none⟩), .pointer (some b), .int .u64 150]]).events Tryz.prog W es = es ++ #[⟨.cell b, false, false⟩, ⟨.cell ta, true, false⟩] := by
  obtain ⟨t, un⟩ := un168
  change (ReflectliteValue.parts (.agg #[.pointer (some ⟨1, 168, none⟩), .pointer (some ta), .int .u64 406]) >>= fun x => ReflectliteValue.parts (.agg #[.pointer (some ⟨1, 168, none⟩), .pointer (some b), .int .u64 150]) >>= _ : Sem Value).events Tryz.prog W es = _
  simp only [Sem.events_bind, pt168a, pt168, pt168ae, pt168e, Result.evThen_ok]; simp [ReflectliteValue.flagAddr, loadVar, isAgg, underlying, un, hb, Result.andThen, direct168, direct168e, storeVar, Value.cells, storeCells, Addr.add, go_sem, evst_ptr, storedEv, ht, hf]
  rfl
end
section
open Go.Conc Go.RowKit Go.Extern
variable {Ok : Addr → Bool → Prop} {main : Bool}

theorem asNil_x (t : Value) (w0 : World) : CallsX Tryz.prog main (DX Ok) 65 #[.nilIface, t] w0 fun v w' => v = .bool false ∧ w' = w0 := by
  intro Ψ F c cs hc; have t5 := evNN; rw [enter_at _ Tryz.func65 rfl]; simp only [Tryz.ntmps65, List.size_toArray, List.length_cons, List.length_nil, Nat.reduceAdd, Nat.reduceSub, Array.replicate_succ, Array.replicate_zero, List.push_toArray, List.append_toArray, List.nil_append, List.cons_append]; refine F.sr ?_; simp only [rg, Nat.reduceAdd]; refine F.oq rfl rfl rfl (by simp [go_sem]) fun d K h => ?_; go_simp; refine h _ ?_; clear h K d; try walk_nrm
  refine F.es ?_; refine F.sr ?_; simp only [rg, Nat.reduceAdd]; iterate 2 (refine F.oq rfl rfl rfl (fun _ => by first | (simp [go_sem]; done) | simp [go_sem, Instr.makeInterface, Instr.makeFunc, *]) fun d K hK => ?_; go_simp; refine hK _ ?_; clear hK K d; try walk_nrm)
  refine F.re ?_; refine F.ct rfl ?_; refine F.sr ?_; simp only [rg, Nat.reduceAdd]; refine F.oq rfl rfl rfl (by simp [go_sem]) fun d K h => ?_; go_simp; refine h _ ?_; clear h K d; try walk_nrm
  refine F.re ?_; refine F.ctl (fun _ => stepG_ret') ?_; refine F.leave rfl rfl Tryz.func65 (resultsC_tmp (by rfl) _) ?_; exact hc _ _ ⟨rfl, rfl⟩

theorem as_x (p : Nat) (e t : Addr) (old : Value) (w0 : World) (hp : w0.cell? ⟨p, 0, none⟩ = some (.pointer (some t))) (ht : w0.cell? t = some old) (zt : w0.frozen? t = false) (oP : Ok ⟨p, 0, none⟩ false) (oT : Ok t true) (hfr : ∀ a wr, w0.heap.size ≤ a.block → Ok a wr) (hne : t.block ≠ p) :
    CallsX Tryz.prog main (DX Ok) 95 #[.iface 168 (.pointer (some e)), .iface 170 (.pointer (some t)), .agg #[.pointer (some ⟨1, 170, none⟩), .pointer (some ⟨p, 0, none⟩), .int .u64 150], .iface 217 (.agg #[.pointer (some ⟨1, 168, none⟩)])] w0 fun v w' => v = .bool true ∧ Kp [] w0 w' [t] ∧ w'.cell? t = some (.pointer (some e)) ∧ w'.frozen? t = false := by
  intro Ψ F c cs hc; have lt := lt_of_cell ht; have lp : p < w0.heap.size := lt_of_cell hp; rw [enter_at _ Tryz.func95 rfl]; simp only [Tryz.ntmps95, List.size_toArray, List.length_cons, List.length_nil, Nat.reduceAdd, Nat.reduceSub, Array.replicate_succ, Array.replicate_zero, List.push_toArray, List.append_toArray, List.nil_append, List.cons_append]; refine F.sr ?_; simp only [rg, Nat.reduceAdd]; refine F.op rfl rfl (by decide) (fun d K hK => ?_); go_simp; rw [alloc_at']; refine hK _ _ ⟨DX.alloc _ _ (fun e he => ?_), ?_⟩
  · have hm := mem_listed he
    simp [go_sem] at hm
  clear hK K d; try walk_nrm
  generalize ew1 : World.alloc w0 _ = w1; generalize hn1 : (World.heap w0).size = n1; have sz1 := sz_al ew1 hn1; replace zt := fz_al zt ht ew1; replace hp := cl_al hp ew1; replace ht := cl_al ht ew1; have hv0 := cl_new (i := 0) ew1 hn1 rfl; have zv0 := fz_new ew1 hn1 0; have hv1 := cl_new (i := 1) ew1 hn1 rfl; have zv1 := fz_new ew1 hn1 1; have hv2 := cl_new (i := 2) ew1 hn1 rfl; have zv2 := fz_new ew1 hn1 2; try simp only [List.getElem_toArray, List.getElem_cons_zero, List.getElem_cons_succ] at hv0 hv1 hv2
  have kp : Kp [] w0 w0 [t] := Kp.refl _; replace kp := kp.alN ew1; refine F.oq rfl rfl rfl (by simp [go_sem]) fun d K h => ?_; go_simp; refine h _ ?_; clear h K d; try walk_nrm
  refine F.re ?_; refine F.bl ?_; refine F.ctl (fun _ => stepG_loop) ?_; refine F.bl ?_; refine F.sq ?_; refine F.sr ?_; simp only [rg, Nat.reduceAdd]; refine F.oq rfl rfl rfl (by simp [go_sem]) fun d K h => ?_; go_simp; refine h _ ?_; clear h K d; try walk_nrm
  refine F.ext0c rfl rfl (by decide) rfl Tryz.func112 (by kernel_rfl) (by kernel_rfl) (by kernel_rfl) (by kernel_rfl) (x := ReflectliteType.typeOf) (fun d => by walk_nrm; exact ty168 _ _) (fun d es => by walk_nrm; exact ty168e _ _ _) ?_; walk_nrm; refine F.oq rfl rfl rfl (by simp [go_sem]) fun d K h => ?_; go_simp; refine h _ ?_; clear h K d; try walk_nrm
  refine F.ext0m rfl rfl (by decide) rfl rfl (mAssign _) (mAssigne _) Tryz.func220 (by kernel_rfl) (by kernel_rfl) (by kernel_rfl) (by kernel_rfl) (x := ReflectliteType.relation "AssignableTo" ReflectliteType.assignableTo) (fun d => by walk_nrm; exact asgn168 _) (fun d es => by walk_nrm; exact asgn168e _ _) ?_; walk_nrm; refine F.re ?_; refine F.ct rfl ?_; refine F.sr ?_; simp only [rg, Nat.reduceAdd]; refine F.ol rfl rfl rfl fun d K hK => ?_
  go_simp; refine hK _ (fun e hm => ?_) ?_
  · simp [go_sem, *] at hm
    rcases hm with rfl | rfl | rfl <;> exact evr (w := w1) (by assumption) (by first | assumption | (apply hfr <;> dsimp only <;> omega))
  clear hK K d; try walk_nrm
  refine F.extc rfl rfl (by decide) rfl Tryz.func113 (by kernel_rfl) (by kernel_rfl) (by kernel_rfl) (by kernel_rfl) (x := ReflectliteValue.method (ReflectliteValue.valueError "reflectlite.Value.Elem" 0) ReflectliteValue.elem) (w' := w1) (E := #[⟨.cell ⟨p, 0, none⟩, false, false⟩]) (fun d => by walk_nrm; exact elemV170 _ t _ hp) (fun d es => by walk_nrm; exact elemV170e _ t _ _ hp) (fun d es hes => DX.still _ fun e he => ?_) ?_
  · have hm := hes e he
    simp at hm
    subst hm; exact .inl ⟨_, rfl, rfl, oP, lt_of_cell (w := w1) hp⟩
  walk_nrm; refine F.oq rfl rfl rfl (by simp [go_sem]) fun d K h => ?_; go_simp; refine h _ ?_; clear h K d; try walk_nrm
  refine F.extc rfl rfl (by decide) rfl Tryz.func92 (by kernel_rfl) (by kernel_rfl) (by kernel_rfl) (by kernel_rfl) (x := fun args => ReflectliteValue.unpack (args.getD 0 (.tuple #[]))) (v := .agg #[.pointer (some ⟨1, 168, none⟩), .pointer (some ⟨w1.heap.size, 0, none⟩), .int .u64 150]) (w' := w1.alloc (.cells #[.pointer (some e)] 168)) (E := #[]) (fun d => by walk_nrm; exact vo168 _ _) (fun d es => by walk_nrm; simp only [Array.append_empty]; exact vo168e _ _ _) (fun d es hes => DX.alloc _ _ fun e he => by have := hes e he; simp at this) ?_; walk_nrm; generalize ew2 : World.alloc w1 _ = w2; generalize hn2 : (World.heap w1).size = n2; have sz2 := sz_al ew2 hn2; replace zt := fz_al zt ht ew2; replace zv0 := fz_al zv0 hv0 ew2; replace zv1 := fz_al zv1 hv1 ew2; replace zv2 := fz_al zv2 hv2 ew2; replace hp := cl_al hp ew2; replace ht := cl_al ht ew2; replace hv0 := cl_al hv0 ew2; replace hv1 := cl_al hv1 ew2; replace hv2 := cl_al hv2 ew2; have hb0 := cl_new (i := 0) ew2 hn2 rfl; have zb0 := fz_new ew2 hn2 0; try simp only [List.getElem_toArray, List.getElem_cons_zero, List.getElem_cons_succ] at hb0
  replace kp := kp.alN ew2; refine F.extc rfl rfl (by decide) rfl Tryz.func114 (by kernel_rfl) (by kernel_rfl) (by kernel_rfl) (by kernel_rfl) (x := ReflectliteValue.set) (w' := w2.setCell t (.pointer (some e))) (E := #[⟨.cell ⟨n2, 0, none⟩, false, false⟩, ⟨.cell t, true, false⟩]) (fun d => by walk_nrm; exact set168 _ _ _ _ _ hb0 ht zt) (fun d es => by walk_nrm; exact set168e _ _ _ _ _ _ hb0 ht zt) (fun d es hes => DX.set _ oT fun e he => ?_) ?_
  · have hm := hes e he
    simp at hm
    rcases hm with rfl | rfl
    · exact .inl ⟨_, rfl, rfl, hfr _ _ (by dsimp only; omega), by show _ < (World.setCell _ _ _).heap.size; simp [World.setCell]; exact lt_of_cell hb0⟩
    · exact .inl ⟨_, rfl, rfl, oT, by show _ < (World.setCell _ _ _).heap.size; simp [World.setCell]; exact lt_of_cell ht⟩
  walk_nrm; clear hb0 hv0 hv1 hv2 zb0 zv0 zv1 zv2 hp; generalize ew3 : World.setCell w2 _ _ = w3; have sz3 := sz_st ew3; replace zt := fz_st zt ew3; replace ht := cl_st' ht ew3; replace kp := kp.stN ew3 (by first | (left; simp; done) | (right; left; simp; done) | (right; right; dsimp only; omega)); refine F.esr ?_; simp only [rg, Nat.reduceAdd]; refine F.oq rfl rfl rfl (by simp [go_sem]) fun d K h => ?_; go_simp; refine h _ ?_; clear h K d; try walk_nrm
  refine F.re ?_; refine F.ctl (fun _ => stepG_ret') ?_; refine F.leave rfl rfl Tryz.func95 (resultsC_tmp (by rfl) _) ?_; exact hc _ _ ⟨rfl, kp, ht, zt⟩

theorem errAs_x (e t : Addr) (old : Value) (w0 : World) (hg : w0.cell? ⟨0, 0, none⟩ = some (.iface 217 (.agg #[.pointer (some ⟨1, 121, none⟩)]))) (ht : w0.cell? t = some old) (zt : w0.frozen? t = false) (oG : Ok ⟨0, 0, none⟩ false) (oT : Ok t true) (hfr : ∀ a wr, w0.heap.size ≤ a.block → Ok a wr) :
    CallsX Tryz.prog main (DX Ok) 65 #[.iface 168 (.pointer (some e)), .iface 170 (.pointer (some t))] w0 fun v w' => v = .bool true ∧ Kp [] w0 w' [t] ∧ w'.cell? t = some (.pointer (some e)) ∧ w'.frozen? t = false := by
  intro Ψ F c cs hc; have lt := lt_of_cell ht; have lg : 0 < w0.heap.size := lt_of_cell hg; rw [enter_at _ Tryz.func65 rfl]; simp only [Tryz.ntmps65, List.size_toArray, List.length_cons, List.length_nil, Nat.reduceAdd, Nat.reduceSub, Array.replicate_succ, Array.replicate_zero, List.push_toArray, List.append_toArray, List.nil_append, List.cons_append]; have t5 := evNil; have t6 := evNil20; refine F.sr ?_; simp only [rg, Nat.reduceAdd]; refine F.oq rfl rfl rfl (by simp [go_sem]) fun d K h => ?_; go_simp; refine h _ ?_; clear h K d; try walk_nrm
  refine F.es ?_; refine F.sr ?_; simp only [rg, Nat.reduceAdd]; iterate 2 (refine F.oq rfl rfl rfl (fun _ => by first | (simp [go_sem]; done) | simp [go_sem, Instr.makeInterface, Instr.makeFunc, *]) fun d K hK => ?_; go_simp; refine hK _ ?_; clear hK K d; try walk_nrm)
  refine F.re ?_; refine F.cf rfl ?_; refine F.sk ?_; refine F.sq ?_; refine F.sr ?_; simp only [rg, Nat.reduceAdd]; iterate 2 (refine F.oq rfl rfl rfl (fun _ => by first | (simp [go_sem]; done) | simp [go_sem, Instr.makeInterface, Instr.makeFunc, *]) fun d K hK => ?_; go_simp; refine hK _ ?_; clear hK K d; try walk_nrm)
  refine F.re ?_; refine F.cf rfl ?_; refine F.sk ?_; refine F.sr ?_; simp only [rg, Nat.reduceAdd]; refine F.oq rfl rfl rfl (by simp [go_sem]) fun d K h => ?_; go_simp; refine h _ ?_; clear h K d; try walk_nrm
  refine F.extc rfl rfl (by decide) rfl Tryz.func92 (by kernel_rfl) (by kernel_rfl) (by kernel_rfl) (by kernel_rfl) (x := fun args => ReflectliteValue.unpack (args.getD 0 (.tuple #[]))) (v := .agg #[.pointer (some ⟨1, 170, none⟩), .pointer (some ⟨w0.heap.size, 0, none⟩), .int .u64 150]) (w' := w0.alloc (.cells #[.pointer (some t)] 170)) (E := #[]) (fun d => by walk_nrm; exact vo170 _ _) (fun d es => by walk_nrm; simp only [Array.append_empty]; exact vo170e _ _ _) (fun d es hes => DX.alloc _ _ fun e he => by have := hes e he; simp at this) ?_; walk_nrm; generalize ew1 : World.alloc w0 _ = w1; generalize hn1 : (World.heap w0).size = n1; have sz1 := sz_al ew1 hn1; replace zt := fz_al zt ht ew1; replace hg := cl_al hg ew1; replace ht := cl_al ht ew1; have hb0 := cl_new (i := 0) ew1 hn1 rfl; have zb0 := fz_new ew1 hn1 0; try simp only [List.getElem_toArray, List.getElem_cons_zero, List.getElem_cons_succ] at hb0
  have kp : Kp [] w0 w0 [t] := Kp.refl _; replace kp := kp.alN ew1; have sz1' : n1 + 1 ≤ w1.heap.size ∧ w1.heap.size ≤ n1 + 1 := ⟨Nat.le_of_eq sz1.symm, Nat.le_of_eq sz1⟩; clear sz1; refine F.op rfl rfl (by decide) (fun d K hK => ?_); go_simp; rw [alloc_at']; refine hK _ _ ⟨DX.alloc _ _ (fun e he => ?_), ?_⟩
  · have hm := mem_listed he
    simp [go_sem] at hm
  clear hK K d; try walk_nrm
  generalize ew2 : World.alloc w1 _ = w2; generalize hn2 : (World.heap w1).size = n2; have sz2 := sz_al ew2 hn2; replace zt := fz_al zt ht ew2; replace zb0 := fz_al zb0 hb0 ew2; replace hg := cl_al hg ew2; replace ht := cl_al ht ew2; replace hb0 := cl_al hb0 ew2; have hs0 := cl_new (i := 0) ew2 hn2 rfl; have zs0 := fz_new ew2 hn2 0; have hs1 := cl_new (i := 1) ew2 hn2 rfl; have zs1 := fz_new ew2 hn2 1; have hs2 := cl_new (i := 2) ew2 hn2 rfl; have zs2 := fz_new ew2 hn2 2; try simp only [List.getElem_toArray, List.getElem_cons_zero, List.getElem_cons_succ] at hs0 hs1 hs2
  replace kp := kp.alN ew2; refine F.op rfl rfl (by decide) (fun d K hK => ?_); go_simp
  repeat rw [setCell_at']
  refine hK _ _ ⟨DX.set3 _ (by (first | assumption | (apply hfr <;> dsimp only <;> omega))) (by (first | assumption | (apply hfr <;> dsimp only <;> omega))) (by (first | assumption | (apply hfr <;> dsimp only <;> omega))) (fun e he => ?_), ?_⟩
  · have hm := mem_listed he
    simp [go_sem, storedEv, evst_slice, evst_ptr, evst_iface, evst_nil, evst_bool, *] at hm; rcases hm with rfl | rfl | rfl <;> exact .inl ⟨_, rfl, rfl, by (first | assumption | (apply hfr <;> dsimp only <;> omega)), by show _ < (World.setCell _ _ _).heap.size; simp [World.setCell]; first | omega | exact lt_of_cell (by assumption)⟩
  clear hK K d; try walk_nrm
  generalize ew3 : World.setCell w2 _ _ = w3; have sz3 := sz_st ew3; replace zt := fz_st zt ew3; replace zb0 := fz_st zb0 ew3; replace zs0 := fz_st zs0 ew3; replace zs1 := fz_st zs1 ew3; replace zs2 := fz_st zs2 ew3; replace hg := cl_st hg ew3 (by simp <;> omega); replace ht := cl_st ht ew3 (by first | (intro e; simp at e; done) | (intro e; simp at e; omega) | (intro e; have e1 := congrArg Addr.block e; dsimp only at e1; omega)); replace hb0 := cl_st hb0 ew3 (by simp <;> omega); replace hs0 := cl_st' hs0 ew3; replace hs1 := cl_st hs1 ew3 (by simp <;> omega); replace hs2 := cl_st hs2 ew3 (by simp <;> omega); replace kp := kp.stN ew3 (by first | (left; simp; done) | (right; left; simp; done) | (right; right; dsimp only; omega)); generalize ew4 : World.setCell w3 _ _ = w4; have sz4 := sz_st ew4; replace zt := fz_st zt ew4; replace zb0 := fz_st zb0 ew4; replace zs0 := fz_st zs0 ew4; replace zs1 := fz_st zs1 ew4; replace zs2 := fz_st zs2 ew4; replace hg := cl_st hg ew4 (by simp <;> omega); replace ht := cl_st ht ew4 (by first | (intro e; simp at e; done) | (intro e; simp at e; omega) | (intro e; have e1 := congrArg Addr.block e; dsimp only at e1; omega)); replace hb0 := cl_st hb0 ew4 (by simp <;> omega); replace hs0 := cl_st hs0 ew4 (by simp <;> omega); replace hs1 := cl_st' hs1 ew4; replace hs2 := cl_st hs2 ew4 (by simp <;> omega); replace kp := kp.stN ew4 (by first | (left; simp; done) | (right; left; simp; done) | (right; right; dsimp only; omega))
  generalize ew5 : World.setCell w4 _ _ = w5; have sz5 := sz_st ew5; replace zt := fz_st zt ew5; replace zb0 := fz_st zb0 ew5; replace zs0 := fz_st zs0 ew5; replace zs1 := fz_st zs1 ew5; replace zs2 := fz_st zs2 ew5; replace hg := cl_st hg ew5 (by simp <;> omega); replace ht := cl_st ht ew5 (by first | (intro e; simp at e; done) | (intro e; simp at e; omega) | (intro e; have e1 := congrArg Addr.block e; dsimp only at e1; omega)); replace hb0 := cl_st hb0 ew5 (by simp <;> omega); replace hs0 := cl_st hs0 ew5 (by simp <;> omega); replace hs1 := cl_st hs1 ew5 (by simp <;> omega); replace hs2 := cl_st' hs2 ew5; replace kp := kp.stN ew5 (by first | (left; simp; done) | (right; left; simp; done) | (right; right; dsimp only; omega)); refine F.esr ?_; simp only [rg, Nat.reduceAdd]; refine F.ol rfl rfl rfl fun d K hK => ?_
  go_simp; refine hK _ (fun e hm => ?_) ?_
  · simp [go_sem, *] at hm
    rcases hm with rfl | rfl | rfl <;> exact evr (w := w5) (by assumption) (by first | assumption | (apply hfr <;> dsimp only <;> omega))
  clear hK K d; try walk_nrm
  refine F.ext0c rfl rfl (by decide) rfl Tryz.func93 (by kernel_rfl) (by kernel_rfl) (by kernel_rfl) (by kernel_rfl) (x := ReflectliteValue.methodAny (ReflectliteValue.valueError "reflectlite.Value.Type" 0) (fun t _ _ _ => ReflectliteType.toType t)) (fun d => by walk_nrm; exact vt170 _ _) (fun d es => by walk_nrm; exact vt170e _ _ _) ?_; walk_nrm; refine F.oq rfl rfl rfl (by simp [go_sem]) fun d K h => ?_; go_simp; refine h _ ?_; clear h K d; try walk_nrm
  refine F.es ?_; refine F.sr ?_; simp only [rg, Nat.reduceAdd]; refine F.oq rfl rfl rfl (by simp [go_sem]) fun d K h => ?_; go_simp; refine h _ ?_; clear h K d; try walk_nrm
  refine F.ext0m rfl rfl (by decide) rfl rfl (mKind _) (mKinde _) Tryz.func140 (by kernel_rfl) (by kernel_rfl) (by kernel_rfl) (by kernel_rfl) (x := ReflectliteType.abiMethod fun t => do pure (.int .u8 (← Rtype.kind t))) (fun d => by walk_nrm; exact kind170 _) (fun d es => by walk_nrm; exact kind170e _ _) ?_; walk_nrm; iterate 2 (refine F.oq rfl rfl rfl (by simp [go_sem]) fun d K h => ?_; go_simp; refine h _ ?_; clear h K d; try walk_nrm)
  refine F.ol rfl rfl rfl fun d K hK => ?_
  go_simp; refine hK _ (fun e hm => ?_) ?_
  · simp [go_sem, *] at hm
    rcases hm with rfl | rfl | rfl <;> exact evr (w := w5) (by assumption) (by first | assumption | (apply hfr <;> dsimp only <;> omega))
  clear hK K d; try walk_nrm
  refine F.extc rfl rfl (by decide) rfl Tryz.func94 (by kernel_rfl) (by kernel_rfl) (by kernel_rfl) (by kernel_rfl) (x := ReflectliteValue.method (ReflectliteValue.valueError "reflectlite.Value.IsNil" 0) ReflectliteValue.isNil) (w' := w5) (E := #[⟨.cell ⟨n1, 0, none⟩, false, false⟩]) (fun d => by walk_nrm; exact isNil170 _ t _ hb0) (fun d es => by walk_nrm; exact isNil170e _ t _ _ hb0) (fun d es hes => DX.still _ fun e he => ?_) ?_
  · have hm := hes e he
    simp at hm
    subst hm; exact .inl ⟨_, rfl, rfl, hfr _ _ (by dsimp only; omega), lt_of_cell (w := w5) hb0⟩
  walk_nrm; refine F.oq rfl rfl rfl (by simp [go_sem]) fun d K h => ?_; go_simp; refine h _ ?_; clear h K d; try walk_nrm
  refine F.re ?_; refine F.cf rfl ?_; refine F.sk ?_; refine F.sr ?_; simp only [rg, Nat.reduceAdd]; refine F.oq rfl rfl rfl (by simp [go_sem]) fun d K h => ?_; go_simp; refine h _ ?_; clear h K d; try walk_nrm
  refine F.ext0m rfl rfl (by decide) rfl rfl (mElem _) (mEleme _) Tryz.func222 (by kernel_rfl) (by kernel_rfl) (by kernel_rfl) (by kernel_rfl) (x := ReflectliteType.method ReflectliteType.elem) (fun d => by walk_nrm; exact elem170 _) (fun d es => by walk_nrm; exact elem170e _ _) ?_; walk_nrm; refine F.oq rfl rfl rfl (by simp [go_sem]) fun d K h => ?_; go_simp; refine h _ ?_; clear h K d; try walk_nrm
  refine F.es ?_; refine F.sr ?_; simp only [rg, Nat.reduceAdd]; refine F.oq rfl rfl rfl (by simp [go_sem]) fun d K h => ?_; go_simp; refine h _ ?_; clear h K d; try walk_nrm
  refine F.ext0m rfl rfl (by decide) rfl rfl (mKind _) (mKinde _) Tryz.func140 (by kernel_rfl) (by kernel_rfl) (by kernel_rfl) (by kernel_rfl) (x := ReflectliteType.abiMethod fun t => do pure (.int .u8 (← Rtype.kind t))) (fun d => by walk_nrm; exact kind168 _) (fun d es => by walk_nrm; exact kind168e _ _) ?_; walk_nrm; iterate 3 (refine F.oq rfl rfl rfl (by simp [go_sem]) fun d K h => ?_; go_simp; refine h _ ?_; clear h K d; try walk_nrm)
  refine F.ol rfl rfl rfl fun d K h => ?_; go_simp; refine h _ (fun e m => ?_) ?_; simp [go_sem, *] at m; subst m; exact evr (w := w5) (by assumption) (by first | assumption | (apply hfr <;> dsimp only <;> omega)); clear h K d; try walk_nrm
  refine F.ext0m rfl rfl (by decide) rfl rfl (mImpl _) (mImple _) Tryz.func223 (by kernel_rfl) (by kernel_rfl) (by kernel_rfl) (by kernel_rfl) (x := ReflectliteType.relation "Implements" ReflectliteType.implements_) (fun d => by walk_nrm; exact impl168 _) (fun d es => by walk_nrm; exact impl168e _ _) ?_; walk_nrm; iterate 2 (refine F.oq rfl rfl rfl (by simp [go_sem]) fun d K h => ?_; go_simp; refine h _ ?_; clear h K d; try walk_nrm)
  refine F.re ?_; refine F.cf rfl ?_; refine F.sk ?_; refine F.sr ?_; simp only [rg, Nat.reduceAdd]; iterate 2 (refine F.oq rfl rfl rfl (by simp [go_sem]) fun d K h => ?_; go_simp; refine h _ ?_; clear h K d; try walk_nrm)
  refine F.ol rfl rfl rfl fun d K hK => ?_
  go_simp; refine hK _ (fun e hm => ?_) ?_
  · simp [go_sem, *] at hm
    rcases hm with rfl | rfl | rfl <;> exact evr (w := w5) (by assumption) (by first | assumption | (apply hfr <;> dsimp only <;> omega))
  clear hK K d; try walk_nrm
  refine F.oq rfl rfl rfl (by simp [go_sem]) fun d K h => ?_; go_simp; refine h _ ?_; clear h K d; try walk_nrm
  refine F.enter rfl rfl (by decide) (fun _ => run_call_body rfl Tryz.func95 (by rfl) (by rfl)) (fun _ => events_call_body rfl Tryz.func95 (by rfl) (by rfl) _) ?_; walk_nrm; refine as_x n1 e t _ _ hb0 ht zt (hfr _ _ (by dsimp only; omega)) oT (fun a wr h => hfr a wr (by omega)) (by omega) _ F _ _ (fun v w6 hp => ?_); obtain ⟨rfl, k6, ht6, zt6⟩ := hp; rw [Frame.finish_at]; try walk_nrm
  refine F.oq rfl rfl rfl (by simp [go_sem]) fun d K h => ?_; go_simp; refine h _ ?_; clear h K d; try walk_nrm
  refine F.re ?_; refine F.ctl (fun _ => stepG_ret') ?_; refine F.leave rfl rfl Tryz.func65 (resultsC_tmp (by rfl) _) ?_; exact hc _ _ ⟨rfl, kp.callN k6 (by simp) (by simp), ht6, zt6⟩
end
end Go.Proofs.YtobagnjnbmgidaaGreatDoor
