/- Entries without a body; errors.Is. -/
import Derived.Test.YtobagnjnbmgidaaGreatDoorX14
set_option linter.unusedSimpArgs false
set_option linter.unusedVariables false
namespace Go.Proofs.YtobagnjnbmgidaaGreatDoor
open Go.Conc Go.RowKit Go.Extern
variable {Ok : Addr → Bool → Prop} {main : Bool}

/-- What a listing leaves out, whatever came ahead of it: the mark of an entry without a body. -/
def Drops (e : Event) : Prop := ∀ (quiet : FuncId → Bool) (q : Bool) (kept : Array Event), (seenStep quiet (q, kept) e).2 = kept
theorem seen_push (quiet : FuncId → Bool) (q : Bool) (kept : Array Event) (a e : Event) (h : e ∈ (seenStep quiet (q, kept) a).2) : e ∈ kept ∨ (e = a ∧ ¬ Drops a) := by
  by_cases hk : (seenStep quiet (q, kept) a).2 = kept
  · rw [hk] at h
    exact .inl h
  have hd : ¬ Drops a := fun z => hk (z quiet q kept)
  simp only [seenStep] at h
  split at h
  · exact .inl h
  · split at h
    · exact .inl h
    · rcases Array.mem_push.1 h with h | h
      · exact .inl h
      · exact .inr ⟨h, hd⟩
theorem seen_noext (quiet : FuncId → Bool) : ∀ (l : List Event) (x : Bool × Array Event) (e : Event), e ∈ (l.foldl (seenStep quiet) x).2 → e ∈ x.2 ∨ ¬ Drops e := by
  intro l
  induction l with
  | nil => exact fun _ _ h => .inl h
  | cons a l ih =>
    intro x e h
    rcases ih _ _ h with h | h
    · rcases seen_push quiet x.1 x.2 a e h with h | ⟨rfl, h⟩
      · exact .inl h
      · exact .inr h
    · exact .inr h
theorem mem_listed2 {P : Program} {fn : FuncId} {a : Act} {o : Oper} {w : World} {e : Event} (h : e ∈ listed P fn a o w) : e ∈ (execOp a.eval o).events P w #[] ∧ ¬ Drops e := by
  refine ⟨mem_listed h, ?_⟩
  unfold listed at h
  rw [seen_def] at h
  rcases seen_noext _ _ (_, #[]) e h with h | h
  · simp at h
  · exact h

section
variable {P : Program} {D : World → World → Array Event → Prop} {Ψ : Goroutine → World → Prop} {b : Frame} {a : Act} {k : List Item} {cs : List Frame} {w : World} {ops : Array Oper} {i : Nat} {rest : List Nat} {o : Oper} {f : FuncId} {fn : Func} {x : Array Value → Sem Value} {v : Value}

theorem exec_ext {args : Array Operand} {ats : Array TypeId} (hop : o.op = .call { callee := .value (.func f), args, argTypes := ats }) : execOp a.eval o = callFunc f (args.map a.eval) := by
  have ef : a.eval (.func f) = .func (.func f) #[] #[] := rfl
  unfold execOp
  simp [hop, resolve, Deferred.ofValue, invoke, ef]

/-- An entry without a body that leaves the world as it is and lists nothing. -/
theorem Fut.ext0 (F : Fut P main D Ψ) (ho : ops[i]? = some o) (hw : Region.wanted o (yielded ops a.tmps) = true) (hk : b.kind ≠ .early) (hr : ∀ d, (execOp a.eval o).run P (w.at d) = .ok (.value v) (w.at d)) (he : ∀ d, ∀ e ∈ (execOp a.eval o).events P (w.at d) #[], Drops e)
    (h : Ψ (G (b.at (a.put o.dst v) (.inRegion ops rest :: k)) cs) w) : Ψ (G (b.at a (.inRegion ops (i :: rest) :: k)) cs) w :=
  F.step _ _ rfl fun d => by
    have hl : listed P b.fn a o (w.at d) = #[] := by
      rw [Array.eq_empty_iff_forall_not_mem]
      intro e hm
      obtain ⟨h1, h2⟩ := mem_listed2 hm
      exact h2 (he d e h1)
    rw [stepG_value ho hw hk (hr d), hl]
    exact ⟨F.idle _ _, F.at' _ _ _ h⟩

theorem Fut.ext0c (F : Fut P main D Ψ) (ho : ops[i]? = some o) (hw : Region.wanted o (yielded ops a.tmps) = true) (hk : b.kind ≠ .early) {args : Array Operand} {ats : Array TypeId} (hop : o.op = .call { callee := .value (.func f), args, argTypes := ats })
    (hf : P.funcs[f]? = some fn) (hname : (fn.name == "runtime.NumGoroutine") = false) (hb : fn.body.isNone = true) (hn : Extern.findNext fn = none) (he : Extern.find fn = some x)
    (hr : ∀ d, (x (args.map a.eval)).run P (w.at d) = .ok v (w.at d)) (hev : ∀ d es, (x (args.map a.eval)).events P (w.at d) es = es)
    (h : Ψ (G (b.at (a.put o.dst v) (.inRegion ops rest :: k)) cs) w) : Ψ (G (b.at a (.inRegion ops (i :: rest) :: k)) cs) w :=
  F.ext0 ho hw hk (v := v) (fun d => by rw [exec_ext hop, run_callFunc_extern hf hname hb hn he, hr d]; rfl) (fun d e hm => by
    rw [exec_ext hop, events_callFunc_extern hf hname hb hn he, hev] at hm
    simp at hm
    rw [hm]
    exact fun _ _ _ => rfl) h

theorem Fut.ext0m (F : Fut P main D Ψ) (ho : ops[i]? = some o) (hw : Region.wanted o (yielded ops a.tmps) = true) (hk : b.kind ≠ .early) {r : Operand} {nm : String} {args : Array Operand} {ats : Array TypeId} (hop : o.op = .call { callee := .invoke r nm, args, argTypes := ats })
    {t : TypeId} {rv rc : Value} (hrv : a.eval r = .iface t rv) (hm : ∀ W : World, (Go.method (P.types.size + Made.depth) t rv nm).run P W = .ok (f, rc) W) (hme : ∀ (W : World) es, (Go.method (P.types.size + Made.depth) t rv nm).events P W es = es)
    (hf : P.funcs[f]? = some fn) (hname : (fn.name == "runtime.NumGoroutine") = false) (hb : fn.body.isNone = true) (hn : Extern.findNext fn = none) (he : Extern.find fn = some x)
    (hr : ∀ d, (x (#[rc] ++ args.map a.eval)).run P (w.at d) = .ok v (w.at d)) (hev : ∀ d es, (x (#[rc] ++ args.map a.eval)).events P (w.at d) es = es)
    (h : Ψ (G (b.at (a.put o.dst v) (.inRegion ops rest :: k)) cs) w) : Ψ (G (b.at a (.inRegion ops (i :: rest) :: k)) cs) w := by
  have e1 : execOp a.eval o = callMethod (.iface t rv) nm (args.map a.eval) := by
    unfold execOp
    simp [hop, resolve, Deferred.ofValue, Go.invoke, hrv]
    rw [Array.getElem?_append_left (by simp)]
    simp [Array.extract_eq_self_of_le]
  have e2 : ∀ W : World, (callMethod (.iface t rv) nm (args.map a.eval)).run P W = (callFunc f (#[rc] ++ args.map a.eval)).run P W := fun W => by
    simp only [callMethod, Sem.run_bind, run_program, Result.andThen_ok, hm]
  have e3 : ∀ (W : World) es, (callMethod (.iface t rv) nm (args.map a.eval)).events P W es = (callFunc f (#[rc] ++ args.map a.eval)).events P W es := fun W es => by
    simp only [callMethod, Sem.events_bind, run_program, events_program, Result.evThen_ok, hm, hme]
  exact F.ext0 ho hw hk (v := v) (fun d => by rw [e1, e2, run_callFunc_extern hf hname hb hn he, hr d]; rfl) (fun d e hx => by
    rw [e1, e3, events_callFunc_extern hf hname hb hn he, hev] at hx
    simp at hx
    rw [hx]
    exact fun _ _ _ => rfl) h

/-- A call by an interface whose method has a body. -/
theorem Fut.invoke (F : Fut P main D Ψ) (ho : ops[i]? = some o) (hw : Region.wanted o (yielded ops a.tmps) = true) (hk : b.kind ≠ .early) {r : Operand} {nm : String} {args : Array Operand} {ats : Array TypeId} (hop : o.op = .call { callee := .invoke r nm, args, argTypes := ats })
    {t : TypeId} {rv rc : Value} (hrv : a.eval r = .iface t rv) (hm : ∀ W : World, (Go.method (P.types.size + Made.depth) t rv nm).run P W = .ok (f, rc) W) (hme : ∀ (W : World) es, (Go.method (P.types.size + Made.depth) t rv nm).events P W es = es)
    (hf : P.funcs[f]? = some fn) (hname : (fn.name == "runtime.NumGoroutine") = false) (hb : fn.body.isNone = false)
    (h : Ψ (G (Frame.enter P f (#[rc] ++ args.map a.eval) .normal) (b.at a (.inRegion ops (i :: rest) :: k) :: cs)) w) : Ψ (G (b.at a (.inRegion ops (i :: rest) :: k)) cs) w := by
  have h1 : ¬ fn.name = "runtime.NumGoroutine" := by simpa using hname
  have h2 : ¬ fn.body = none := by cases hx : fn.body <;> simp_all
  have e1 : execOp a.eval o = callMethod (.iface t rv) nm (args.map a.eval) := by
    unfold execOp
    simp [hop, resolve, Deferred.ofValue, Go.invoke, hrv]
    rw [Array.getElem?_append_left (by simp)]
    simp [Array.extract_eq_self_of_le]
  refine F.enter ho hw hk (fun d => ?_) (fun d => ?_) h
  · rw [e1]
    simp [callMethod, hm, callFunc, hf, h1, h2]
  · rw [e1]
    simp [callMethod, hm, hme, callFunc, hf, h1, h2]
end

/-! ### Closed facts at this program's types. 168: *Link, 171: Kind, 170: **Link, 217: rtype, 121: error -/
theorem ty171 (v : Value) (w : World) : (ReflectliteType.typeOf #[.iface 171 v]).run Tryz.prog w = .ok (.iface 217 (.agg #[.pointer (some ⟨1, 171, none⟩)])) w := by kernel_rfl
theorem ty171e (v : Value) (w : World) (es : Array Event) : (ReflectliteType.typeOf #[.iface 171 v]).events Tryz.prog w es = es := by kernel_rfl
theorem mComparable (h : Value) (w : World) : (Go.method (Tryz.prog.types.size + Made.depth) 217 (.agg #[h]) "Comparable").run Tryz.prog w = .ok (221, .agg #[h]) w := by kernel_rfl
theorem mComparablee (h : Value) (w : World) (es : Array Event) : (Go.method (Tryz.prog.types.size + Made.depth) 217 (.agg #[h]) "Comparable").events Tryz.prog w es = es := by kernel_rfl
theorem comp171 (w : World) : ((ReflectliteType.method fun t => do Rtype.noPackHeld "Comparable" t; pure (.bool (← typeInfo t).comparable)) #[.agg #[.pointer (some ⟨1, 171, none⟩)]]).run Tryz.prog w = .ok (.bool true) w := by kernel_rfl
theorem comp171e (w : World) (es : Array Event) : ((ReflectliteType.method fun t => do Rtype.noPackHeld "Comparable" t; pure (.bool (← typeInfo t).comparable)) #[.agg #[.pointer (some ⟨1, 171, none⟩)]]).events Tryz.prog w es = es := by kernel_rfl
theorem mIs (p : Value) (w : World) : (Go.method (Tryz.prog.types.size + Made.depth) 168 p "Is").run Tryz.prog w = .ok (213, p) w := by kernel_rfl
theorem mIse (p : Value) (w : World) (es : Array Event) : (Go.method (Tryz.prog.types.size + Made.depth) 168 p "Is").events Tryz.prog w es = es := by kernel_rfl
theorem mUnwrap (p : Value) (w : World) : (Go.method (Tryz.prog.types.size + Made.depth) 168 p "Unwrap").run Tryz.prog w = .ok (214, p) w := by kernel_rfl
theorem mUnwrape (p : Value) (w : World) (es : Array Event) : (Go.method (Tryz.prog.types.size + Made.depth) 168 p "Unwrap").events Tryz.prog w es = es := by kernel_rfl
theorem mEnter138 (p : Value) (w : World) : (Go.method (Tryz.prog.types.size + Made.depth) 138 p "Enter").run Tryz.prog w = .ok (146, p) w := by kernel_rfl
theorem mEnter138e (p : Value) (w : World) (es : Array Event) : (Go.method (Tryz.prog.types.size + Made.depth) 138 p "Enter").events Tryz.prog w es = es := by kernel_rfl
theorem mEnter141 (p : Value) (w : World) : (Go.method (Tryz.prog.types.size + Made.depth) 141 p "Enter").run Tryz.prog w = .ok (156, p) w := by kernel_rfl
theorem mEnter141e (p : Value) (w : World) (es : Array Event) : (Go.method (Tryz.prog.types.size + Made.depth) 141 p "Enter").events Tryz.prog w es = es := by kernel_rfl

end Go.Proofs.YtobagnjnbmgidaaGreatDoor

/-! errors.Is. -/
namespace Go.Proofs.YtobagnjnbmgidaaGreatDoor
open Go.Conc Go.RowKit Go.Extern
variable {Ok : Addr → Bool → Prop} {main : Bool}

set_option maxRecDepth 100000 in
theorem unwrap_x (q : Nat) (v0 : Value) (w0 : World) (h0 : w0.cell? ⟨q, 3, none⟩ = some v0) (o1 : Ok ⟨q, 3, none⟩ false) :
    CallsX Tryz.prog main (DX Ok) 214 #[.pointer (some ⟨q, 0, none⟩)] w0 fun v w' => v = v0 ∧ w' = w0 := by
  intro Ψ F c cs hc
  rw [enter_at _ Tryz.func214 rfl]
  simp only [Tryz.ntmps214, List.size_toArray, List.length_cons, List.length_nil, Nat.reduceAdd, Nat.reduceSub, Array.replicate_succ, Array.replicate_zero, List.push_toArray, List.append_toArray, List.nil_append, List.cons_append]
  refine F.sr ?_
  simp only [rg, Nat.reduceAdd]
  refine F.oq rfl rfl rfl (fun _ => by simp [go_sem]) fun d K hK => ?_; go_simp; refine hK _ ?_; clear hK K d; try walk_nrm
  refine F.esr ?_
  simp only [rg, Nat.reduceAdd]
  iterate 3 (refine F.oq rfl rfl rfl (fun _ => by simp [go_sem]) fun d K hK => ?_; go_simp; refine hK _ ?_; clear hK K d; try walk_nrm)
  refine F.ol rfl rfl rfl fun d K hK => ?_
  go_simp
  refine hK _ (fun e hm => ?_) ?_
  · simp [go_sem, *] at hm
    subst hm
    exact evr (w := w0) (by assumption) (by first | assumption | (apply hfr <;> dsimp only <;> omega))
  clear hK K d
  try walk_nrm
  refine F.oq rfl rfl rfl (fun _ => by simp [go_sem]) fun d K hK => ?_; go_simp; refine hK _ ?_; clear hK K d; try walk_nrm
  refine F.re ?_
  refine F.ctl (fun _ => stepG_ret') ?_
  refine F.leave rfl rfl Tryz.func214 (resultsC_tmp (by rfl) _) ?_
  exact hc _ _ ⟨rfl, rfl⟩
theorem evEqP (p : Value) (t : Int) (w : World) : (binOp .eql 121 (.iface 168 p) (.iface 171 (.int .i64 t))).events Tryz.prog w #[] = #[] := by kernel_rfl
theorem evNil (t : TypeId) (p : Value) (w : World) : (binOp .eql 121 (.iface t p) .nilIface).events Tryz.prog w #[] = #[] := by kernel_rfl
theorem evNil20 (t : TypeId) (p : Value) (w : World) : (binOp .eql 20 (.iface t p) .nilIface).events Tryz.prog w #[] = #[] := by kernel_rfl
theorem evNN (w : World) : (binOp .eql 121 .nilIface .nilIface).events Tryz.prog w #[] = #[] := by kernel_rfl
theorem taIs (p : Value) (w : World) : (Instr.typeAssert (.iface 168 p) 121 269 true).run Tryz.prog w = .ok (.tuple #[.iface 168 p, .bool true]) w := by kernel_rfl
theorem taUn (p : Value) (w : World) : (Instr.typeAssert (.iface 168 p) 121 225 true).run Tryz.prog w = .ok (.tuple #[.iface 168 p, .bool true]) w := by kernel_rfl
theorem taUne (w : World) (p : Value) : (Instr.typeAssert (.iface 168 p) 121 225 true).events Tryz.prog w #[] = #[] := by kernel_rfl
theorem fI (w : World) (p : Value) : (Instr.typeAssert (.iface 168 p) 121 269 true).events Tryz.prog w #[] = #[] := by kernel_rfl

theorem evEq2 (w : World) : (binOp .eql 121 (.iface 171 (.int .i64 2)) (.iface 171 (.int .i64 1))).events Tryz.prog w #[] = #[] := by kernel_rfl
set_option maxRecDepth 100000 in
theorem linkIs2_x (q : Nat) (w0 : World) (h0 : w0.cell? ⟨q, 0, none⟩ = some (.int .i64 1)) (o1 : Ok ⟨q, 0, none⟩ false) :
    CallsX Tryz.prog main (DX Ok) 213 #[.pointer (some ⟨q, 0, none⟩), .iface 171 (.int .i64 2)] w0 fun v w' => v = .bool false ∧ w' = w0 := by
  intro Ψ F c cs hc
  rw [enter_at _ Tryz.func213 rfl]
  simp only [Tryz.ntmps213, List.size_toArray, List.length_cons, List.length_nil, Nat.reduceAdd, Nat.reduceSub, Array.replicate_succ, Array.replicate_zero, List.push_toArray, List.append_toArray, List.nil_append, List.cons_append]
  refine F.sr ?_
  simp only [rg, Nat.reduceAdd]
  refine F.oq rfl rfl rfl (fun _ => by simp [go_sem]) fun d K hK => ?_; go_simp; refine hK _ ?_; clear hK K d; try walk_nrm
  refine F.esr ?_
  simp only [rg, Nat.reduceAdd]
  iterate 4 (refine F.oq rfl rfl rfl (fun _ => by simp [go_sem]) fun d K hK => ?_; go_simp; refine hK _ ?_; clear hK K d; try walk_nrm)
  refine F.ol rfl rfl rfl fun d K hK => ?_
  go_simp
  refine hK _ (fun e hm => ?_) ?_
  · simp [go_sem, *] at hm
    subst hm
    exact evr (w := w0) (by assumption) (by first | assumption | (apply hfr <;> dsimp only <;> omega))
  clear hK K d
  try walk_nrm
  refine F.oq rfl rfl rfl (fun _ => by first | (simp [go_sem]; done) | simp [go_sem, Instr.makeInterface, Instr.makeFunc, *]) fun d K hK => ?_; go_simp; refine hK _ ?_; clear hK K d; try walk_nrm
  have evE := evEq2
  iterate 2 (refine F.oq rfl rfl rfl (fun _ => by first | (simp [go_sem]; done) | simp [go_sem, Instr.makeInterface, Instr.makeFunc, *]) fun d K hK => ?_; go_simp; refine hK _ ?_; clear hK K d; try walk_nrm)
  refine F.re ?_
  refine F.ctl (fun _ => stepG_ret') ?_
  refine F.leave rfl rfl Tryz.func213 (resultsC_tmp (by rfl) _) ?_
  exact hc _ _ ⟨rfl, rfl⟩

set_option maxRecDepth 100000 in
set_option maxHeartbeats 4000000 in
theorem is2_x (q : Nat) (w0 : World) (h0 : w0.cell? ⟨q, 0, none⟩ = some (.int .i64 1)) (h3 : w0.cell? ⟨q, 3, none⟩ = some .nilIface) (o1 : Ok ⟨q, 0, none⟩ false) (o3 : Ok ⟨q, 3, none⟩ false) :
    CallsX Tryz.prog main (DX Ok) 164 #[.iface 168 (.pointer (some ⟨q, 0, none⟩)), .iface 171 (.int .i64 2), .bool true] w0 fun v w' => v = .bool false ∧ w' = w0 := by
  intro Ψ F c cs hc
  rw [enter_at _ Tryz.func164 rfl]
  simp only [Tryz.ntmps164, List.size_toArray, List.length_cons, List.length_nil, Nat.reduceAdd, Nat.reduceSub, Array.replicate_succ, Array.replicate_zero, List.push_toArray, List.append_toArray, List.nil_append, List.cons_append]
  have evE := evEqP
  have t1 := taIs
  have t2 := taUn
  have t3 := taUne
  have t4 := fI
  have t5 := evNil
  have t6 := evNN
  refine F.sr ?_
  simp only [rg, Nat.reduceAdd]
  refine F.oq rfl rfl rfl (fun _ => by simp [go_sem]) fun d K hK => ?_; go_simp; refine hK _ ?_; clear hK K d; try walk_nrm
  refine F.re ?_
  refine F.bl ?_
  refine F.ctl (fun _ => stepG_loop) ?_
  refine F.bl ?_
  refine F.sq ?_
  refine F.sr ?_
  simp only [rg, Nat.reduceAdd]
  iterate 6 (refine F.oq rfl rfl rfl (fun _ => by first | (simp [go_sem]; done) | simp [go_sem, Instr.makeInterface, Instr.makeFunc, *]) fun d K hK => ?_; go_simp; refine hK _ ?_; clear hK K d; try walk_nrm)
  refine F.re ?_
  refine F.cf rfl ?_
  refine F.sk ?_
  refine F.sq ?_
  refine F.sr ?_
  simp only [rg, Nat.reduceAdd]
  iterate 7 (refine F.oq rfl rfl rfl (fun _ => by first | (simp [go_sem]; done) | simp [go_sem, Instr.makeInterface, Instr.makeFunc, *]) fun d K hK => ?_; go_simp; refine hK _ ?_; clear hK K d; try walk_nrm)
  refine F.esr ?_
  simp only [rg, Nat.reduceAdd]
  iterate 4 (refine F.oq rfl rfl rfl (fun _ => by simp [go_sem]) fun d K hK => ?_; go_simp; refine hK _ ?_; clear hK K d; try walk_nrm)
  refine F.invoke rfl rfl (by decide) rfl rfl (mIs _) (mIse _) Tryz.func213 (by rfl) (by rfl) ?_
  walk_nrm
  refine linkIs2_x q w0 h0 o1 _ F _ _ (fun v wq hp => ?_)
  obtain ⟨rfl, hq⟩ := hp
  have hq := hq.symm
  subst hq
  rw [Frame.finish_at]
  try walk_nrm
  refine F.oq rfl rfl rfl (fun _ => by simp [go_sem]) fun d K hK => ?_; go_simp; refine hK _ ?_; clear hK K d; try walk_nrm
  refine F.re ?_
  refine F.cf rfl ?_
  refine F.sk ?_
  refine F.sr ?_
  simp only [rg, Nat.reduceAdd]
  refine F.oq rfl rfl rfl (fun _ => by simp [go_sem]) fun d K hK => ?_; go_simp; refine hK _ ?_; clear hK K d; try walk_nrm
  refine F.re ?_
  refine F.bl ?_
  refine F.sr ?_
  simp only [rg, Nat.reduceAdd]
  iterate 3 (refine F.oq rfl rfl rfl (fun _ => by first | (simp [go_sem]; done) | simp [go_sem, Instr.makeInterface, Instr.makeFunc, *]) fun d K hK => ?_; go_simp; refine hK _ ?_; clear hK K d; try walk_nrm)
  refine F.re ?_
  refine F.ct rfl ?_
  refine F.sr ?_
  simp only [rg, Nat.reduceAdd]
  refine F.oq rfl rfl rfl (fun _ => by simp [go_sem]) fun d K hK => ?_; go_simp; refine hK _ ?_; clear hK K d; try walk_nrm
  refine F.esr ?_
  simp only [rg, Nat.reduceAdd]
  refine F.oq rfl rfl rfl (fun _ => by simp [go_sem]) fun d K hK => ?_; go_simp; refine hK _ ?_; clear hK K d; try walk_nrm
  refine F.invoke rfl rfl (by decide) rfl rfl (mUnwrap _) (mUnwrape _) Tryz.func214 (by rfl) (by rfl) ?_
  walk_nrm
  refine unwrap_x q .nilIface w0 h3 o3 _ F _ _ (fun v wq hp => ?_)
  obtain ⟨rfl, hq⟩ := hp
  have hq := hq.symm
  subst hq
  rw [Frame.finish_at]
  try walk_nrm
  refine F.oq rfl rfl rfl (fun _ => by simp [go_sem]) fun d K hK => ?_; go_simp; refine hK _ ?_; clear hK K d; try walk_nrm
  refine F.esr ?_
  simp only [rg, Nat.reduceAdd]
  iterate 2 (refine F.oq rfl rfl rfl (fun _ => by first | (simp [go_sem]; done) | simp [go_sem, Instr.makeInterface, Instr.makeFunc, *]) fun d K hK => ?_; go_simp; refine hK _ ?_; clear hK K d; try walk_nrm)
  refine F.re ?_
  refine F.ct rfl ?_
  refine F.sr ?_
  simp only [rg, Nat.reduceAdd]
  refine F.oq rfl rfl rfl (fun _ => by simp [go_sem]) fun d K hK => ?_; go_simp; refine hK _ ?_; clear hK K d; try walk_nrm
  refine F.re ?_
  refine F.ctl (fun _ => stepG_ret') ?_
  refine F.leave rfl rfl Tryz.func164 (resultsC_tmp (by rfl) _) ?_
  exact hc _ _ ⟨rfl, rfl⟩

set_option maxRecDepth 100000 in
set_option maxHeartbeats 4000000 in
theorem errIs2_x (q : Nat) (w0 : World) (h0 : w0.cell? ⟨q, 0, none⟩ = some (.int .i64 1)) (h3 : w0.cell? ⟨q, 3, none⟩ = some .nilIface) (o1 : Ok ⟨q, 0, none⟩ false) (o3 : Ok ⟨q, 3, none⟩ false) :
    CallsX Tryz.prog main (DX Ok) 163 #[.iface 168 (.pointer (some ⟨q, 0, none⟩)), .iface 171 (.int .i64 2)] w0 fun v w' => v = .bool false ∧ w' = w0 := by
  intro Ψ F c cs hc
  rw [enter_at _ Tryz.func163 rfl]
  simp only [Tryz.ntmps163, List.size_toArray, List.length_cons, List.length_nil, Nat.reduceAdd, Nat.reduceSub, Array.replicate_succ, Array.replicate_zero, List.push_toArray, List.append_toArray, List.nil_append, List.cons_append]
  have t5 := evNil
  refine F.sr ?_
  simp only [rg, Nat.reduceAdd]
  refine F.oq rfl rfl rfl (fun _ => by simp [go_sem]) fun d K hK => ?_; go_simp; refine hK _ ?_; clear hK K d; try walk_nrm
  refine F.es ?_
  refine F.sr ?_
  simp only [rg, Nat.reduceAdd]
  iterate 6 (refine F.oq rfl rfl rfl (fun _ => by first | (simp [go_sem]; done) | simp [go_sem, Instr.makeInterface, Instr.makeFunc, *]) fun d K hK => ?_; go_simp; refine hK _ ?_; clear hK K d; try walk_nrm)
  refine F.re ?_
  refine F.cf rfl ?_
  refine F.sk ?_
  refine F.sr ?_
  simp only [rg, Nat.reduceAdd]
  refine F.oq rfl rfl rfl (fun _ => by simp [go_sem]) fun d K hK => ?_; go_simp; refine hK _ ?_; clear hK K d; try walk_nrm
  refine F.ext0c rfl rfl (by decide) rfl Tryz.func112 (by kernel_rfl) (by kernel_rfl) (by kernel_rfl) (by kernel_rfl) (x := ReflectliteType.typeOf) (fun d => by walk_nrm; exact ty171 _ _) (fun d es => by walk_nrm; exact ty171e _ _ _) ?_
  walk_nrm
  refine F.ext0m rfl rfl (by decide) rfl rfl (mComparable _) (mComparablee _) Tryz.func221 (by kernel_rfl) (by kernel_rfl) (by kernel_rfl) (by kernel_rfl) (x := ReflectliteType.method fun t => do Rtype.noPackHeld "Comparable" t; pure (.bool (← typeInfo t).comparable)) (fun d => by walk_nrm; exact comp171 _) (fun d es => by walk_nrm; exact comp171e _ _) ?_
  walk_nrm
  refine F.oq rfl rfl rfl (fun _ => by simp [go_sem]) fun d K hK => ?_; go_simp; refine hK _ ?_; clear hK K d; try walk_nrm
  refine F.esr ?_
  simp only [rg, Nat.reduceAdd]
  iterate 3 (refine F.oq rfl rfl rfl (fun _ => by simp [go_sem]) fun d K hK => ?_; go_simp; refine hK _ ?_; clear hK K d; try walk_nrm)
  refine F.enter rfl rfl (by decide) (fun _ => run_call_body rfl Tryz.func164 (by rfl) (by rfl)) (fun _ => events_call_body rfl Tryz.func164 (by rfl) (by rfl) _) ?_
  walk_nrm
  refine is2_x q w0 h0 h3 o1 o3 _ F _ _ (fun v wq hp => ?_)
  obtain ⟨rfl, hq⟩ := hp
  have hq := hq.symm
  subst hq
  rw [Frame.finish_at]
  try walk_nrm
  refine F.oq rfl rfl rfl (fun _ => by simp [go_sem]) fun d K hK => ?_; go_simp; refine hK _ ?_; clear hK K d; try walk_nrm
  refine F.re ?_
  refine F.ctl (fun _ => stepG_ret') ?_
  refine F.leave rfl rfl Tryz.func163 (resultsC_tmp (by rfl) _) ?_
  exact hc _ _ ⟨rfl, rfl⟩

theorem evEq5 (w : World) : (binOp .eql 121 (.iface 171 (.int .i64 5)) (.iface 171 (.int .i64 1))).events Tryz.prog w #[] = #[] := by kernel_rfl
set_option maxRecDepth 100000 in
theorem linkIs5_x (q : Nat) (w0 : World) (h0 : w0.cell? ⟨q, 0, none⟩ = some (.int .i64 1)) (o1 : Ok ⟨q, 0, none⟩ false) :
    CallsX Tryz.prog main (DX Ok) 213 #[.pointer (some ⟨q, 0, none⟩), .iface 171 (.int .i64 5)] w0 fun v w' => v = .bool false ∧ w' = w0 := by
  intro Ψ F c cs hc
  rw [enter_at _ Tryz.func213 rfl]
  simp only [Tryz.ntmps213, List.size_toArray, List.length_cons, List.length_nil, Nat.reduceAdd, Nat.reduceSub, Array.replicate_succ, Array.replicate_zero, List.push_toArray, List.append_toArray, List.nil_append, List.cons_append]
  refine F.sr ?_
  simp only [rg, Nat.reduceAdd]
  refine F.oq rfl rfl rfl (fun _ => by simp [go_sem]) fun d K hK => ?_; go_simp; refine hK _ ?_; clear hK K d; try walk_nrm
  refine F.esr ?_
  simp only [rg, Nat.reduceAdd]
  iterate 4 (refine F.oq rfl rfl rfl (fun _ => by simp [go_sem]) fun d K hK => ?_; go_simp; refine hK _ ?_; clear hK K d; try walk_nrm)
  refine F.ol rfl rfl rfl fun d K hK => ?_
  go_simp
  refine hK _ (fun e hm => ?_) ?_
  · simp [go_sem, *] at hm
    subst hm
    exact evr (w := w0) (by assumption) (by first | assumption | (apply hfr <;> dsimp only <;> omega))
  clear hK K d
  try walk_nrm
  refine F.oq rfl rfl rfl (fun _ => by first | (simp [go_sem]; done) | simp [go_sem, Instr.makeInterface, Instr.makeFunc, *]) fun d K hK => ?_; go_simp; refine hK _ ?_; clear hK K d; try walk_nrm
  have evE := evEq5
  iterate 2 (refine F.oq rfl rfl rfl (fun _ => by first | (simp [go_sem]; done) | simp [go_sem, Instr.makeInterface, Instr.makeFunc, *]) fun d K hK => ?_; go_simp; refine hK _ ?_; clear hK K d; try walk_nrm)
  refine F.re ?_
  refine F.ctl (fun _ => stepG_ret') ?_
  refine F.leave rfl rfl Tryz.func213 (resultsC_tmp (by rfl) _) ?_
  exact hc _ _ ⟨rfl, rfl⟩

set_option maxRecDepth 100000 in
set_option maxHeartbeats 4000000 in
theorem is5_x (q : Nat) (w0 : World) (h0 : w0.cell? ⟨q, 0, none⟩ = some (.int .i64 1)) (h3 : w0.cell? ⟨q, 3, none⟩ = some .nilIface) (o1 : Ok ⟨q, 0, none⟩ false) (o3 : Ok ⟨q, 3, none⟩ false) :
    CallsX Tryz.prog main (DX Ok) 164 #[.iface 168 (.pointer (some ⟨q, 0, none⟩)), .iface 171 (.int .i64 5), .bool true] w0 fun v w' => v = .bool false ∧ w' = w0 := by
  intro Ψ F c cs hc
  rw [enter_at _ Tryz.func164 rfl]
  simp only [Tryz.ntmps164, List.size_toArray, List.length_cons, List.length_nil, Nat.reduceAdd, Nat.reduceSub, Array.replicate_succ, Array.replicate_zero, List.push_toArray, List.append_toArray, List.nil_append, List.cons_append]
  have evE := evEqP
  have t1 := taIs
  have t2 := taUn
  have t3 := taUne
  have t4 := fI
  have t5 := evNil
  have t6 := evNN
  refine F.sr ?_
  simp only [rg, Nat.reduceAdd]
  refine F.oq rfl rfl rfl (fun _ => by simp [go_sem]) fun d K hK => ?_; go_simp; refine hK _ ?_; clear hK K d; try walk_nrm
  refine F.re ?_
  refine F.bl ?_
  refine F.ctl (fun _ => stepG_loop) ?_
  refine F.bl ?_
  refine F.sq ?_
  refine F.sr ?_
  simp only [rg, Nat.reduceAdd]
  iterate 6 (refine F.oq rfl rfl rfl (fun _ => by first | (simp [go_sem]; done) | simp [go_sem, Instr.makeInterface, Instr.makeFunc, *]) fun d K hK => ?_; go_simp; refine hK _ ?_; clear hK K d; try walk_nrm)
  refine F.re ?_
  refine F.cf rfl ?_
  refine F.sk ?_
  refine F.sq ?_
  refine F.sr ?_
  simp only [rg, Nat.reduceAdd]
  iterate 7 (refine F.oq rfl rfl rfl (fun _ => by first | (simp [go_sem]; done) | simp [go_sem, Instr.makeInterface, Instr.makeFunc, *]) fun d K hK => ?_; go_simp; refine hK _ ?_; clear hK K d; try walk_nrm)
  refine F.esr ?_
  simp only [rg, Nat.reduceAdd]
  iterate 4 (refine F.oq rfl rfl rfl (fun _ => by simp [go_sem]) fun d K hK => ?_; go_simp; refine hK _ ?_; clear hK K d; try walk_nrm)
  refine F.invoke rfl rfl (by decide) rfl rfl (mIs _) (mIse _) Tryz.func213 (by rfl) (by rfl) ?_
  walk_nrm
  refine linkIs5_x q w0 h0 o1 _ F _ _ (fun v wq hp => ?_)
  obtain ⟨rfl, hq⟩ := hp
  have hq := hq.symm
  subst hq
  rw [Frame.finish_at]
  try walk_nrm
  refine F.oq rfl rfl rfl (fun _ => by simp [go_sem]) fun d K hK => ?_; go_simp; refine hK _ ?_; clear hK K d; try walk_nrm
  refine F.re ?_
  refine F.cf rfl ?_
  refine F.sk ?_
  refine F.sr ?_
  simp only [rg, Nat.reduceAdd]
  refine F.oq rfl rfl rfl (fun _ => by simp [go_sem]) fun d K hK => ?_; go_simp; refine hK _ ?_; clear hK K d; try walk_nrm
  refine F.re ?_
  refine F.bl ?_
  refine F.sr ?_
  simp only [rg, Nat.reduceAdd]
  iterate 3 (refine F.oq rfl rfl rfl (fun _ => by first | (simp [go_sem]; done) | simp [go_sem, Instr.makeInterface, Instr.makeFunc, *]) fun d K hK => ?_; go_simp; refine hK _ ?_; clear hK K d; try walk_nrm)
  refine F.re ?_
  refine F.ct rfl ?_
  refine F.sr ?_
  simp only [rg, Nat.reduceAdd]
  refine F.oq rfl rfl rfl (fun _ => by simp [go_sem]) fun d K hK => ?_; go_simp; refine hK _ ?_; clear hK K d; try walk_nrm
  refine F.esr ?_
  simp only [rg, Nat.reduceAdd]
  refine F.oq rfl rfl rfl (fun _ => by simp [go_sem]) fun d K hK => ?_; go_simp; refine hK _ ?_; clear hK K d; try walk_nrm
  refine F.invoke rfl rfl (by decide) rfl rfl (mUnwrap _) (mUnwrape _) Tryz.func214 (by rfl) (by rfl) ?_
  walk_nrm
  refine unwrap_x q .nilIface w0 h3 o3 _ F _ _ (fun v wq hp => ?_)
  obtain ⟨rfl, hq⟩ := hp
  have hq := hq.symm
  subst hq
  rw [Frame.finish_at]
  try walk_nrm
  refine F.oq rfl rfl rfl (fun _ => by simp [go_sem]) fun d K hK => ?_; go_simp; refine hK _ ?_; clear hK K d; try walk_nrm
  refine F.esr ?_
  simp only [rg, Nat.reduceAdd]
  iterate 2 (refine F.oq rfl rfl rfl (fun _ => by first | (simp [go_sem]; done) | simp [go_sem, Instr.makeInterface, Instr.makeFunc, *]) fun d K hK => ?_; go_simp; refine hK _ ?_; clear hK K d; try walk_nrm)
  refine F.re ?_
  refine F.ct rfl ?_
  refine F.sr ?_
  simp only [rg, Nat.reduceAdd]
  refine F.oq rfl rfl rfl (fun _ => by simp [go_sem]) fun d K hK => ?_; go_simp; refine hK _ ?_; clear hK K d; try walk_nrm
  refine F.re ?_
  refine F.ctl (fun _ => stepG_ret') ?_
  refine F.leave rfl rfl Tryz.func164 (resultsC_tmp (by rfl) _) ?_
  exact hc _ _ ⟨rfl, rfl⟩

set_option maxRecDepth 100000 in
set_option maxHeartbeats 4000000 in
theorem errIs5_x (q : Nat) (w0 : World) (h0 : w0.cell? ⟨q, 0, none⟩ = some (.int .i64 1)) (h3 : w0.cell? ⟨q, 3, none⟩ = some .nilIface) (o1 : Ok ⟨q, 0, none⟩ false) (o3 : Ok ⟨q, 3, none⟩ false) :
    CallsX Tryz.prog main (DX Ok) 163 #[.iface 168 (.pointer (some ⟨q, 0, none⟩)), .iface 171 (.int .i64 5)] w0 fun v w' => v = .bool false ∧ w' = w0 := by
  intro Ψ F c cs hc
  rw [enter_at _ Tryz.func163 rfl]
  simp only [Tryz.ntmps163, List.size_toArray, List.length_cons, List.length_nil, Nat.reduceAdd, Nat.reduceSub, Array.replicate_succ, Array.replicate_zero, List.push_toArray, List.append_toArray, List.nil_append, List.cons_append]
  have t5 := evNil
  refine F.sr ?_
  simp only [rg, Nat.reduceAdd]
  refine F.oq rfl rfl rfl (fun _ => by simp [go_sem]) fun d K hK => ?_; go_simp; refine hK _ ?_; clear hK K d; try walk_nrm
  refine F.es ?_
  refine F.sr ?_
  simp only [rg, Nat.reduceAdd]
  iterate 6 (refine F.oq rfl rfl rfl (fun _ => by first | (simp [go_sem]; done) | simp [go_sem, Instr.makeInterface, Instr.makeFunc, *]) fun d K hK => ?_; go_simp; refine hK _ ?_; clear hK K d; try walk_nrm)
  refine F.re ?_
  refine F.cf rfl ?_
  refine F.sk ?_
  refine F.sr ?_
  simp only [rg, Nat.reduceAdd]
  refine F.oq rfl rfl rfl (fun _ => by simp [go_sem]) fun d K hK => ?_; go_simp; refine hK _ ?_; clear hK K d; try walk_nrm
  refine F.ext0c rfl rfl (by decide) rfl Tryz.func112 (by kernel_rfl) (by kernel_rfl) (by kernel_rfl) (by kernel_rfl) (x := ReflectliteType.typeOf) (fun d => by walk_nrm; exact ty171 _ _) (fun d es => by walk_nrm; exact ty171e _ _ _) ?_
  walk_nrm
  refine F.ext0m rfl rfl (by decide) rfl rfl (mComparable _) (mComparablee _) Tryz.func221 (by kernel_rfl) (by kernel_rfl) (by kernel_rfl) (by kernel_rfl) (x := ReflectliteType.method fun t => do Rtype.noPackHeld "Comparable" t; pure (.bool (← typeInfo t).comparable)) (fun d => by walk_nrm; exact comp171 _) (fun d es => by walk_nrm; exact comp171e _ _) ?_
  walk_nrm
  refine F.oq rfl rfl rfl (fun _ => by simp [go_sem]) fun d K hK => ?_; go_simp; refine hK _ ?_; clear hK K d; try walk_nrm
  refine F.esr ?_
  simp only [rg, Nat.reduceAdd]
  iterate 3 (refine F.oq rfl rfl rfl (fun _ => by simp [go_sem]) fun d K hK => ?_; go_simp; refine hK _ ?_; clear hK K d; try walk_nrm)
  refine F.enter rfl rfl (by decide) (fun _ => run_call_body rfl Tryz.func164 (by rfl) (by rfl)) (fun _ => events_call_body rfl Tryz.func164 (by rfl) (by rfl) _) ?_
  walk_nrm
  refine is5_x q w0 h0 h3 o1 o3 _ F _ _ (fun v wq hp => ?_)
  obtain ⟨rfl, hq⟩ := hp
  have hq := hq.symm
  subst hq
  rw [Frame.finish_at]
  try walk_nrm
  refine F.oq rfl rfl rfl (fun _ => by simp [go_sem]) fun d K hK => ?_; go_simp; refine hK _ ?_; clear hK K d; try walk_nrm
  refine F.re ?_
  refine F.ctl (fun _ => stepG_ret') ?_
  refine F.leave rfl rfl Tryz.func163 (resultsC_tmp (by rfl) _) ?_
  exact hc _ _ ⟨rfl, rfl⟩

set_option maxRecDepth 100000 in
set_option maxHeartbeats 4000000 in
theorem hopeless_x (q : Nat) (w0 : World) (h0 : w0.cell? ⟨q, 0, none⟩ = some (.int .i64 1)) (h3 : w0.cell? ⟨q, 3, none⟩ = some .nilIface) (o1 : Ok ⟨q, 0, none⟩ false) (o3 : Ok ⟨q, 3, none⟩ false) :
    CallsX Tryz.prog main (DX Ok) 158 #[.iface 168 (.pointer (some ⟨q, 0, none⟩))] w0 fun v w' => v = .bool false ∧ w' = w0 := by
  intro Ψ F c cs hc
  rw [enter_at _ Tryz.func158 rfl]
  simp only [Tryz.ntmps158, List.size_toArray, List.length_cons, List.length_nil, Nat.reduceAdd, Nat.reduceSub, Array.replicate_succ, Array.replicate_zero, List.push_toArray, List.append_toArray, List.nil_append, List.cons_append]
  refine F.sr ?_
  simp only [rg, Nat.reduceAdd]
  refine F.oq rfl rfl rfl (fun _ => by simp [go_sem]) fun d K hK => ?_; go_simp; refine hK _ ?_; clear hK K d; try walk_nrm
  refine F.esr ?_
  simp only [rg, Nat.reduceAdd]
  iterate 2 (refine F.oq rfl rfl rfl (fun _ => by first | (simp [go_sem]; done) | simp [go_sem, Instr.makeInterface, Instr.makeFunc, *]) fun d K hK => ?_; go_simp; refine hK _ ?_; clear hK K d; try walk_nrm)
  refine F.enter rfl rfl (by decide) (fun _ => run_call_body rfl Tryz.func163 (by rfl) (by rfl)) (fun _ => events_call_body rfl Tryz.func163 (by rfl) (by rfl) _) ?_
  walk_nrm
  refine errIs2_x q w0 h0 h3 o1 o3 _ F _ _ (fun v wq hp => ?_)
  obtain ⟨rfl, hq⟩ := hp
  have hq := hq.symm
  subst hq
  rw [Frame.finish_at]
  try walk_nrm
  iterate 3 (refine F.oq rfl rfl rfl (fun _ => by first | (simp [go_sem]; done) | simp [go_sem, Instr.makeInterface, Instr.makeFunc, *]) fun d K hK => ?_; go_simp; refine hK _ ?_; clear hK K d; try walk_nrm)
  refine F.enter rfl rfl (by decide) (fun _ => run_call_body rfl Tryz.func163 (by rfl) (by rfl)) (fun _ => events_call_body rfl Tryz.func163 (by rfl) (by rfl) _) ?_
  walk_nrm
  refine errIs5_x q w0 h0 h3 o1 o3 _ F _ _ (fun v wq hp => ?_)
  obtain ⟨rfl, hq⟩ := hp
  have hq := hq.symm
  subst hq
  rw [Frame.finish_at]
  try walk_nrm
  iterate 2 (refine F.oq rfl rfl rfl (fun _ => by simp [go_sem]) fun d K hK => ?_; go_simp; refine hK _ ?_; clear hK K d; try walk_nrm)
  refine F.re ?_
  refine F.ctl (fun _ => stepG_ret') ?_
  refine F.leave rfl rfl Tryz.func158 (resultsC_tmp (by rfl) _) ?_
  exact hc _ _ ⟨rfl, rfl⟩

end Go.Proofs.YtobagnjnbmgidaaGreatDoor

/-! Deferred closures in company. -/
namespace Go.Proofs.YtobagnjnbmgidaaGreatDoor
open Go.Conc Go.RowKit

/-- The deferred call of a closure. -/
def ccall (f : FuncId) (cap : Array Value) : Deferred := { target := .fn (.func f) cap, args := #[] }

section
variable {P : Program} {main : Bool} {D : World → World → Array Event → Prop} {Ψ : Goroutine → World → Prop} {b : Frame} {a : Act} {k : List Item} {cs : List Frame} {w : World} {ops : Array Oper} {i : Nat} {rest : List Nat} {o : Oper} {f : FuncId} {fn : Func} {cap : Array Value} {todo : List Item} {ds : List Deferred}

theorem stepG_deferC (ho : ops[i]? = some o) (hw : Region.wanted o (yielded ops a.tmps) = true) (hk : b.kind ≠ .early) (hro : b.roundOf = none) {r : Operand} {ats : Array TypeId} (hop : o.op = .defer { callee := .value r, args := #[], argTypes := ats }) (hr : a.eval r = .func (.func f) #[] cap) :
    stepG P main (G (b.at a (.inRegion ops (i :: rest) :: k)) cs) w = .go (G (b.at (Act.put ⟨a.tmps, ccall f cap :: a.defers⟩ o.dst undef) (.inRegion ops rest :: k)) cs) w #[] := by
  have h1 : (execOp a.eval o).run P w = .ok (.defer (ccall f cap)) w := by
    unfold execOp
    simp [hop, resolve, Deferred.ofValue, hr, ccall]
  have he : (execOp a.eval o).events P w #[] = #[] := by
    unfold execOp
    simp [hop, resolve, Deferred.ofValue, hr]
  have hfin : (b.at ⟨a.tmps, ccall f cap :: a.defers⟩ (.inRegion ops (i :: rest) :: k)).finish undef = b.at (Act.put ⟨a.tmps, ccall f cap :: a.defers⟩ o.dst undef) (.inRegion ops rest :: k) := by rw [Frame.finish_at, ho]; rfl
  have hk' : (b.kind == CallKind.early) = false := by simpa using hk
  rw [stepG_oper ho hw, ← hfin]
  simp [stepG.apply, h1, he, G, Frame.at, hk', GStep.after, seen_none]

theorem Fut.deferC (F : Fut P main D Ψ) (ho : ops[i]? = some o) (hw : Region.wanted o (yielded ops a.tmps) = true) (hk : b.kind ≠ .early) (hro : b.roundOf = none) {r : Operand} {ats : Array TypeId} (hop : o.op = .defer { callee := .value r, args := #[], argTypes := ats }) (hr : a.eval r = .func (.func f) #[] cap)
    (h : Ψ (G (b.at (Act.put ⟨a.tmps, ccall f cap :: a.defers⟩ o.dst undef) (.inRegion ops rest :: k)) cs) w) : Ψ (G (b.at a (.inRegion ops (i :: rest) :: k)) cs) w :=
  F.ctl (fun _ => stepG_deferC ho hw hk hro hop hr) h

theorem stepG_unwindC {c : Code} (hd : a.defers = ccall f cap :: ds) (hf : P.funcs[f]? = some fn) (hname : (fn.name == "runtime.NumGoroutine") = false) (hb : fn.body = some c) :
    stepG P main (G { b.at a todo with mode := .returning } cs) w =
      .go (G ((baseD f).at { tmps := cap ++ Array.replicate (fn.ntmps - cap.size) undef, defers := [] } [.code c]) ({ b.at ⟨a.tmps, ds⟩ todo with mode := .returning } :: cs)) w #[] := by
  have h1 : ¬ fn.name = "runtime.NumGoroutine" := by simpa using hname
  rw [← enter_atD cap hf hb]
  simp [G, stepG, unwind, callDeferred, Frame.at, hd, ccall, invoke, callFunc, hf, h1, hb, GStep.after, seen_none]

theorem Fut.unwindC (F : Fut P main D Ψ) {c : Code} (hd : a.defers = ccall f cap :: ds) (hf : P.funcs[f]? = some fn) (hname : (fn.name == "runtime.NumGoroutine") = false) (hb : fn.body = some c)
    (h : Ψ (G ((baseD f).at { tmps := cap ++ Array.replicate (fn.ntmps - cap.size) undef, defers := [] } [.code c]) ({ b.at ⟨a.tmps, ds⟩ todo with mode := .returning } :: cs)) w) : Ψ (G { b.at a todo with mode := .returning } cs) w :=
  F.ctl (fun _ => stepG_unwindC hd hf hname hb) h

theorem stepG_recoverNil (ho : ops[i]? = some o) (hw : Region.wanted o (yielded ops a.tmps) = true) (hk : b.kind = .deferred) (hro : b.roundOf = none) {ats : Array TypeId} (hop : o.op = .call { callee := .builtin .recover, args := #[], argTypes := ats }) {c : Frame} (hc : c.mode = .returning) :
    stepG P main (G (b.at a (.inRegion ops (i :: rest) :: k)) (c :: cs)) w = .go (G (b.at (a.put o.dst .nilIface) (.inRegion ops rest :: k)) (c :: cs)) w #[] := by
  have h1 : (execOp a.eval o).run P w = .ok .recover w := by
    unfold execOp
    simp [hop, resolve, invoke, builtin]
  have he : (execOp a.eval o).events P w #[] = #[] := by
    unfold execOp
    simp [hop, resolve, invoke, builtin]
  have hfin : (b.at a (.inRegion ops (i :: rest) :: k)).finish .nilIface = b.at (a.put o.dst .nilIface) (.inRegion ops rest :: k) := by rw [Frame.finish_at, ho]; rfl
  rw [stepG_oper ho hw, ← hfin]
  simp [stepG.apply, h1, he, G, Frame.at, hk, hro, GStep.after, seen_none, tryRecover, hc]

theorem Fut.recoverNil (F : Fut P main D Ψ) (ho : ops[i]? = some o) (hw : Region.wanted o (yielded ops a.tmps) = true) (hk : b.kind = .deferred) (hro : b.roundOf = none) {ats : Array TypeId} (hop : o.op = .call { callee := .builtin .recover, args := #[], argTypes := ats }) {c : Frame} (hc : c.mode = .returning)
    (h : Ψ (G (b.at (a.put o.dst .nilIface) (.inRegion ops rest :: k)) (c :: cs)) w) : Ψ (G (b.at a (.inRegion ops (i :: rest) :: k)) (c :: cs)) w :=
  F.ctl (fun _ => stepG_recoverNil ho hw hk hro hop hc) h

theorem Fut.leaveD (F : Fut P main D Ψ) {c : Frame} {v : Value} (hn : b.kind = .deferred) (hd : a.defers = []) (hf : P.funcs[b.fn]? = some fn) (hr : ResultsC P fn a.tmps v) (hc : c.mode = .returning) (h : Ψ (G c cs) w) : Ψ (G { b.at a todo with mode := .returning } (c :: cs)) w :=
  F.ctl (fun w => stepG_leave_deferred hn hd hf (hr w).1 (hr w).2 hc) h
end
end Go.Proofs.YtobagnjnbmgidaaGreatDoor

/-! A panic in company: it is raised, goes outwards, meets a deferred closure, is recovered. -/
namespace Go.Proofs.YtobagnjnbmgidaaGreatDoor
open Go.Conc Go.RowKit

/-- What has been raised, and has not been recovered; what has. -/
abbrev blown (v : Value) : List PanicEntry := [{ v, recovered := false }]
abbrev caught (v : Value) : List PanicEntry := [{ v, recovered := true }]

section
variable {P : Program} {main : Bool} {D : World → World → Array Event → Prop} {Ψ : Goroutine → World → Prop} {b : Frame} {a : Act} {k : List Item} {cs : List Frame} {w : World} {ops : Array Oper} {i : Nat} {rest : List Nat} {o : Oper} {f : FuncId} {fn : Func} {cap : Array Value} {todo : List Item} {ds : List Deferred} {v : Value}

theorem stepG_panic (ho : ops[i]? = some o) (hw : Region.wanted o (yielded ops a.tmps) = true) (hm : b.mode = .run) {r : Operand} (hop : o.op = .panic r) {t : TypeId} {x : Value} (hr : a.eval r = .iface t x) :
    stepG P main (G (b.at a (.inRegion ops (i :: rest) :: k)) cs) w = .go (G { b.at a (.inRegion ops (i :: rest) :: k) with mode := .panicking (blown (.iface t x)) } cs) w #[] := by
  have h1 : (execOp a.eval o).run P w = .halt (.panic (.iface t x)) w := by
    unfold execOp
    simp [hop, hr, Instr.panic, goPanic]
  have he : (execOp a.eval o).events P w #[] = #[] := by
    unfold execOp
    simp [hop, hr, Instr.panic, goPanic]
  rw [stepG_oper ho hw]
  simp [stepG.apply, h1, he, G, Frame.at, Frame.raise, GStep.after, seen_none, hm]
theorem Fut.panic (F : Fut P main D Ψ) (ho : ops[i]? = some o) (hw : Region.wanted o (yielded ops a.tmps) = true) (hm : b.mode = .run) {r : Operand} (hop : o.op = .panic r) {t : TypeId} {x : Value} (hr : a.eval r = .iface t x)
    (h : Ψ (G { b.at a (.inRegion ops (i :: rest) :: k) with mode := .panicking (blown (.iface t x)) } cs) w) : Ψ (G (b.at a (.inRegion ops (i :: rest) :: k)) cs) w :=
  F.ctl (fun _ => stepG_panic ho hw hm hop hr) h

/-- Outwards, from a frame that has deferred nothing. -/
theorem stepG_outwards {c : Frame} {ch : List PanicEntry} (hd : a.defers = []) (hf : P.funcs[b.fn]? = some fn) : stepG P main (G { b.at a todo with mode := .panicking ch } (c :: cs)) w = .go (G (c.raise ch) cs) w #[] := by
  simp [G, stepG, unwind, Frame.at, hd, Frame.catches, hf]
theorem Fut.outwards (F : Fut P main D Ψ) {c : Frame} {ch : List PanicEntry} (hd : a.defers = []) (hf : P.funcs[b.fn]? = some fn) (h : Ψ (G (c.raise ch) cs) w) : Ψ (G { b.at a todo with mode := .panicking ch } (c :: cs)) w :=
  F.ctl (fun _ => stepG_outwards hd hf) h

/-- A deferred closure, on the way outwards. -/
theorem stepG_unwindP {c : Code} {ch : List PanicEntry} (hd : a.defers = ccall f cap :: ds) (hf : P.funcs[f]? = some fn) (hname : (fn.name == "runtime.NumGoroutine") = false) (hb : fn.body = some c) :
    stepG P main (G { b.at a todo with mode := .panicking ch } cs) w =
      .go (G ((baseD f).at { tmps := cap ++ Array.replicate (fn.ntmps - cap.size) undef, defers := [] } [.code c]) ({ b.at ⟨a.tmps, ds⟩ todo with mode := .panicking ch } :: cs)) w #[] := by
  have h1 : ¬ fn.name = "runtime.NumGoroutine" := by simpa using hname
  rw [← enter_atD cap hf hb]
  simp [G, stepG, unwind, callDeferred, Frame.at, hd, ccall, invoke, callFunc, hf, h1, hb, GStep.after, seen_none]
theorem Fut.unwindP (F : Fut P main D Ψ) {c : Code} {ch : List PanicEntry} (hd : a.defers = ccall f cap :: ds) (hf : P.funcs[f]? = some fn) (hname : (fn.name == "runtime.NumGoroutine") = false) (hb : fn.body = some c)
    (h : Ψ (G ((baseD f).at { tmps := cap ++ Array.replicate (fn.ntmps - cap.size) undef, defers := [] } [.code c]) ({ b.at ⟨a.tmps, ds⟩ todo with mode := .panicking ch } :: cs)) w) : Ψ (G { b.at a todo with mode := .panicking ch } cs) w :=
  F.ctl (fun _ => stepG_unwindP hd hf hname hb) h

/-- It is recovered. -/
theorem stepG_recover (ho : ops[i]? = some o) (hw : Region.wanted o (yielded ops a.tmps) = true) (hk : b.kind = .deferred) (hro : b.roundOf = none) {ats : Array TypeId} (hop : o.op = .call { callee := .builtin .recover, args := #[], argTypes := ats }) {c : Frame} (hc : c.mode = .panicking (blown v)) :
    stepG P main (G (b.at a (.inRegion ops (i :: rest) :: k)) (c :: cs)) w = .go (G (b.at (a.put o.dst v) (.inRegion ops rest :: k)) ({ c with mode := .panicking (caught v) } :: cs)) w #[] := by
  have h1 : (execOp a.eval o).run P w = .ok .recover w := by
    unfold execOp
    simp [hop, resolve, invoke, builtin]
  have he : (execOp a.eval o).events P w #[] = #[] := by
    unfold execOp
    simp [hop, resolve, invoke, builtin]
  have hfin : (b.at a (.inRegion ops (i :: rest) :: k)).finish v = b.at (a.put o.dst v) (.inRegion ops rest :: k) := by rw [Frame.finish_at, ho]; rfl
  rw [stepG_oper ho hw, ← hfin]
  simp [stepG.apply, h1, he, G, Frame.at, hk, hro, GStep.after, seen_none, tryRecover, hc]
theorem Fut.recover (F : Fut P main D Ψ) (ho : ops[i]? = some o) (hw : Region.wanted o (yielded ops a.tmps) = true) (hk : b.kind = .deferred) (hro : b.roundOf = none) {ats : Array TypeId} (hop : o.op = .call { callee := .builtin .recover, args := #[], argTypes := ats }) {c : Frame} (hc : c.mode = .panicking (blown v))
    (h : Ψ (G (b.at (a.put o.dst v) (.inRegion ops rest :: k)) ({ c with mode := .panicking (caught v) } :: cs)) w) : Ψ (G (b.at a (.inRegion ops (i :: rest) :: k)) (c :: cs)) w :=
  F.ctl (fun _ => stepG_recover ho hw hk hro hop hc) h

/-- Behind the closure that has recovered it the frame returns. -/
theorem stepG_leaveR {c : Frame} {r : Value} (hn : b.kind = .deferred) (hd : a.defers = []) (hf : P.funcs[b.fn]? = some fn) (hr : ∀ w, (results fn a.tmps).run P w = .ok r w) (he : ∀ w, (results fn a.tmps).events P w #[] = #[]) (hc : c.mode = .panicking (caught v)) :
    stepG P main (G { b.at a todo with mode := .returning } (c :: cs)) w = .go (G { c with mode := .returning } cs) w #[] := by
  simp [G, stepG, unwind, doReturn, Frame.at, hd, hf, hr w, he w, hn, hc, GStep.after, seen_none]
theorem Fut.leaveR (F : Fut P main D Ψ) {c : Frame} {r : Value} (hn : b.kind = .deferred) (hd : a.defers = []) (hf : P.funcs[b.fn]? = some fn) (hr : ResultsC P fn a.tmps r) (hc : c.mode = .panicking (caught v)) (h : Ψ (G { c with mode := .returning } cs) w) : Ψ (G { b.at a todo with mode := .returning } (c :: cs)) w :=
  F.ctl (fun _ => stepG_leaveR hn hd hf (fun w => (hr w).1) (fun w => (hr w).2) hc) h
end
end Go.Proofs.YtobagnjnbmgidaaGreatDoor
