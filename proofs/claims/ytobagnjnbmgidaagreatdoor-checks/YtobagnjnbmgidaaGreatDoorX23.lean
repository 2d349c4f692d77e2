/- Entries without a body that turn memory; the entries that errors.As comes to. -/
import Derived.Test.YtobagnjnbmgidaaGreatDoorX22
set_option linter.unusedSimpArgs false
set_option linter.unusedVariables false
namespace Go.Proofs.YtobagnjnbmgidaaGreatDoor
open Go.Conc Go.RowKit Go.Extern
variable {Ok : Addr → Bool → Prop} {main : Bool}

section
variable {P : Program} {D : World → World → Array Event → Prop} {Ψ : Goroutine → World → Prop} {b : Frame} {a : Act} {k : List Item} {cs : List Frame} {w w' : World} {ops : Array Oper} {i : Nat} {rest : List Nat} {o : Oper} {f : FuncId} {fn : Func} {x : Array Value → Sem Value} {v : Value} {E : Array Event}

theorem Fut.extc (F : Fut P main D Ψ) (ho : ops[i]? = some o) (hw : Region.wanted o (yielded ops a.tmps) = true) (hk : b.kind ≠ .early) {args : Array Operand} {ats : Array TypeId} (hop : o.op = .call { callee := .value (.func f), args, argTypes := ats })
    (hf : P.funcs[f]? = some fn) (hname : (fn.name == "runtime.NumGoroutine") = false) (hb : fn.body.isNone = true) (hn : Extern.findNext fn = none) (he : Extern.find fn = some x)
    (hr : ∀ d, (x (args.map a.eval)).run P (w.at d) = .ok v (w'.at d)) (hev : ∀ d es, (x (args.map a.eval)).events P (w.at d) es = es ++ E) (hD : ∀ d es, (∀ e ∈ es, e ∈ E) → D (w.at d) (w'.at d) es)
    (h : Ψ (G (b.at (a.put o.dst v) (.inRegion ops rest :: k)) cs) w') : Ψ (G (b.at a (.inRegion ops (i :: rest) :: k)) cs) w :=
  F.step _ _ rfl fun d => by
    have hrun : (execOp a.eval o).run P (w.at d) = .ok (.value v) (w'.at d) := by rw [exec_ext hop, run_callFunc_extern hf hname hb hn he, hr d]; rfl
    rw [stepG_value ho hw hk hrun]
    refine ⟨hD _ _ fun e hm => ?_, F.at' _ _ _ h⟩
    obtain ⟨h1, h2⟩ := mem_listed2 hm
    rw [exec_ext hop, events_callFunc_extern hf hname hb hn he, hev] at h1
    simp at h1
    rcases h1 with rfl | h1
    · exact (h2 fun _ _ _ => rfl).elim
    · exact h1
end

/-! ### Closed facts at this program's types. 168: *Link, 170: **Link, 217: rtype, 121: error, 193: Value -/
theorem vo170 (t : Addr) (w : World) : (ReflectliteValue.unpack (.iface 170 (.pointer (some t)))).run Tryz.prog w = .ok (.agg #[.pointer (some ⟨1, 170, none⟩), .pointer (some ⟨w.heap.size, 0, none⟩), .int .u64 150]) (w.alloc (.cells #[.pointer (some t)] 170)) := by kernel_rfl
theorem vo170e (t : Addr) (w : World) (es : Array Event) : (ReflectliteValue.unpack (.iface 170 (.pointer (some t)))).events Tryz.prog w es = es := by kernel_rfl
theorem vo168 (t : Addr) (w : World) : (ReflectliteValue.unpack (.iface 168 (.pointer (some t)))).run Tryz.prog w = .ok (.agg #[.pointer (some ⟨1, 168, none⟩), .pointer (some ⟨w.heap.size, 0, none⟩), .int .u64 150]) (w.alloc (.cells #[.pointer (some t)] 168)) := by kernel_rfl
theorem vo168e (t : Addr) (w : World) (es : Array Event) : (ReflectliteValue.unpack (.iface 168 (.pointer (some t)))).events Tryz.prog w es = es := by kernel_rfl
theorem vt170 (a : Addr) (w : World) : (ReflectliteValue.methodAny (ReflectliteValue.valueError "reflectlite.Value.Type" 0) (fun t _ _ _ => ReflectliteType.toType t) #[.agg #[.pointer (some ⟨1, 170, none⟩), .pointer (some a), .int .u64 150]]).run Tryz.prog w = .ok (.iface 217 (.agg #[.pointer (some ⟨1, 170, none⟩)])) w := by kernel_rfl
theorem vt170e (a : Addr) (w : World) (es : Array Event) : (ReflectliteValue.methodAny (ReflectliteValue.valueError "reflectlite.Value.Type" 0) (fun t _ _ _ => ReflectliteType.toType t) #[.agg #[.pointer (some ⟨1, 170, none⟩), .pointer (some a), .int .u64 150]]).events Tryz.prog w es = es := by kernel_rfl
theorem mKind (h : Value) (w : World) : (Go.method (Tryz.prog.types.size + Made.depth) 217 (.agg #[h]) "Kind").run Tryz.prog w = .ok (140, h) w := by kernel_rfl
theorem mKinde (h : Value) (w : World) (es : Array Event) : (Go.method (Tryz.prog.types.size + Made.depth) 217 (.agg #[h]) "Kind").events Tryz.prog w es = es := by kernel_rfl
theorem kind170 (w : World) : ((ReflectliteType.abiMethod fun t => do pure (.int .u8 (← Rtype.kind t))) #[.pointer (some ⟨1, 170, none⟩)]).run Tryz.prog w = .ok (.int .u8 22) w := by kernel_rfl
theorem kind170e (w : World) (es : Array Event) : ((ReflectliteType.abiMethod fun t => do pure (.int .u8 (← Rtype.kind t))) #[.pointer (some ⟨1, 170, none⟩)]).events Tryz.prog w es = es := by kernel_rfl
theorem kind168 (w : World) : ((ReflectliteType.abiMethod fun t => do pure (.int .u8 (← Rtype.kind t))) #[.pointer (some ⟨1, 168, none⟩)]).run Tryz.prog w = .ok (.int .u8 22) w := by kernel_rfl
theorem kind168e (w : World) (es : Array Event) : ((ReflectliteType.abiMethod fun t => do pure (.int .u8 (← Rtype.kind t))) #[.pointer (some ⟨1, 168, none⟩)]).events Tryz.prog w es = es := by kernel_rfl
theorem mElem (h : Value) (w : World) : (Go.method (Tryz.prog.types.size + Made.depth) 217 (.agg #[h]) "Elem").run Tryz.prog w = .ok (222, .agg #[h]) w := by kernel_rfl
theorem mEleme (h : Value) (w : World) (es : Array Event) : (Go.method (Tryz.prog.types.size + Made.depth) 217 (.agg #[h]) "Elem").events Tryz.prog w es = es := by kernel_rfl
theorem mImpl (h : Value) (w : World) : (Go.method (Tryz.prog.types.size + Made.depth) 217 (.agg #[h]) "Implements").run Tryz.prog w = .ok (223, .agg #[h]) w := by kernel_rfl
theorem mImple (h : Value) (w : World) (es : Array Event) : (Go.method (Tryz.prog.types.size + Made.depth) 217 (.agg #[h]) "Implements").events Tryz.prog w es = es := by kernel_rfl
theorem mAssign (h : Value) (w : World) : (Go.method (Tryz.prog.types.size + Made.depth) 217 (.agg #[h]) "AssignableTo").run Tryz.prog w = .ok (220, .agg #[h]) w := by kernel_rfl
theorem mAssigne (h : Value) (w : World) (es : Array Event) : (Go.method (Tryz.prog.types.size + Made.depth) 217 (.agg #[h]) "AssignableTo").events Tryz.prog w es = es := by kernel_rfl
theorem elem170 (w : World) : (ReflectliteType.method ReflectliteType.elem #[.agg #[.pointer (some ⟨1, 170, none⟩)]]).run Tryz.prog w = .ok (.iface 217 (.agg #[.pointer (some ⟨1, 168, none⟩)])) w := by kernel_rfl
theorem elem170e (w : World) (es : Array Event) : (ReflectliteType.method ReflectliteType.elem #[.agg #[.pointer (some ⟨1, 170, none⟩)]]).events Tryz.prog w es = es := by kernel_rfl
theorem impl168 (w : World) : (ReflectliteType.relation "Implements" ReflectliteType.implements_ #[.agg #[.pointer (some ⟨1, 168, none⟩)], .iface 217 (.agg #[.pointer (some ⟨1, 121, none⟩)])]).run Tryz.prog w = .ok (.bool true) w := by kernel_rfl
theorem impl168e (w : World) (es : Array Event) : (ReflectliteType.relation "Implements" ReflectliteType.implements_ #[.agg #[.pointer (some ⟨1, 168, none⟩)], .iface 217 (.agg #[.pointer (some ⟨1, 121, none⟩)])]).events Tryz.prog w es = es := by kernel_rfl
theorem ty168 (v : Value) (w : World) : (ReflectliteType.typeOf #[.iface 168 v]).run Tryz.prog w = .ok (.iface 217 (.agg #[.pointer (some ⟨1, 168, none⟩)])) w := by kernel_rfl
theorem ty168e (v : Value) (w : World) (es : Array Event) : (ReflectliteType.typeOf #[.iface 168 v]).events Tryz.prog w es = es := by kernel_rfl
theorem asgn168 (w : World) : (ReflectliteType.relation "AssignableTo" ReflectliteType.assignableTo #[.agg #[.pointer (some ⟨1, 168, none⟩)], .iface 217 (.agg #[.pointer (some ⟨1, 168, none⟩)])]).run Tryz.prog w = .ok (.bool true) w := by kernel_rfl
theorem asgn168e (w : World) (es : Array Event) : (ReflectliteType.relation "AssignableTo" ReflectliteType.assignableTo #[.agg #[.pointer (some ⟨1, 168, none⟩)], .iface 217 (.agg #[.pointer (some ⟨1, 168, none⟩)])]).events Tryz.prog w es = es := by kernel_rfl

/-! ### The entries that read or write memory -/
theorem pt170 (a : Addr) (w : World) : (ReflectliteValue.parts (.agg #[.pointer (some ⟨1, 170, none⟩), .pointer (some a), .int .u64 150])).run Tryz.prog w = .ok (some (170, a, 150)) w := by kernel_rfl
theorem pt170e (a : Addr) (w : World) (es : Array Event) : (ReflectliteValue.parts (.agg #[.pointer (some ⟨1, 170, none⟩), .pointer (some a), .int .u64 150])).events Tryz.prog w es = es := by kernel_rfl
theorem pt168 (a : Addr) (w : World) : (ReflectliteValue.parts (.agg #[.pointer (some ⟨1, 168, none⟩), .pointer (some a), .int .u64 150])).run Tryz.prog w = .ok (some (168, a, 150)) w := by kernel_rfl
theorem pt168e (a : Addr) (w : World) (es : Array Event) : (ReflectliteValue.parts (.agg #[.pointer (some ⟨1, 168, none⟩), .pointer (some a), .int .u64 150])).events Tryz.prog w es = es := by kernel_rfl
theorem pt168a (a : Addr) (w : World) : (ReflectliteValue.parts (.agg #[.pointer (some ⟨1, 168, none⟩), .pointer (some a), .int .u64 406])).run Tryz.prog w = .ok (some (168, a, 406)) w := by kernel_rfl
theorem pt168ae (a : Addr) (w : World) (es : Array Event) : (ReflectliteValue.parts (.agg #[.pointer (some ⟨1, 168, none⟩), .pointer (some a), .int .u64 406])).events Tryz.prog w es = es := by kernel_rfl
theorem un170 : Tryz.prog.underlying 170 = some (.pointer 168) := by kernel_rfl
theorem un168 : ∃ t, Tryz.prog.underlying 168 = some (.pointer t) := ⟨match Tryz.prog.underlying 168 with | some (.pointer t) => t | _ => 0, by kernel_rfl⟩

theorem isNil170 (a p : Addr) (W : World) (ha : W.cell? a = some (.pointer (some p))) :
    (ReflectliteValue.method (ReflectliteValue.valueError "reflectlite.Value.IsNil" 0) ReflectliteValue.isNil #[.agg #[.pointer (some ⟨1, 170, none⟩), .pointer (some a), .int .u64 150]]).run Tryz.prog W = .ok (.bool false) W := by
  change (ReflectliteValue.parts (.agg #[.pointer (some ⟨1, 170, none⟩), .pointer (some a), .int .u64 150]) >>= _ : Sem Value).run Tryz.prog W = _
  simp only [Sem.run_bind, pt170, Result.andThen]
  simp [ReflectliteValue.isNil, loadVar, isAgg, underlying, un170, ha, Result.andThen]
theorem isNil170e (a p : Addr) (W : World) (es : Array Event) (ha : W.cell? a = some (.pointer (some p))) :
    (ReflectliteValue.method (ReflectliteValue.valueError "reflectlite.Value.IsNil" 0) ReflectliteValue.isNil #[.agg #[.pointer (some ⟨1, 170, none⟩), .pointer (some a), .int .u64 150]]).events Tryz.prog W es = es ++ #[⟨.cell a, false, false⟩] := by
  change (ReflectliteValue.parts (.agg #[.pointer (some ⟨1, 170, none⟩), .pointer (some a), .int .u64 150]) >>= _ : Sem Value).events Tryz.prog W es = _
  simp only [Sem.events_bind, pt170, pt170e, Result.evThen_ok]
  simp [ReflectliteValue.isNil, loadVar, isAgg, underlying, un170, ha, Result.andThen, go_sem]
  rfl
theorem elemOf170 (w : World) : (Rtype.elem? 170).run Tryz.prog w = .ok (some 168) w := by kernel_rfl
theorem elemOf170e (w : World) (es : Array Event) : (Rtype.elem? 170).events Tryz.prog w es = es := by kernel_rfl
theorem mk168 (p : Addr) (w : World) : (ReflectliteValue.mk 168 p ReflectliteValue.flagAddr).run Tryz.prog w = .ok (.agg #[.pointer (some ⟨1, 168, none⟩), .pointer (some p), .int .u64 406]) w := by kernel_rfl
theorem mk168e (p : Addr) (w : World) (es : Array Event) : (ReflectliteValue.mk 168 p ReflectliteValue.flagAddr).events Tryz.prog w es = es := by kernel_rfl
theorem elemV170 (a p : Addr) (W : World) (ha : W.cell? a = some (.pointer (some p))) :
    (ReflectliteValue.method (ReflectliteValue.valueError "reflectlite.Value.Elem" 0) ReflectliteValue.elem #[.agg #[.pointer (some ⟨1, 170, none⟩), .pointer (some a), .int .u64 150]]).run Tryz.prog W = .ok (.agg #[.pointer (some ⟨1, 168, none⟩), .pointer (some p), .int .u64 406]) W := by
  change (ReflectliteValue.parts (.agg #[.pointer (some ⟨1, 170, none⟩), .pointer (some a), .int .u64 150]) >>= _ : Sem Value).run Tryz.prog W = _
  simp only [Sem.run_bind, pt170, Result.andThen]
  simp [ReflectliteValue.elem, loadVar, isAgg, underlying, un170, ha, Result.andThen, elemOf170, mk168]
theorem elemV170e (a p : Addr) (W : World) (es : Array Event) (ha : W.cell? a = some (.pointer (some p))) :
    (ReflectliteValue.method (ReflectliteValue.valueError "reflectlite.Value.Elem" 0) ReflectliteValue.elem #[.agg #[.pointer (some ⟨1, 170, none⟩), .pointer (some a), .int .u64 150]]).events Tryz.prog W es = es ++ #[⟨.cell a, false, false⟩] := by
  change (ReflectliteValue.parts (.agg #[.pointer (some ⟨1, 170, none⟩), .pointer (some a), .int .u64 150]) >>= _ : Sem Value).events Tryz.prog W es = _
  simp only [Sem.events_bind, pt170, pt170e, Result.evThen_ok]
  simp [ReflectliteValue.elem, loadVar, isAgg, underlying, un170, ha, Result.andThen, elemOf170, elemOf170e, mk168, mk168e, go_sem]
  rfl
theorem direct168 (w : World) : (Rtype.directlyAssignable 168 168).run Tryz.prog w = .ok true w := by kernel_rfl
theorem direct168e (w : World) (es : Array Event) : (Rtype.directlyAssignable 168 168).events Tryz.prog w es = es := by kernel_rfl
theorem set168 (ta b e : Addr) (old : Value) (W : World) (hb : W.cell? b = some (.pointer (some e))) (ht : W.cell? ta = some old) (hf : W.frozen? ta = false) :
    (ReflectliteValue.set #[.agg #[.pointer (some ⟨1, 168, none⟩), .pointer (some ta), .int .u64 406], .agg #[.pointer (some ⟨1, 168, none⟩), .pointer (some b), .int .u64 150]]).run Tryz.prog W = .ok (.tuple #[]) (W.setCell ta (.pointer (some e))) := by
  obtain ⟨t, un⟩ := un168
  change (ReflectliteValue.parts (.agg #[.pointer (some ⟨1, 168, none⟩), .pointer (some ta), .int .u64 406]) >>= fun x => ReflectliteValue.parts (.agg #[.pointer (some ⟨1, 168, none⟩), .pointer (some b), .int .u64 150]) >>= _ : Sem Value).run Tryz.prog W = _
  simp only [Sem.run_bind, pt168a, pt168, Result.andThen]
  simp [ReflectliteValue.flagAddr, loadVar, isAgg, underlying, un, hb, Result.andThen, direct168, storeVar, Value.cells, storeCells, Addr.add]
  rw [run_store Tryz.prog W ta _ _ (by rfl)]
  simp [ht, hf]
theorem set168e (ta b e : Addr) (old : Value) (W : World) (es : Array Event) (hb : W.cell? b = some (.pointer (some e))) (ht : W.cell? ta = some old) (hf : W.frozen? ta = false) :
    (ReflectliteValue.set #[.agg #[.pointer (some ⟨1, 168, none⟩), .pointer (some ta), .int .u64 406], .agg #[.pointer (some ⟨1, 168, none⟩), .pointer (some b), .int .u64 150]]).events Tryz.prog W es = es ++ #[⟨.cell b, false, false⟩, ⟨.cell ta, true, false⟩] := by
  obtain ⟨t, un⟩ := un168
  change (ReflectliteValue.parts (.agg #[.pointer (some ⟨1, 168, none⟩), .pointer (some ta), .int .u64 406]) >>= fun x => ReflectliteValue.parts (.agg #[.pointer (some ⟨1, 168, none⟩), .pointer (some b), .int .u64 150]) >>= _ : Sem Value).events Tryz.prog W es = _
  simp only [Sem.events_bind, pt168a, pt168, pt168ae, pt168e, Result.evThen_ok]
  simp [ReflectliteValue.flagAddr, loadVar, isAgg, underlying, un, hb, Result.andThen, direct168, direct168e, storeVar, Value.cells, storeCells, Addr.add, go_sem, evst_ptr, storedEv, ht, hf]
  rfl
end Go.Proofs.YtobagnjnbmgidaaGreatDoor
