/- Entries without a body; errors.Is. -/
import Derived.Test.YtobagnjnbmgidaaGreatDoorX17
set_option linter.unusedSimpArgs false
set_option linter.unusedVariables false
namespace Go.Proofs.YtobagnjnbmgidaaGreatDoor
open Go.Conc Go.RowKit Go.Extern
variable {Ok : Addr → Bool → Prop} {main : Bool}

/-- What a listing leaves out, whatever came ahead of it: the mark of an entry without a body. -/
def Drops (e : Event) : Prop := ∀ (quiet : FuncId → Bool) (q : Bool) (kept : Array Event), (seenStep quiet (q, kept) e).2 = kept
theorem seen_push (quiet : FuncId → Bool) (q : Bool) (kept : Array Event) (a e : Event) (h : e ∈ (seenStep quiet (q, kept) a).2) : e ∈ kept ∨ (e = a ∧ ¬ Drops a) := by
  by_cases hk : (seenStep quiet (q, kept) a).2 = kept
  · rw [hk] at h
    exact .inl h
  have hd : ¬ Drops a := fun z => hk (z quiet q kept)
  simp only [seenStep] at h
  split at h
  · exact .inl h
  · split at h
    · exact .inl h
    · rcases Array.mem_push.1 h with h | h
      · exact .inl h
      · exact .inr ⟨h, hd⟩
theorem seen_noext (quiet : FuncId → Bool) : ∀ (l : List Event) (x : Bool × Array Event) (e : Event), e ∈ (l.foldl (seenStep quiet) x).2 → e ∈ x.2 ∨ ¬ Drops e := by
  intro l
  induction l with
  | nil => exact fun _ _ h => .inl h
  | cons a l ih =>
    intro x e h
    rcases ih _ _ h with h | h
    · rcases seen_push quiet x.1 x.2 a e h with h | ⟨rfl, h⟩
      · exact .inl h
      · exact .inr h
    · exact .inr h
theorem mem_listed2 {P : Program} {fn : FuncId} {a : Act} {o : Oper} {w : World} {e : Event} (h : e ∈ listed P fn a o w) : e ∈ (execOp a.eval o).events P w #[] ∧ ¬ Drops e := by
  refine ⟨mem_listed h, ?_⟩
  unfold listed at h
  rw [seen_def] at h
  rcases seen_noext _ _ (_, #[]) e h with h | h
  · simp at h
  · exact h

section
variable {P : Program} {D : World → World → Array Event → Prop} {Ψ : Goroutine → World → Prop} {b : Frame} {a : Act} {k : List Item} {cs : List Frame} {w : World} {ops : Array Oper} {i : Nat} {rest : List Nat} {o : Oper} {f : FuncId} {fn : Func} {x : Array Value → Sem Value} {v : Value}

theorem exec_ext {args : Array Operand} {ats : Array TypeId} (hop : o.op = .call { callee := .value (.func f), args, argTypes := ats }) : execOp a.eval o = callFunc f (args.map a.eval) := by
  have ef : a.eval (.func f) = .func (.func f) #[] #[] := rfl
  unfold execOp
  simp [hop, resolve, Deferred.ofValue, invoke, ef]

/-- An entry without a body that leaves the world as it is and lists nothing. -/
theorem Fut.ext0 (F : Fut P main D Ψ) (ho : ops[i]? = some o) (hw : Region.wanted o (yielded ops a.tmps) = true) (hk : b.kind ≠ .early) (hr : ∀ d, (execOp a.eval o).run P (w.at d) = .ok (.value v) (w.at d)) (he : ∀ d, ∀ e ∈ (execOp a.eval o).events P (w.at d) #[], Drops e)
    (h : Ψ (G (b.at (a.put o.dst v) (.inRegion ops rest :: k)) cs) w) : Ψ (G (b.at a (.inRegion ops (i :: rest) :: k)) cs) w :=
  F.step _ _ rfl fun d => by
    have hl : listed P b.fn a o (w.at d) = #[] := by
      rw [Array.eq_empty_iff_forall_not_mem]
      intro e hm
      obtain ⟨h1, h2⟩ := mem_listed2 hm
      exact h2 (he d e h1)
    rw [stepG_value ho hw hk (hr d), hl]
    exact ⟨F.idle _ _, F.at' _ _ _ h⟩

theorem Fut.ext0c (F : Fut P main D Ψ) (ho : ops[i]? = some o) (hw : Region.wanted o (yielded ops a.tmps) = true) (hk : b.kind ≠ .early) {args : Array Operand} {ats : Array TypeId} (hop : o.op = .call { callee := .value (.func f), args, argTypes := ats })
    (hf : P.funcs[f]? = some fn) (hname : (fn.name == "runtime.NumGoroutine") = false) (hb : fn.body.isNone = true) (hn : Extern.findNext fn = none) (he : Extern.find fn = some x)
    (hr : ∀ d, (x (args.map a.eval)).run P (w.at d) = .ok v (w.at d)) (hev : ∀ d es, (x (args.map a.eval)).events P (w.at d) es = es)
    (h : Ψ (G (b.at (a.put o.dst v) (.inRegion ops rest :: k)) cs) w) : Ψ (G (b.at a (.inRegion ops (i :: rest) :: k)) cs) w :=
  F.ext0 ho hw hk (v := v) (fun d => by rw [exec_ext hop, run_callFunc_extern hf hname hb hn he, hr d]; rfl) (fun d e hm => by
    rw [exec_ext hop, events_callFunc_extern hf hname hb hn he, hev] at hm
    simp at hm
    rw [hm]
    exact fun _ _ _ => rfl) h

theorem Fut.ext0m (F : Fut P main D Ψ) (ho : ops[i]? = some o) (hw : Region.wanted o (yielded ops a.tmps) = true) (hk : b.kind ≠ .early) {r : Operand} {nm : String} {args : Array Operand} {ats : Array TypeId} (hop : o.op = .call { callee := .invoke r nm, args, argTypes := ats })
    {t : TypeId} {rv rc : Value} (hrv : a.eval r = .iface t rv) (hm : ∀ W : World, (Go.method (P.types.size + Made.depth) t rv nm).run P W = .ok (f, rc) W) (hme : ∀ (W : World) es, (Go.method (P.types.size + Made.depth) t rv nm).events P W es = es)
    (hf : P.funcs[f]? = some fn) (hname : (fn.name == "runtime.NumGoroutine") = false) (hb : fn.body.isNone = true) (hn : Extern.findNext fn = none) (he : Extern.find fn = some x)
    (hr : ∀ d, (x (#[rc] ++ args.map a.eval)).run P (w.at d) = .ok v (w.at d)) (hev : ∀ d es, (x (#[rc] ++ args.map a.eval)).events P (w.at d) es = es)
    (h : Ψ (G (b.at (a.put o.dst v) (.inRegion ops rest :: k)) cs) w) : Ψ (G (b.at a (.inRegion ops (i :: rest) :: k)) cs) w := by
  have e1 : execOp a.eval o = callMethod (.iface t rv) nm (args.map a.eval) := by
    unfold execOp
    simp [hop, resolve, Deferred.ofValue, Go.invoke, hrv]
    rw [Array.getElem?_append_left (by simp)]
    simp [Array.extract_eq_self_of_le]
  have e2 : ∀ W : World, (callMethod (.iface t rv) nm (args.map a.eval)).run P W = (callFunc f (#[rc] ++ args.map a.eval)).run P W := fun W => by
    simp only [callMethod, Sem.run_bind, run_program, Result.andThen_ok, hm]
  have e3 : ∀ (W : World) es, (callMethod (.iface t rv) nm (args.map a.eval)).events P W es = (callFunc f (#[rc] ++ args.map a.eval)).events P W es := fun W es => by
    simp only [callMethod, Sem.events_bind, run_program, events_program, Result.evThen_ok, hm, hme]
  exact F.ext0 ho hw hk (v := v) (fun d => by rw [e1, e2, run_callFunc_extern hf hname hb hn he, hr d]; rfl) (fun d e hx => by
    rw [e1, e3, events_callFunc_extern hf hname hb hn he, hev] at hx
    simp at hx
    rw [hx]
    exact fun _ _ _ => rfl) h

/-- A call by an interface whose method has a body. -/
theorem Fut.invoke (F : Fut P main D Ψ) (ho : ops[i]? = some o) (hw : Region.wanted o (yielded ops a.tmps) = true) (hk : b.kind ≠ .early) {r : Operand} {nm : String} {args : Array Operand} {ats : Array TypeId} (hop : o.op = .call { callee := .invoke r nm, args, argTypes := ats })
    {t : TypeId} {rv rc : Value} (hrv : a.eval r = .iface t rv) (hm : ∀ W : World, (Go.method (P.types.size + Made.depth) t rv nm).run P W = .ok (f, rc) W) (hme : ∀ (W : World) es, (Go.method (P.types.size + Made.depth) t rv nm).events P W es = es)
    (hf : P.funcs[f]? = some fn) (hname : (fn.name == "runtime.NumGoroutine") = false) (hb : fn.body.isNone = false)
    (h : Ψ (G (Frame.enter P f (#[rc] ++ args.map a.eval) .normal) (b.at a (.inRegion ops (i :: rest) :: k) :: cs)) w) : Ψ (G (b.at a (.inRegion ops (i :: rest) :: k)) cs) w := by
  have h1 : ¬ fn.name = "runtime.NumGoroutine" := by simpa using hname
  have h2 : ¬ fn.body = none := by cases hx : fn.body <;> simp_all
  have e1 : execOp a.eval o = callMethod (.iface t rv) nm (args.map a.eval) := by
    unfold execOp
    simp [hop, resolve, Deferred.ofValue, Go.invoke, hrv]
    rw [Array.getElem?_append_left (by simp)]
    simp [Array.extract_eq_self_of_le]
  refine F.enter ho hw hk (fun d => ?_) (fun d => ?_) h
  · rw [e1]
    simp [callMethod, hm, callFunc, hf, h1, h2]
  · rw [e1]
    simp [callMethod, hm, hme, callFunc, hf, h1, h2]
end

/-! ### Closed facts at this program's types. 168: *Link, 171: Kind, 170: **Link, 217: rtype, 121: error -/
theorem ty171 (v : Value) (w : World) : (ReflectliteType.typeOf #[.iface 171 v]).run Tryz.prog w = .ok (.iface 217 (.agg #[.pointer (some ⟨1, 171, none⟩)])) w := by kernel_rfl
theorem ty171e (v : Value) (w : World) (es : Array Event) : (ReflectliteType.typeOf #[.iface 171 v]).events Tryz.prog w es = es := by kernel_rfl
theorem mComparable (h : Value) (w : World) : (Go.method (Tryz.prog.types.size + Made.depth) 217 (.agg #[h]) "Comparable").run Tryz.prog w = .ok (221, .agg #[h]) w := by kernel_rfl
theorem mComparablee (h : Value) (w : World) (es : Array Event) : (Go.method (Tryz.prog.types.size + Made.depth) 217 (.agg #[h]) "Comparable").events Tryz.prog w es = es := by kernel_rfl
theorem comp171 (w : World) : ((ReflectliteType.method fun t => do Rtype.noPackHeld "Comparable" t; pure (.bool (← typeInfo t).comparable)) #[.agg #[.pointer (some ⟨1, 171, none⟩)]]).run Tryz.prog w = .ok (.bool true) w := by kernel_rfl
theorem comp171e (w : World) (es : Array Event) : ((ReflectliteType.method fun t => do Rtype.noPackHeld "Comparable" t; pure (.bool (← typeInfo t).comparable)) #[.agg #[.pointer (some ⟨1, 171, none⟩)]]).events Tryz.prog w es = es := by kernel_rfl
theorem mIs (p : Value) (w : World) : (Go.method (Tryz.prog.types.size + Made.depth) 168 p "Is").run Tryz.prog w = .ok (213, p) w := by kernel_rfl
theorem mIse (p : Value) (w : World) (es : Array Event) : (Go.method (Tryz.prog.types.size + Made.depth) 168 p "Is").events Tryz.prog w es = es := by kernel_rfl
theorem mUnwrap (p : Value) (w : World) : (Go.method (Tryz.prog.types.size + Made.depth) 168 p "Unwrap").run Tryz.prog w = .ok (214, p) w := by kernel_rfl
theorem mUnwrape (p : Value) (w : World) (es : Array Event) : (Go.method (Tryz.prog.types.size + Made.depth) 168 p "Unwrap").events Tryz.prog w es = es := by kernel_rfl
theorem mEnter138 (p : Value) (w : World) : (Go.method (Tryz.prog.types.size + Made.depth) 138 p "Enter").run Tryz.prog w = .ok (146, p) w := by kernel_rfl
theorem mEnter138e (p : Value) (w : World) (es : Array Event) : (Go.method (Tryz.prog.types.size + Made.depth) 138 p "Enter").events Tryz.prog w es = es := by kernel_rfl
theorem mEnter141 (p : Value) (w : World) : (Go.method (Tryz.prog.types.size + Made.depth) 141 p "Enter").run Tryz.prog w = .ok (156, p) w := by kernel_rfl
theorem mEnter141e (p : Value) (w : World) (es : Array Event) : (Go.method (Tryz.prog.types.size + Made.depth) 141 p "Enter").events Tryz.prog w es = es := by kernel_rfl

end Go.Proofs.YtobagnjnbmgidaaGreatDoor
