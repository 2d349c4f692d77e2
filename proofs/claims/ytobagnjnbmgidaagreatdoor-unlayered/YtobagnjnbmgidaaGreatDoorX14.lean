/- A task's world; waits, as a task sees them. -/
import Derived.Test.YtobagnjnbmgidaaGreatDoorX12
set_option linter.unusedSimpArgs false
set_option linter.unusedVariables false
namespace Go.Proofs.YtobagnjnbmgidaaGreatDoor
section
open Go.Conc Go.RowKit

structure Env where
  N : Nat
  X : Nat
  A : Nat
  T : Nat
  J : Nat
  wch : Nat
  ech : Nat
  tch : Nat
  cl : Int

variable {Ok : Addr → Bool → Prop}
end
section
open Go.Conc Go.RowKit
variable {Ok : Addr → Bool → Prop}
end
section
open Go.Conc Go.RowKit
variable {Ok : Addr → Bool → Prop}

section
variable {e : Env} {HD : Nat} {w w1 w2 w' : World} {en ev en1 ev1 en2 ev2 en' ev' : Value} {now : Int} {m : List Value}
end
end
section
open Go.Conc Go.RowKit
variable {Ok : Addr → Bool → Prop} {main : Bool}
end
section
open Go.Conc Go.RowKit Go.Extern
variable {Ok : Addr → Bool → Prop} {main : Bool}

def Drops (e : Event) : Prop := ∀ (quiet : FuncId → Bool) (q : Bool) (kept : Array Event), (seenStep quiet (q, kept) e).2 = kept
theorem Drops.loc {e : Event} (h : Drops e) (z : Addr) : e.loc ≠ .cell z := fun he => by
  have := h (fun _ => false) false #[]; simp [seenStep, he] at this
theorem seen_push (quiet : FuncId → Bool) (q : Bool) (kept : Array Event) (a e : Event) (h : e ∈ (seenStep quiet (q, kept) a).2) : e ∈ kept ∨ (e = a ∧ ¬ Drops a) := by
  by_cases hk : (seenStep quiet (q, kept) a).2 = kept
  · rw [hk] at h
    exact .inl h
  have hd : ¬ Drops a := fun z => hk (z quiet q kept)
  simp only [seenStep] at h
  split at h
  · exact .inl h
  · split at h
    · exact .inl h
    · rcases Array.mem_push.1 h with h | h
      · exact .inl h
      · exact .inr ⟨h, hd⟩
theorem seen_noext (quiet : FuncId → Bool) : ∀ (l : List Event) (x : Bool × Array Event) (e : Event), e ∈ (l.foldl (seenStep quiet) x).2 → e ∈ x.2 ∨ ¬ Drops e := by
  intro l
  induction l with
  | nil => exact fun _ _ h => .inl h
  | cons a l ih =>
    intro x e h; rcases ih _ _ h with h | h
    · rcases seen_push quiet x.1 x.2 a e h with h | ⟨rfl, h⟩
      · exact .inl h
      · exact .inr h
    · exact .inr h
theorem mem_listed2 {P : Program} {fn : FuncId} {a : Act} {o : Oper} {w : World} {e : Event} (h : e ∈ listed P fn a o w) : e ∈ (execOp a.eval o).events P w #[] ∧ ¬ Drops e := by
  refine ⟨Go.Conc.mem_listed h, ?_⟩; unfold listed at h; rw [seen_def] at h; rcases seen_noext _ _ (_, #[]) e h with h | h
  · simp at h
  · exact h

section
variable {P : Program} {D : World → World → Array Event → Prop} {Ψ : Goroutine → World → Prop} {b : Frame} {a : Act} {k : List Item} {cs : List Frame} {w : World} {ops : Array Oper} {i : Nat} {rest : List Nat} {o : Oper} {f : FuncId} {fn : Func} {x : Array Value → Sem Value} {v : Value}

theorem exec_ext {args : Array Operand} {ats : Array TypeId} (hop : o.op = .call { callee := .value (.func f), args, argTypes := ats }) : execOp a.eval o = callFunc f (args.map a.eval) := by
  have ef : a.eval (.func f) = .func (.func f) #[] #[] := rfl; unfold execOp; simp [hop, resolve, Deferred.ofValue, invoke, ef]

theorem Fut.ext0 (F : Fut P main D Ψ) (ho : ops[i]? = some o) (hw : Region.wanted o (yielded ops a.tmps) = true) (hk : b.kind ≠ .early) (hr : ∀ d, (execOp a.eval o).run P (w.at d) = .ok (.value v) (w.at d)) (he : ∀ d, ∀ e ∈ (execOp a.eval o).events P (w.at d) #[], Drops e)
    (h : Ψ (G (b.at (a.put o.dst v) (.inRegion ops rest :: k)) cs) w) : Ψ (G (b.at a (.inRegion ops (i :: rest) :: k)) cs) w :=
  F.step _ _ rfl fun d => by
    have hl : listed P b.fn a o (w.at d) = #[] := by
      rw [Array.eq_empty_iff_forall_not_mem]; intro e hm; obtain ⟨h1, h2⟩ := mem_listed2 hm; exact h2 (he d e h1)
    refine ⟨_, w.at d, _, by rw [stepG_value ho hw hk (hr d), hl], F.idle _ _, F.at' _ _ _ h, fun z y _ hR => ?_⟩; obtain ⟨h1, h2⟩ := op_set (z := z) y (hr d) (fun e hm => (he d e hm).loc z) hR; have hl' : listed P b.fn a o ((w.at d).setCell z y) = #[] := by unfold listed; unfold raw at h2; rw [h2]; exact hl
    rw [stepG_value ho hw hk h1, hl']

theorem Fut.ext0c (F : Fut P main D Ψ) (ho : ops[i]? = some o) (hw : Region.wanted o (yielded ops a.tmps) = true) (hk : b.kind ≠ .early) {args : Array Operand} {ats : Array TypeId} (hop : o.op = .call { callee := .value (.func f), args, argTypes := ats })
    (hf : P.funcs[f]? = some fn) (hname : (fn.name == "runtime.NumGoroutine") = false) (hb : fn.body.isNone = true) (hn : Extern.findNext fn = none) (he : Extern.find fn = some x)
    (hr : ∀ d, (x (args.map a.eval)).run P (w.at d) = .ok v (w.at d)) (hev : ∀ d es, (x (args.map a.eval)).events P (w.at d) es = es)
    (h : Ψ (G (b.at (a.put o.dst v) (.inRegion ops rest :: k)) cs) w) : Ψ (G (b.at a (.inRegion ops (i :: rest) :: k)) cs) w :=
  F.ext0 ho hw hk (v := v) (fun d => by rw [exec_ext hop, run_callFunc_extern hf hname hb hn he, hr d]; rfl) (fun d e hm => by
    rw [exec_ext hop, events_callFunc_extern hf hname hb hn he, hev] at hm
    simp at hm
    rw [hm]; exact fun _ _ _ => rfl) h

theorem Fut.ext0m (F : Fut P main D Ψ) (ho : ops[i]? = some o) (hw : Region.wanted o (yielded ops a.tmps) = true) (hk : b.kind ≠ .early) {r : Operand} {nm : String} {args : Array Operand} {ats : Array TypeId} (hop : o.op = .call { callee := .invoke r nm, args, argTypes := ats })
    {t : TypeId} {rv rc : Value} (hrv : a.eval r = .iface t rv) (hm : ∀ W : World, (Go.method (P.types.size + Made.depth) t rv nm).run P W = .ok (f, rc) W) (hme : ∀ (W : World) es, (Go.method (P.types.size + Made.depth) t rv nm).events P W es = es)
    (hf : P.funcs[f]? = some fn) (hname : (fn.name == "runtime.NumGoroutine") = false) (hb : fn.body.isNone = true) (hn : Extern.findNext fn = none) (he : Extern.find fn = some x)
    (hr : ∀ d, (x (#[rc] ++ args.map a.eval)).run P (w.at d) = .ok v (w.at d)) (hev : ∀ d es, (x (#[rc] ++ args.map a.eval)).events P (w.at d) es = es)
    (h : Ψ (G (b.at (a.put o.dst v) (.inRegion ops rest :: k)) cs) w) : Ψ (G (b.at a (.inRegion ops (i :: rest) :: k)) cs) w := by
  have e1 : execOp a.eval o = callMethod (.iface t rv) nm (args.map a.eval) := by
    unfold execOp; simp [hop, resolve, Deferred.ofValue, Go.invoke, hrv]; rw [Array.getElem?_append_left (by simp)]; simp [Array.extract_eq_self_of_le]
  have e2 : ∀ W : World, (callMethod (.iface t rv) nm (args.map a.eval)).run P W = (callFunc f (#[rc] ++ args.map a.eval)).run P W := fun W => by
    simp only [callMethod, Sem.run_bind, run_program, Result.andThen_ok, hm]
  have e3 : ∀ (W : World) es, (callMethod (.iface t rv) nm (args.map a.eval)).events P W es = (callFunc f (#[rc] ++ args.map a.eval)).events P W es := fun W es => by
    simp only [callMethod, Sem.events_bind, run_program, events_program, Result.evThen_ok, hm, hme]
  exact F.ext0 ho hw hk (v := v) (fun d => by rw [e1, e2, run_callFunc_extern hf hname hb hn he, hr d]; rfl) (fun d e hx => by
    rw [e1, e3, events_callFunc_extern hf hname hb hn he, hev] at hx
    simp at hx
    rw [hx]; exact fun _ _ _ => rfl) h

theorem Fut.invoke (F : Fut P main D Ψ) (ho : ops[i]? = some o) (hw : Region.wanted o (yielded ops a.tmps) = true) (hk : b.kind ≠ .early) {r : Operand} {nm : String} {args : Array Operand} {ats : Array TypeId} (hop : o.op = .call { callee := .invoke r nm, args, argTypes := ats })
    {t : TypeId} {rv rc : Value} (hrv : a.eval r = .iface t rv) (hm : ∀ W : World, (Go.method (P.types.size + Made.depth) t rv nm).run P W = .ok (f, rc) W) (hme : ∀ (W : World) es, (Go.method (P.types.size + Made.depth) t rv nm).events P W es = es)
    (hf : P.funcs[f]? = some fn) (hname : (fn.name == "runtime.NumGoroutine") = false) (hb : fn.body.isNone = false)
    (h : Ψ (G (Frame.enter P f (#[rc] ++ args.map a.eval) .normal) (b.at a (.inRegion ops (i :: rest) :: k) :: cs)) w) : Ψ (G (b.at a (.inRegion ops (i :: rest) :: k)) cs) w := by
  have h1 : ¬ fn.name = "runtime.NumGoroutine" := by simpa using hname
  have h2 : ¬ fn.body = none := by cases hx : fn.body <;> simp_all
  have e1 : execOp a.eval o = callMethod (.iface t rv) nm (args.map a.eval) := by
    unfold execOp; simp [hop, resolve, Deferred.ofValue, Go.invoke, hrv]; rw [Array.getElem?_append_left (by simp)]; simp [Array.extract_eq_self_of_le]
  refine F.enter ho hw hk (fun d => ?_) (fun d => ?_) h
  · rw [e1]
    simp [callMethod, hm, callFunc, hf, h1, h2]
  · rw [e1]
    simp [callMethod, hm, hme, callFunc, hf, h1, h2]
end

/-! ### Closed facts at this program's types. 168: *Link, 171: Kind, 170: **Link, 217: rtype, 121: error -/
theorem mEnter138 (p : Value) (w : World) : (Go.method (Tryz.prog.types.size + Made.depth) 138 p "Enter").run Tryz.prog w = .ok (146, p) w := by kernel_rfl
theorem mEnter138e (p : Value) (w : World) (es : Array Event) : (Go.method (Tryz.prog.types.size + Made.depth) 138 p "Enter").events Tryz.prog w es = es := by kernel_rfl
end
section
open Go.Conc Go.RowKit Go.Extern
variable {Ok : Addr → Bool → Prop} {main : Bool}

theorem evNil (t : TypeId) (p : Value) (w : World) : (binOp .eql 121 (.iface t p) .nilIface).events Tryz.prog w #[] = #[] := by kernel_rfl
theorem evNil20 (t : TypeId) (p : Value) (w : World) : (binOp .eql 20 (.iface t p) .nilIface).events Tryz.prog w #[] = #[] := by kernel_rfl
theorem evNN (w : World) : (binOp .eql 121 .nilIface .nilIface).events Tryz.prog w #[] = #[] := by kernel_rfl
end
section
open Go.Conc Go.RowKit

def ccall (f : FuncId) (cap : Array Value) : Deferred := { target := .fn (.func f) cap, args := #[] }

section
variable {P : Program} {main : Bool} {D : World → World → Array Event → Prop} {Ψ : Goroutine → World → Prop} {b : Frame} {a : Act} {k : List Item} {cs : List Frame} {w : World} {ops : Array Oper} {i : Nat} {rest : List Nat} {o : Oper} {f : FuncId} {fn : Func} {cap : Array Value} {todo : List Item} {ds : List Deferred}

theorem stepG_deferC (ho : ops[i]? = some o) (hw : Region.wanted o (yielded ops a.tmps) = true) (hk : b.kind ≠ .early) (hro : b.roundOf = none) {r : Operand} {ats : Array TypeId} (hop : o.op = .defer { callee := .value r, args := #[], argTypes := ats }) (hr : a.eval r = .func (.func f) #[] cap) :
    stepG P main (G (b.at a (.inRegion ops (i :: rest) :: k)) cs) w = .go (G (b.at (Act.put ⟨a.tmps, ccall f cap :: a.defers⟩ o.dst undef) (.inRegion ops rest :: k)) cs) w #[] := by
  have h1 : (execOp a.eval o).run P w = .ok (.defer (ccall f cap)) w := by
    unfold execOp; simp [hop, resolve, Deferred.ofValue, hr, ccall]
  have he : (execOp a.eval o).events P w #[] = #[] := by
    unfold execOp; simp [hop, resolve, Deferred.ofValue, hr]
  have hfin : (b.at ⟨a.tmps, ccall f cap :: a.defers⟩ (.inRegion ops (i :: rest) :: k)).finish undef = b.at (Act.put ⟨a.tmps, ccall f cap :: a.defers⟩ o.dst undef) (.inRegion ops rest :: k) := by rw [Frame.finish_at, ho]; rfl
  have hk' : (b.kind == CallKind.early) = false := by simpa using hk
  rw [stepG_oper ho hw, ← hfin]; simp [stepG.apply, h1, he, G, Frame.at, hk', GStep.after, seen_none]

theorem Fut.deferC (F : Fut P main D Ψ) (ho : ops[i]? = some o) (hw : Region.wanted o (yielded ops a.tmps) = true) (hk : b.kind ≠ .early) (hro : b.roundOf = none) {r : Operand} {ats : Array TypeId} (hop : o.op = .defer { callee := .value r, args := #[], argTypes := ats }) (hr : a.eval r = .func (.func f) #[] cap)
    (h : Ψ (G (b.at (Act.put ⟨a.tmps, ccall f cap :: a.defers⟩ o.dst undef) (.inRegion ops rest :: k)) cs) w) : Ψ (G (b.at a (.inRegion ops (i :: rest) :: k)) cs) w :=
  F.ctl (fun _ => stepG_deferC ho hw hk hro hop hr) h

theorem stepG_unwindC {c : Code} (hd : a.defers = ccall f cap :: ds) (hf : P.funcs[f]? = some fn) (hname : (fn.name == "runtime.NumGoroutine") = false) (hb : fn.body = some c) :
    stepG P main (G { b.at a todo with mode := .returning } cs) w =
      .go (G ((baseD f).at { tmps := cap ++ Array.replicate (fn.ntmps - cap.size) undef, defers := [] } [.code c]) ({ b.at ⟨a.tmps, ds⟩ todo with mode := .returning } :: cs)) w #[] := by
  have h1 : ¬ fn.name = "runtime.NumGoroutine" := by simpa using hname
  rw [← enter_atD cap hf hb]; simp [G, stepG, unwind, callDeferred, Frame.at, hd, ccall, invoke, callFunc, hf, h1, hb, GStep.after, seen_none]

theorem Fut.unwindC (F : Fut P main D Ψ) {c : Code} (hd : a.defers = ccall f cap :: ds) (hf : P.funcs[f]? = some fn) (hname : (fn.name == "runtime.NumGoroutine") = false) (hb : fn.body = some c)
    (h : Ψ (G ((baseD f).at { tmps := cap ++ Array.replicate (fn.ntmps - cap.size) undef, defers := [] } [.code c]) ({ b.at ⟨a.tmps, ds⟩ todo with mode := .returning } :: cs)) w) : Ψ (G { b.at a todo with mode := .returning } cs) w :=
  F.ctl (fun _ => stepG_unwindC hd hf hname hb) h

theorem stepG_recoverNil (ho : ops[i]? = some o) (hw : Region.wanted o (yielded ops a.tmps) = true) (hk : b.kind = .deferred) (hro : b.roundOf = none) {ats : Array TypeId} (hop : o.op = .call { callee := .builtin .recover, args := #[], argTypes := ats }) {c : Frame} (hc : c.mode = .returning) :
    stepG P main (G (b.at a (.inRegion ops (i :: rest) :: k)) (c :: cs)) w = .go (G (b.at (a.put o.dst .nilIface) (.inRegion ops rest :: k)) (c :: cs)) w #[] := by
  have h1 : (execOp a.eval o).run P w = .ok .recover w := by
    unfold execOp; simp [hop, resolve, invoke, builtin]
  have he : (execOp a.eval o).events P w #[] = #[] := by
    unfold execOp; simp [hop, resolve, invoke, builtin]
  have hfin : (b.at a (.inRegion ops (i :: rest) :: k)).finish .nilIface = b.at (a.put o.dst .nilIface) (.inRegion ops rest :: k) := by rw [Frame.finish_at, ho]; rfl
  rw [stepG_oper ho hw, ← hfin]; simp [stepG.apply, h1, he, G, Frame.at, hk, hro, GStep.after, seen_none, tryRecover, hc]

theorem Fut.recoverNil (F : Fut P main D Ψ) (ho : ops[i]? = some o) (hw : Region.wanted o (yielded ops a.tmps) = true) (hk : b.kind = .deferred) (hro : b.roundOf = none) {ats : Array TypeId} (hop : o.op = .call { callee := .builtin .recover, args := #[], argTypes := ats }) {c : Frame} (hc : c.mode = .returning)
    (h : Ψ (G (b.at (a.put o.dst .nilIface) (.inRegion ops rest :: k)) (c :: cs)) w) : Ψ (G (b.at a (.inRegion ops (i :: rest) :: k)) (c :: cs)) w :=
  F.ctl (fun _ => stepG_recoverNil ho hw hk hro hop hc) h

theorem Fut.leaveD (F : Fut P main D Ψ) {c : Frame} {v : Value} (hn : b.kind = .deferred) (hd : a.defers = []) (hf : P.funcs[b.fn]? = some fn) (hr : ResultsC P fn a.tmps v) (hc : c.mode = .returning) (h : Ψ (G c cs) w) : Ψ (G { b.at a todo with mode := .returning } (c :: cs)) w :=
  F.ctl (fun w => stepG_leave_deferred hn hd hf (hr w).1 (hr w).2 hc) h
end
end
section
open Go.Conc Go.RowKit

/-- What has been raised, and has not been recovered; what has. -/
abbrev blown (v : Value) : List PanicEntry := [{ v, recovered := false }]
abbrev caught (v : Value) : List PanicEntry := [{ v, recovered := true }]

section
variable {P : Program} {main : Bool} {D : World → World → Array Event → Prop} {Ψ : Goroutine → World → Prop} {b : Frame} {a : Act} {k : List Item} {cs : List Frame} {w : World} {ops : Array Oper} {i : Nat} {rest : List Nat} {o : Oper} {f : FuncId} {fn : Func} {cap : Array Value} {todo : List Item} {ds : List Deferred} {v : Value}

theorem stepG_panic (ho : ops[i]? = some o) (hw : Region.wanted o (yielded ops a.tmps) = true) (hm : b.mode = .run) {r : Operand} (hop : o.op = .panic r) {t : TypeId} {x : Value} (hr : a.eval r = .iface t x) :
    stepG P main (G (b.at a (.inRegion ops (i :: rest) :: k)) cs) w = .go (G { b.at a (.inRegion ops (i :: rest) :: k) with mode := .panicking (blown (.iface t x)) } cs) w #[] := by
  have h1 : (execOp a.eval o).run P w = .halt (.panic (.iface t x)) w := by
    unfold execOp; simp [hop, hr, Instr.panic, goPanic]
  have he : (execOp a.eval o).events P w #[] = #[] := by
    unfold execOp; simp [hop, hr, Instr.panic, goPanic]
  rw [stepG_oper ho hw]; simp [stepG.apply, h1, he, G, Frame.at, Frame.raise, GStep.after, seen_none, hm]
theorem Fut.panic (F : Fut P main D Ψ) (ho : ops[i]? = some o) (hw : Region.wanted o (yielded ops a.tmps) = true) (hm : b.mode = .run) {r : Operand} (hop : o.op = .panic r) {t : TypeId} {x : Value} (hr : a.eval r = .iface t x)
    (h : Ψ (G { b.at a (.inRegion ops (i :: rest) :: k) with mode := .panicking (blown (.iface t x)) } cs) w) : Ψ (G (b.at a (.inRegion ops (i :: rest) :: k)) cs) w :=
  F.ctl (fun _ => stepG_panic ho hw hm hop hr) h

theorem stepG_outwards {c : Frame} {ch : List PanicEntry} (hd : a.defers = []) (hf : P.funcs[b.fn]? = some fn) : stepG P main (G { b.at a todo with mode := .panicking ch } (c :: cs)) w = .go (G (c.raise ch) cs) w #[] := by
  simp [G, stepG, unwind, Frame.at, hd, Frame.catches, hf]
theorem Fut.outwards (F : Fut P main D Ψ) {c : Frame} {ch : List PanicEntry} (hd : a.defers = []) (hf : P.funcs[b.fn]? = some fn) (h : Ψ (G (c.raise ch) cs) w) : Ψ (G { b.at a todo with mode := .panicking ch } (c :: cs)) w :=
  F.ctl (fun _ => stepG_outwards hd hf) h

theorem stepG_unwindP {c : Code} {ch : List PanicEntry} (hd : a.defers = ccall f cap :: ds) (hf : P.funcs[f]? = some fn) (hname : (fn.name == "runtime.NumGoroutine") = false) (hb : fn.body = some c) :
    stepG P main (G { b.at a todo with mode := .panicking ch } cs) w =
      .go (G ((baseD f).at { tmps := cap ++ Array.replicate (fn.ntmps - cap.size) undef, defers := [] } [.code c]) ({ b.at ⟨a.tmps, ds⟩ todo with mode := .panicking ch } :: cs)) w #[] := by
  have h1 : ¬ fn.name = "runtime.NumGoroutine" := by simpa using hname
  rw [← enter_atD cap hf hb]; simp [G, stepG, unwind, callDeferred, Frame.at, hd, ccall, invoke, callFunc, hf, h1, hb, GStep.after, seen_none]
theorem Fut.unwindP (F : Fut P main D Ψ) {c : Code} {ch : List PanicEntry} (hd : a.defers = ccall f cap :: ds) (hf : P.funcs[f]? = some fn) (hname : (fn.name == "runtime.NumGoroutine") = false) (hb : fn.body = some c)
    (h : Ψ (G ((baseD f).at { tmps := cap ++ Array.replicate (fn.ntmps - cap.size) undef, defers := [] } [.code c]) ({ b.at ⟨a.tmps, ds⟩ todo with mode := .panicking ch } :: cs)) w) : Ψ (G { b.at a todo with mode := .panicking ch } cs) w :=
  F.ctl (fun _ => stepG_unwindP hd hf hname hb) h

theorem stepG_recover (ho : ops[i]? = some o) (hw : Region.wanted o (yielded ops a.tmps) = true) (hk : b.kind = .deferred) (hro : b.roundOf = none) {ats : Array TypeId} (hop : o.op = .call { callee := .builtin .recover, args := #[], argTypes := ats }) {c : Frame} (hc : c.mode = .panicking (blown v)) :
    stepG P main (G (b.at a (.inRegion ops (i :: rest) :: k)) (c :: cs)) w = .go (G (b.at (a.put o.dst v) (.inRegion ops rest :: k)) ({ c with mode := .panicking (caught v) } :: cs)) w #[] := by
  have h1 : (execOp a.eval o).run P w = .ok .recover w := by
    unfold execOp; simp [hop, resolve, invoke, builtin]
  have he : (execOp a.eval o).events P w #[] = #[] := by
    unfold execOp; simp [hop, resolve, invoke, builtin]
  have hfin : (b.at a (.inRegion ops (i :: rest) :: k)).finish v = b.at (a.put o.dst v) (.inRegion ops rest :: k) := by rw [Frame.finish_at, ho]; rfl
  rw [stepG_oper ho hw, ← hfin]; simp [stepG.apply, h1, he, G, Frame.at, hk, hro, GStep.after, seen_none, tryRecover, hc]
theorem Fut.recover (F : Fut P main D Ψ) (ho : ops[i]? = some o) (hw : Region.wanted o (yielded ops a.tmps) = true) (hk : b.kind = .deferred) (hro : b.roundOf = none) {ats : Array TypeId} (hop : o.op = .call { callee := .builtin .recover, args := #[], argTypes := ats }) {c : Frame} (hc : c.mode = .panicking (blown v))
    (h : Ψ (G (b.at (a.put o.dst v) (.inRegion ops rest :: k)) ({ c with mode := .panicking (caught v) } :: cs)) w) : Ψ (G (b.at a (.inRegion ops (i :: rest) :: k)) (c :: cs)) w :=
  F.ctl (fun _ => stepG_recover ho hw hk hro hop hc) h

theorem stepG_leaveR {c : Frame} {r : Value} (hn : b.kind = .deferred) (hd : a.defers = []) (hf : P.funcs[b.fn]? = some fn) (hr : ∀ w, (results fn a.tmps).run P w = .ok r w) (he : ∀ w, (results fn a.tmps).events P w #[] = #[]) (hc : c.mode = .panicking (caught v)) :
    stepG P main (G { b.at a todo with mode := .returning } (c :: cs)) w = .go (G { c with mode := .returning } cs) w #[] := by
  simp [G, stepG, unwind, doReturn, Frame.at, hd, hf, hr w, he w, hn, hc, GStep.after, seen_none]
theorem Fut.leaveR (F : Fut P main D Ψ) {c : Frame} {r : Value} (hn : b.kind = .deferred) (hd : a.defers = []) (hf : P.funcs[b.fn]? = some fn) (hr : ResultsC P fn a.tmps r) (hc : c.mode = .panicking (caught v)) (h : Ψ (G { c with mode := .returning } cs) w) : Ψ (G { b.at a todo with mode := .returning } (c :: cs)) w :=
  F.ctl (fun _ => stepG_leaveR hn hd hf (fun w => (hr w).1) (fun w => (hr w).2) hc) h
end
end
end Go.Proofs.YtobagnjnbmgidaaGreatDoor
