/- Deferred closures in company. -/
import Derived.Test.YtobagnjnbmgidaaGreatDoorX20
set_option linter.unusedSimpArgs false
set_option linter.unusedVariables false
namespace Go.Proofs.YtobagnjnbmgidaaGreatDoor
open Go.Conc Go.RowKit

/-- The deferred call of a closure. -/
def ccall (f : FuncId) (cap : Array Value) : Deferred := { target := .fn (.func f) cap, args := #[] }

section
variable {P : Program} {main : Bool} {D : World → World → Array Event → Prop} {Ψ : Goroutine → World → Prop} {b : Frame} {a : Act} {k : List Item} {cs : List Frame} {w : World} {ops : Array Oper} {i : Nat} {rest : List Nat} {o : Oper} {f : FuncId} {fn : Func} {cap : Array Value} {todo : List Item} {ds : List Deferred}

theorem stepG_deferC (ho : ops[i]? = some o) (hw : Region.wanted o (yielded ops a.tmps) = true) (hk : b.kind ≠ .early) (hro : b.roundOf = none) {r : Operand} {ats : Array TypeId} (hop : o.op = .defer { callee := .value r, args := #[], argTypes := ats }) (hr : a.eval r = .func (.func f) #[] cap) :
    stepG P main (G (b.at a (.inRegion ops (i :: rest) :: k)) cs) w = .go (G (b.at (Act.put ⟨a.tmps, ccall f cap :: a.defers⟩ o.dst undef) (.inRegion ops rest :: k)) cs) w #[] := by
  have h1 : (execOp a.eval o).run P w = .ok (.defer (ccall f cap)) w := by
    unfold execOp
    simp [hop, resolve, Deferred.ofValue, hr, ccall]
  have he : (execOp a.eval o).events P w #[] = #[] := by
    unfold execOp
    simp [hop, resolve, Deferred.ofValue, hr]
  have hfin : (b.at ⟨a.tmps, ccall f cap :: a.defers⟩ (.inRegion ops (i :: rest) :: k)).finish undef = b.at (Act.put ⟨a.tmps, ccall f cap :: a.defers⟩ o.dst undef) (.inRegion ops rest :: k) := by rw [Frame.finish_at, ho]; rfl
  have hk' : (b.kind == CallKind.early) = false := by simpa using hk
  rw [stepG_oper ho hw, ← hfin]
  simp [stepG.apply, h1, he, G, Frame.at, hk', GStep.after, seen_none]

theorem Fut.deferC (F : Fut P main D Ψ) (ho : ops[i]? = some o) (hw : Region.wanted o (yielded ops a.tmps) = true) (hk : b.kind ≠ .early) (hro : b.roundOf = none) {r : Operand} {ats : Array TypeId} (hop : o.op = .defer { callee := .value r, args := #[], argTypes := ats }) (hr : a.eval r = .func (.func f) #[] cap)
    (h : Ψ (G (b.at (Act.put ⟨a.tmps, ccall f cap :: a.defers⟩ o.dst undef) (.inRegion ops rest :: k)) cs) w) : Ψ (G (b.at a (.inRegion ops (i :: rest) :: k)) cs) w :=
  F.ctl (fun _ => stepG_deferC ho hw hk hro hop hr) h

theorem stepG_unwindC {c : Code} (hd : a.defers = ccall f cap :: ds) (hf : P.funcs[f]? = some fn) (hname : (fn.name == "runtime.NumGoroutine") = false) (hb : fn.body = some c) :
    stepG P main (G { b.at a todo with mode := .returning } cs) w =
      .go (G ((baseD f).at { tmps := cap ++ Array.replicate (fn.ntmps - cap.size) undef, defers := [] } [.code c]) ({ b.at ⟨a.tmps, ds⟩ todo with mode := .returning } :: cs)) w #[] := by
  have h1 : ¬ fn.name = "runtime.NumGoroutine" := by simpa using hname
  rw [← enter_atD cap hf hb]
  simp [G, stepG, unwind, callDeferred, Frame.at, hd, ccall, invoke, callFunc, hf, h1, hb, GStep.after, seen_none]

theorem Fut.unwindC (F : Fut P main D Ψ) {c : Code} (hd : a.defers = ccall f cap :: ds) (hf : P.funcs[f]? = some fn) (hname : (fn.name == "runtime.NumGoroutine") = false) (hb : fn.body = some c)
    (h : Ψ (G ((baseD f).at { tmps := cap ++ Array.replicate (fn.ntmps - cap.size) undef, defers := [] } [.code c]) ({ b.at ⟨a.tmps, ds⟩ todo with mode := .returning } :: cs)) w) : Ψ (G { b.at a todo with mode := .returning } cs) w :=
  F.ctl (fun _ => stepG_unwindC hd hf hname hb) h

theorem stepG_recoverNil (ho : ops[i]? = some o) (hw : Region.wanted o (yielded ops a.tmps) = true) (hk : b.kind = .deferred) (hro : b.roundOf = none) {ats : Array TypeId} (hop : o.op = .call { callee := .builtin .recover, args := #[], argTypes := ats }) {c : Frame} (hc : c.mode = .returning) :
    stepG P main (G (b.at a (.inRegion ops (i :: rest) :: k)) (c :: cs)) w = .go (G (b.at (a.put o.dst .nilIface) (.inRegion ops rest :: k)) (c :: cs)) w #[] := by
  have h1 : (execOp a.eval o).run P w = .ok .recover w := by
    unfold execOp
    simp [hop, resolve, invoke, builtin]
  have he : (execOp a.eval o).events P w #[] = #[] := by
    unfold execOp
    simp [hop, resolve, invoke, builtin]
  have hfin : (b.at a (.inRegion ops (i :: rest) :: k)).finish .nilIface = b.at (a.put o.dst .nilIface) (.inRegion ops rest :: k) := by rw [Frame.finish_at, ho]; rfl
  rw [stepG_oper ho hw, ← hfin]
  simp [stepG.apply, h1, he, G, Frame.at, hk, hro, GStep.after, seen_none, tryRecover, hc]

theorem Fut.recoverNil (F : Fut P main D Ψ) (ho : ops[i]? = some o) (hw : Region.wanted o (yielded ops a.tmps) = true) (hk : b.kind = .deferred) (hro : b.roundOf = none) {ats : Array TypeId} (hop : o.op = .call { callee := .builtin .recover, args := #[], argTypes := ats }) {c : Frame} (hc : c.mode = .returning)
    (h : Ψ (G (b.at (a.put o.dst .nilIface) (.inRegion ops rest :: k)) (c :: cs)) w) : Ψ (G (b.at a (.inRegion ops (i :: rest) :: k)) (c :: cs)) w :=
  F.ctl (fun _ => stepG_recoverNil ho hw hk hro hop hc) h

theorem Fut.leaveD (F : Fut P main D Ψ) {c : Frame} {v : Value} (hn : b.kind = .deferred) (hd : a.defers = []) (hf : P.funcs[b.fn]? = some fn) (hr : ResultsC P fn a.tmps v) (hc : c.mode = .returning) (h : Ψ (G c cs) w) : Ψ (G { b.at a todo with mode := .returning } (c :: cs)) w :=
  F.ctl (fun w => stepG_leave_deferred hn hd hf (hr w).1 (hr w).2 hc) h
end
end Go.Proofs.YtobagnjnbmgidaaGreatDoor
