/- A task's goroutine from its start to its last hand-over. -/
import Derived.Test.YtobagnjnbmgidaaGreatDoorV10
import Derived.Test.YtobagnjnbmgidaaGreatDoorM8
set_option linter.unusedSimpArgs false
set_option linter.unusedVariables false
set_option maxHeartbeats 8000000
set_option maxRecDepth 100000
namespace Go.Proofs.YtobagnjnbmgidaaGreatDoor
open Go.Conc Go.RowKit Go.Extern

section
variable {P : Program} {main : Bool} {D : World → World → Array Event → Prop} {Ψ : Goroutine → World → Prop} {b : Frame} {a : Act} {k : List Item} {cs : List Frame} {w : World} {ops : Array Oper} {i : Nat} {rest : List Nat} {o : Oper} {f : FuncId} {fn : Func}

theorem run_callv {r : Operand} {args : Array Operand} {ats : Array TypeId} {first cap : Array Value} (hop : o.op = .call { callee := .value r, args, argTypes := ats }) (hr : a.eval r = .func (.func f) first cap) (hf : P.funcs[f]? = some fn) (hname : (fn.name == "runtime.NumGoroutine") = false) (hb : fn.body.isNone = false) (w : World) :
    (execOp a.eval o).run P w = .ok (.enter f (first ++ args.map a.eval ++ cap)) w ∧ (execOp a.eval o).events P w #[] = #[] := by
  have h1 : ¬ fn.name = "runtime.NumGoroutine" := by simpa using hname
  have h2 : ¬ fn.body = none := by cases hx : fn.body <;> simp_all
  constructor
  · unfold execOp
    simp [hop, resolve, Deferred.ofValue, Go.invoke, hr, callFunc, hf, h1, h2]
  · unfold execOp
    simp [hop, resolve, Deferred.ofValue, Go.invoke, hr, callFunc, hf, h1, h2]

theorem Fut.enterV (F : Fut P main D Ψ) (ho : ops[i]? = some o) (hw : Region.wanted o (yielded ops a.tmps) = true) (hk : b.kind ≠ .early) {r : Operand} {args : Array Operand} {ats : Array TypeId} {first cap : Array Value} (hop : o.op = .call { callee := .value r, args, argTypes := ats }) (hr : a.eval r = .func (.func f) first cap)
    (hf : P.funcs[f]? = some fn) (hname : (fn.name == "runtime.NumGoroutine") = false) (hb : fn.body.isNone = false)
    (h : Ψ (G (Frame.enter P f (first ++ args.map a.eval ++ cap) .normal) (b.at a (.inRegion ops (i :: rest) :: k) :: cs)) w) : Ψ (G (b.at a (.inRegion ops (i :: rest) :: k)) cs) w :=
  F.enter ho hw hk (fun _ => (run_callv hop hr hf hname hb _).1) (fun _ => (run_callv hop hr hf hname hb _).2) h
end

def bot (P : Program) : Frame := { (default : Frame) with fn := P.funcs.size, defers := [], mode := .panicking [goexitEntry] }
def body89 (f : Func) : Code := f.body.getD .skip
def call89 (bg bf : Nat) : Deferred := { target := .fn (.func 89) #[.pointer (some ⟨bg, 0, none⟩), .pointer (some ⟨bf, 0, none⟩)], args := #[] }
theorem born89 (bg bf : Nat) (w : World) : stepG Tryz.prog false (born Tryz.prog (call89 bg bf)) w = .go (G ((baseD 89).at ⟨#[.pointer (some ⟨bg, 0, none⟩), .pointer (some ⟨bf, 0, none⟩), undef, undef, undef], []⟩ [.code (body89 Tryz.f89)]) [(bot Tryz.prog)]) w #[] := by
  simp [born, call89, stepG, unwind, callDeferred, invoke, callFunc, Tryz.func89, Tryz.f89, seen, GStep.after, G, Frame.enter, Frame.at, baseD, bot, body89]
theorem quits89 (T : Array Value) : ∃ n, QuitsD Tryz.prog n 0 (G { (baseD 89).at ⟨T, []⟩ [] with mode := .returning } [(bot Tryz.prog)]) := by
  refine ⟨2, QuitsD.ctl (g' := G (bot Tryz.prog) []) rfl (fun w => ?_) ?_⟩
  · simp [G, stepG, unwind, doReturn, results, Frame.at, baseD, bot, Tryz.func89, Tryz.f89, seen, GStep.after, goexitEntry]
  refine QuitsD.ctl (g' := { G (bot Tryz.prog) [] with status := .finished }) rfl (fun w => ?_) ⟨rfl, rfl⟩; simp [G, stepG, unwind, bot, goexitEntry, Frame.catches]
  rfl

theorem listed_norace {P : Program} {fn : FuncId} {a : Act} {o : Oper} {w : World} {ad : Addr} (hq : (P.funcs[fn]?).any (·.norace) = true) (he : (execOp a.eval o).events P w #[] = #[⟨.cell ad, false, false⟩]) : listed P fn a o w = #[] := by
  unfold listed; rw [he, seen_def]; simp [seenStep, hq]

section
variable {P : Program} {main : Bool} {K : World → Prop} {Ev : Event → Prop} {Ψ : Goroutine → Prop} {b : Frame} {a A : Act} {k : List Item} {cs : List Frame} {ops : Array Oper} {i : Nat} {rest : List Nat} {o : Oper} {Gp : Grp} {g g' g₁ g₂ : Goroutine}
theorem QF.opn (F : QF P main K Ev Ψ) (ho : ops[i]? = some o) (hw : Region.wanted o (yielded ops a.tmps) = true) (hk : b.kind ≠ .early) (hl : ∀ w, K w → listed P b.fn a o w = #[])
    (h : ∀ w, K w → uponK o a (fun a' w' => w' = w ∧ a' = A) ((execOp a.eval o).run P w)) (hn : Ψ (G (b.at A (.inRegion ops rest :: k)) cs)) : Ψ (G (b.at a (.inRegion ops (i :: rest) :: k)) cs) := by
  refine F.step _ _ rfl (fun w hK => ⟨#[], ?_, fun e hm => by simp at hm⟩) hn; have := goes_oper_k (P := P) (main := main) (k := k) (cs := cs) (rest := rest) (K := fun g' w' es => g' = G (b.at A (.inRegion ops rest :: k)) cs ∧ w' = w ∧ es = listed P b.fn a o w) ho hw hk (fun K' hK' => uponK_mono (fun a' w' x => by obtain ⟨rfl, rfl⟩ := x; exact hK' _ _ ⟨rfl, rfl, rfl⟩) (h w hK))
  revert this
  cases stepG P main (G (b.at a (.inRegion ops (i :: rest) :: k)) cs) w <;> intro this
  case go g' w' es => rw [goes_go] at this; obtain ⟨rfl, rfl, rfl⟩ := this; rw [hl _ hK]
  all_goals exact this.elim

end

/-- What ends a task: it hands over for the last time. -/
structure EndU (A ech bg : Nat) (a : Goroutine) : Prop where
  run : a.status = .running
  send : ∀ W, stepG Tryz.prog false a W = .comm a #[scase ech (.agg #[]) (.tuple #[])] true .send W #[]
  dp : ∀ K : World → Prop, (∀ W, K W → ∃ v, W.cell? ⟨A, 5, none⟩ = some v) → (∀ W, K W → W.cell? ⟨bg, 0, none⟩ = some (.pointer (some ⟨A, 5, none⟩))) → ∃ n, DP Tryz.prog K (grp A) n 0 (Go.Conc.served a undef)

section
variable {γ : Type} {e : Tk} {St : Addr → Prop} {M0 : Nat} {Ψ : Ph γ → Goroutine → World → Prop}

theorem task_u (W : FutU e St M0 Ψ) (p : Ph γ) (bg bf bw bt X B HD O bo bi bl n : Nat) (now k0 k1 k2 : Int) (en ev : Value) (m : List Value) (w0 : World) (I : BIn e St M0 p B HD now k0 k1 k2 en ev m w0) (sG : St ⟨0, 0, none⟩) (rG : e.ro ⟨0, 0, none⟩) (hg : w0.cell? ⟨0, 0, none⟩ = some (.iface 217 (.agg #[.pointer (some ⟨1, 121, none⟩)])))
    (hin : e.cl < n) (hO : w0.cell? ⟨bo, 0, none⟩ = some (.slice (some ⟨O, 0, none⟩) n n)) (hi : w0.cell? ⟨bi, 0, none⟩ = some (.int .i64 (e.cl : Int))) (hl : w0.cell? ⟨bl, 0, none⟩ = some (.iface 138 (.pointer (some ⟨B, 0, none⟩))))
    (sO : St ⟨bo, 0, none⟩) (si : St ⟨bi, 0, none⟩) (sl : St ⟨bl, 0, none⟩) (rO : e.ro ⟨bo, 0, none⟩) (ri : e.ro ⟨bi, 0, none⟩) (rl : e.ro ⟨bl, 0, none⟩) (z0 : OutAt w0 O e.cl 0 0 0 none 0 0) (zf : ∀ x ∈ outC O e.cl, w0.frozen? x = false) (sC : ∀ x ∈ outC O e.cl, St x ∧ e.rw x)
    (hbf : w0.cell? ⟨bf, 0, none⟩ = some (.func (.func 62) #[] #[.pointer (some ⟨bw, 0, none⟩), .pointer (some ⟨bt, 0, none⟩), .pointer (some ⟨X, 0, none⟩)])) (hbw : w0.cell? ⟨bw, 0, none⟩ = some (.func (.func 37) #[] #[.pointer (some ⟨bl, 0, none⟩), .pointer (some ⟨bo, 0, none⟩), .pointer (some ⟨bi, 0, none⟩)])) (hbt : w0.cell? ⟨bt, 0, none⟩ = some (.pointer (some ⟨e.T, 0, none⟩))) (hX : w0.cell? ⟨X, 0, none⟩ = some (.pointer (some ⟨e.A, 0, none⟩)))
    (st : St ⟨bt, 0, none⟩) (sX : St ⟨X, 0, none⟩) (rf : e.ro ⟨bf, 0, none⟩) (rw : e.ro ⟨bw, 0, none⟩) (rt : e.ro ⟨bt, 0, none⟩) (rX : e.ro ⟨X, 0, none⟩) (dO : ∀ y ∈ [bt, X, e.T, e.A], y ≠ O) (dT : ∀ y ∈ [bt, X, e.A], y ≠ e.T)
    (hc : ∀ p' g a b c' x k cap w2 w3 w' en' ev' m', EndU e.A e.ech bg g → Dn e St M0 (now + k2) w0 en ev p' w2 en' ev' m' → OutU k0 k1 (now + k2) p'.M w2 en' ev' (.agg #[.int .i64 a, .int .i64 b, .int .i64 c', .slice x k cap]) → Kp [] w2 w3 (outC O e.cl) → OutAt w3 O e.cl a b c' x k cap → Kp [] w3 w' [⟨e.T, 7, none⟩] → Ψ p' g w') :
    Ψ p (born Tryz.prog (call89 bg bf)) w0 := by
  have F := W.f p; have t6 := evNe20; have t7 := evNN20; have hg0 : goInt 0 = .int .i64 0 := rfl; refine (cf_fut F w0).step _ _ rfl (fun w _ => ⟨#[], born89 bg bf w, by simp⟩) ?_; have o1 := I.ok.st _ rf; have o2 := I.ok.st _ rw; have o3 := I.ok.st _ rt; unfold body89; refine F.sr ?_; simp only [rg, Nat.reduceAdd]; refine F.oq rfl rfl rfl (by simp [go_sem]) fun d K h => ?_; go_simp; refine h _ ?_; clear h K d; try walk_nrm
  refine F.deferC rfl rfl (by decide) rfl rfl rfl ?_; walk_nrm; refine F.er ?_; simp only [rg, Nat.reduceAdd]; refine F.ol rfl rfl rfl fun d K h => ?_; go_simp; refine h _ (fun e m => ?_) ?_; simp [go_sem, *] at m; subst m; exact evr (w := w0) (by assumption) (by first | assumption | (apply hfr <;> dsimp only <;> omega)); clear h K d; try walk_nrm
  refine F.enterV rfl rfl (by decide) rfl rfl Tryz.func62 (by rfl) (by rfl) ?_; try walk_nrm
  rw [enter_at _ Tryz.func62 rfl]; simp only [Tryz.ntmps62, List.size_toArray, List.length_cons, List.length_nil, Nat.reduceAdd, Nat.reduceSub, Array.replicate_succ, Array.replicate_zero, List.push_toArray, List.append_toArray, List.nil_append, List.cons_append]; refine F.sr ?_; simp only [rg, Nat.reduceAdd]; refine F.ol rfl rfl rfl fun d K h => ?_; go_simp; refine h _ (fun e m => ?_) ?_; simp [go_sem, *] at m; subst m; exact evr (w := w0) (by assumption) (by first | assumption | (apply hfr <;> dsimp only <;> omega)); clear h K d; try walk_nrm
  refine F.ol rfl rfl rfl fun d K h => ?_; go_simp; refine h _ (fun e m => ?_) ?_; simp [go_sem, *] at m; subst m; exact evr (w := w0) (by assumption) (by first | assumption | (apply hfr <;> dsimp only <;> omega)); clear h K d; try walk_nrm
  refine F.enterV rfl rfl (by decide) rfl rfl Tryz.func37 (by rfl) (by rfl) ?_; try walk_nrm
  refine run1_u W p _ _ B HD O bo bi bl n now k0 k1 k2 en ev m w0 I sG rG hg hin hO hi hl sO si sl rO ri rl z0 zf sC (fun p' y1 y2 y3 y4 y5 y6 w2 w3 en2 ev2 m2 hd ho k3 q3 => ?_); clear F; have F := W.f p'
  have cO : ∀ (b i : Nat), b ∈ [bt, X, e.T, e.A] → (⟨b, i, none⟩ : Addr) ∉ outC O e.cl := fun b i hb z => by
    have := dO b hb; simp [outC, this] at z
  have hbt1 := k3.cellC _ _ (by simp) (cO bt 0 (by simp)) (hd.tr.stat _ _ st hbt).1; have hX0 := k3.cellC _ _ (by simp) (cO X 0 (by simp)) (hd.tr.stat _ _ sX hX).1; have hA4 := k3.cellC _ _ (by simp) (cO e.A 4 (by simp)) hd.tw.a4; have ht7 := k3.cellC _ _ (by simp) (cO e.T 7 (by simp)) hd.tw.t7; have zt7 := (k3.frozC _ _ (by simp) (cO e.T 7 (by simp)) hd.tw.t7).trans hd.tw.z7; have n1 := dT bt (by simp); have n2 := dT X (by simp); have n3 := dT e.A (by simp); have o4 := hd.ok.st _ rt; have o5 := hd.ok.st _ rX; have o6 := hd.ok.a4; have o7 := hd.ok.t7w; clear hbf hbw hbt hO hi hl z0 o1 o2 o3; have kp : Kp [] w3 w3 [⟨e.T, 7, none⟩] := Kp.refl _; rw [Frame.finish_at]; try walk_nrm
  refine F.esr ?_; simp only [rg, Nat.reduceAdd]; refine F.ol rfl rfl rfl fun d K h => ?_; go_simp; refine h _ (fun e m => ?_) ?_; simp [go_sem, *] at m; subst m; exact evr (w := w3) (by assumption) (by first | assumption | (apply hfr <;> dsimp only <;> omega)); clear h K d; try walk_nrm
  iterate 2 (refine F.oq rfl rfl rfl (by simp [go_sem]) fun d K h => ?_; go_simp; refine h _ ?_; clear h K d; try walk_nrm)
  refine F.op rfl rfl (by decide) (fun d K hK => ?_); go_simp; rw [setCell_at']; refine hK _ _ ⟨DX.set _ (by (first | assumption | (apply hfr <;> dsimp only <;> omega))) (fun e he => ?_), ?_⟩
  · have hm := mem_listed he
    simp [go_sem, storedEv, evst_slice, evst_ptr, evst_iface, evst_nil, evst_bool, *] at hm; subst hm; exact .inl ⟨_, rfl, rfl, by (first | assumption | (apply hfr <;> dsimp only <;> omega)), by simp only [size_at, size_set]; first | omega | exact lt_of_cell (by assumption)⟩
  clear hK K d; try walk_nrm
  generalize ew4 : World.setCell w3 _ _ = w4; have sz4 := sz_st2 ew4; replace zt7 := fz_st zt7 ew4; replace hX0 := cl_st hX0 ew4 (by simp <;> omega); replace hA4 := cl_st hA4 ew4 (by simp <;> omega); replace hbt1 := cl_st hbt1 ew4 (by simp <;> omega); replace ht7 := cl_st' ht7 ew4; replace kp := kp.stN ew4 (by first | (left; simp; done) | (right; left; simp; done) | (right; right; dsimp only; omega)); refine F.er ?_; simp only [rg, Nat.reduceAdd]; refine F.ol rfl rfl rfl fun d K h => ?_; go_simp; refine h _ (fun e m => ?_) ?_; simp [go_sem, *] at m; subst m; exact evr (w := w4) (by assumption) (by first | assumption | (apply hfr <;> dsimp only <;> omega)); clear h K d; try walk_nrm
  iterate 2 (refine F.oq rfl rfl rfl (by simp [go_sem]) fun d K h => ?_; go_simp; refine h _ ?_; clear h K d; try walk_nrm)
  refine F.ol rfl rfl rfl fun d K h => ?_; go_simp; refine h _ (fun e m => ?_) ?_; simp [go_sem, *] at m; subst m; exact evr (w := w4) (by assumption) (by first | assumption | (apply hfr <;> dsimp only <;> omega)); clear h K d; try walk_nrm
  refine F.oq rfl rfl rfl (by simp [go_sem]) fun d K h => ?_; go_simp; refine h _ ?_; clear h K d; try walk_nrm
  refine hc p' _ _ _ _ _ _ _ w2 w3 w4 en2 ev2 m2 ⟨rfl, fun d => ?_, fun KK h5 hbg => ?_⟩ hd ho k3 q3 kp
  · rw [stepG_comm (cases := #[scase e.ech (.agg #[]) (.tuple #[])]) (blocking := true) (shape := .send) (w' := d) rfl rfl (by decide) (by simp [execOp, scase, Act.eval])]
    rw [listed_nil (by simp [go_sem, execOp, Act.eval])]
  clear F; have F := qf_dp (P := Tryz.prog) (K := KK) (Gp := grp e.A) 0; rw [served_fr, Frame.finish_at]; try walk_nrm
  refine F.re ?_; refine F.ctl (fun _ => stepG_end) ?_; refine F.leave rfl rfl Tryz.func62 (resultsC_none (by rfl) _) ?_; rw [Frame.finish_at]; try walk_nrm
  refine F.re ?_; refine F.ctl (fun _ => stepG_end) ?_; refine F.ctl (fun _ => stepG_unwindC rfl Tryz.func90 (by rfl) rfl) ?_; simp only [Tryz.ntmps90, List.size_toArray, List.length_cons, List.length_nil, Nat.reduceAdd, Nat.reduceSub, Array.replicate_succ, Array.replicate_zero, List.push_toArray, List.append_toArray, List.nil_append, List.cons_append]; refine F.sq ?_; refine F.sr ?_; simp only [rg, Nat.reduceAdd]; refine F.ctl (fun _ => stepG_recoverNil rfl rfl rfl rfl rfl rfl) ?_; walk_nrm; refine F.oq rfl rfl rfl (by simp [go_sem]) (fun w hw => by go_simp; first | exact ⟨rfl, rfl⟩ | exact rfl) ?_; try walk_nrm
  refine F.esr ?_; simp only [rg, Nat.reduceAdd]; iterate 2 (refine F.oq rfl rfl rfl (fun w hw => by first | (simp [go_sem]; done) | simp [go_sem, Instr.makeInterface, Instr.makeFunc, *]) (fun w hw => by go_simp; first | exact ⟨rfl, rfl⟩ | exact rfl) ?_; try walk_nrm)
  refine F.re ?_; refine F.cf rfl ?_; refine F.sk ?_; refine F.rr ?_; simp only [rg, Nat.reduceAdd]
  apply F.opn rfl rfl (by decide)
  · intro w hw
    exact listed_norace (ad := ⟨bg, 0, none⟩) (by kernel_rfl) (by simp [go_sem, hbg w hw])
  · intro w hw
    have hfact := hbg w hw; go_simp
    first | exact ⟨rfl, rfl⟩ | exact rfl
  try walk_nrm
  refine F.enter rfl rfl (by decide) (fun _ => run_call_body rfl Tryz.func91 (by rfl) (by rfl)) (fun _ => events_call_body rfl Tryz.func91 (by rfl) (by rfl) _) ?_; walk_nrm; rw [enter_at _ Tryz.func91 rfl]; simp only [Tryz.ntmps91, List.size_toArray, List.length_cons, List.length_nil, Nat.reduceAdd, Nat.reduceSub, Array.replicate_succ, Array.replicate_zero, List.push_toArray, List.append_toArray, List.nil_append, List.cons_append]; refine F.rr ?_; simp only [rg, Nat.reduceAdd]; refine F.oq rfl rfl rfl (by simp [go_sem]) (fun w hw => by go_simp; first | exact ⟨rfl, rfl⟩ | exact rfl) ?_; try walk_nrm
  refine F.enter rfl rfl (by decide) (fun _ => run_call_body rfl Tryz.func88 (by rfl) (by rfl)) (fun _ => events_call_body rfl Tryz.func88 (by rfl) (by rfl) _) ?_; walk_nrm; refine done88_dp e.A h5 _ _ ?_; clear F; have F := qf_quits (P := Tryz.prog) 0; rw [Frame.finish_at]; try walk_nrm
  refine F.re ?_; refine F.ctl (fun _ => stepG_end) ?_; refine F.leave rfl rfl Tryz.func91 (resultsC_none (by rfl) _) ?_; rw [Frame.finish_at]; try walk_nrm
  refine F.re ?_; refine F.ctl (fun _ => stepG_end) ?_; refine F.ctl (fun w => stepG_leave_deferred rfl rfl Tryz.func90 (resultsC_none (by rfl) _ w).1 (resultsC_none (by rfl) _ w).2 rfl) ?_; exact quits89 _
end
end Go.Proofs.YtobagnjnbmgidaaGreatDoor
