/- errors.Is. -/
import Derived.Test.YtobagnjnbmgidaaGreatDoorX18
set_option linter.unusedSimpArgs false
set_option linter.unusedVariables false
namespace Go.Proofs.YtobagnjnbmgidaaGreatDoor
open Go.Conc Go.RowKit Go.Extern
variable {Ok : Addr → Bool → Prop} {main : Bool}

set_option maxRecDepth 100000 in
theorem unwrap_x (q : Nat) (v0 : Value) (w0 : World) (h0 : w0.cell? ⟨q, 3, none⟩ = some v0) (o1 : Ok ⟨q, 3, none⟩ false) :
    CallsX Tryz.prog main (DX Ok) 214 #[.pointer (some ⟨q, 0, none⟩)] w0 fun v w' => v = v0 ∧ w' = w0 := by
  intro Ψ F c cs hc
  rw [enter_at _ Tryz.func214 rfl]
  simp only [Tryz.ntmps214, List.size_toArray, List.length_cons, List.length_nil, Nat.reduceAdd, Nat.reduceSub, Array.replicate_succ, Array.replicate_zero, List.push_toArray, List.append_toArray, List.nil_append, List.cons_append]
  refine F.sr ?_
  simp only [rg, Nat.reduceAdd]
  refine F.oq rfl rfl rfl (fun _ => by simp [go_sem]) fun d K hK => ?_; go_simp; refine hK _ ?_; clear hK K d; try walk_nrm
  refine F.esr ?_
  simp only [rg, Nat.reduceAdd]
  iterate 3 (refine F.oq rfl rfl rfl (fun _ => by simp [go_sem]) fun d K hK => ?_; go_simp; refine hK _ ?_; clear hK K d; try walk_nrm)
  refine F.op rfl rfl (by decide) (fun d K hK => ?_)
  go_simp
  refine hK _ _ ⟨DX.still _ (fun e he => ?_), ?_⟩
  · have hm := mem_listed he
    simp [go_sem, *] at hm
    subst hm
    exact .inl ⟨_, rfl, rfl, by (first | assumption | (apply hfr <;> dsimp only <;> omega) | (apply hok; simp; done)), lt_of_cell (w := w0) (by assumption)⟩
  clear hK K d
  try walk_nrm
  refine F.oq rfl rfl rfl (fun _ => by simp [go_sem]) fun d K hK => ?_; go_simp; refine hK _ ?_; clear hK K d; try walk_nrm
  refine F.re ?_
  refine F.ctl (fun _ => stepG_ret') ?_
  refine F.leave rfl rfl Tryz.func214 (resultsC_tmp (by rfl) _) ?_
  exact hc _ _ ⟨rfl, rfl⟩
theorem evEqP (p : Value) (t : Int) (w : World) : (binOp .eql 121 (.iface 168 p) (.iface 171 (.int .i64 t))).events Tryz.prog w #[] = #[] := by kernel_rfl
theorem evNil (t : TypeId) (p : Value) (w : World) : (binOp .eql 121 (.iface t p) .nilIface).events Tryz.prog w #[] = #[] := by kernel_rfl
theorem evNil20 (t : TypeId) (p : Value) (w : World) : (binOp .eql 20 (.iface t p) .nilIface).events Tryz.prog w #[] = #[] := by kernel_rfl
theorem evNN (w : World) : (binOp .eql 121 .nilIface .nilIface).events Tryz.prog w #[] = #[] := by kernel_rfl
theorem taIs (p : Value) (w : World) : (Instr.typeAssert (.iface 168 p) 121 269 true).run Tryz.prog w = .ok (.tuple #[.iface 168 p, .bool true]) w := by kernel_rfl
theorem taUn (p : Value) (w : World) : (Instr.typeAssert (.iface 168 p) 121 225 true).run Tryz.prog w = .ok (.tuple #[.iface 168 p, .bool true]) w := by kernel_rfl
theorem taUne (w : World) (p : Value) : (Instr.typeAssert (.iface 168 p) 121 225 true).events Tryz.prog w #[] = #[] := by kernel_rfl
theorem fI (w : World) (p : Value) : (Instr.typeAssert (.iface 168 p) 121 269 true).events Tryz.prog w #[] = #[] := by kernel_rfl

theorem evEq2 (w : World) : (binOp .eql 121 (.iface 171 (.int .i64 2)) (.iface 171 (.int .i64 1))).events Tryz.prog w #[] = #[] := by kernel_rfl
set_option maxRecDepth 100000 in
theorem linkIs2_x (q : Nat) (w0 : World) (h0 : w0.cell? ⟨q, 0, none⟩ = some (.int .i64 1)) (o1 : Ok ⟨q, 0, none⟩ false) :
    CallsX Tryz.prog main (DX Ok) 213 #[.pointer (some ⟨q, 0, none⟩), .iface 171 (.int .i64 2)] w0 fun v w' => v = .bool false ∧ w' = w0 := by
  intro Ψ F c cs hc
  rw [enter_at _ Tryz.func213 rfl]
  simp only [Tryz.ntmps213, List.size_toArray, List.length_cons, List.length_nil, Nat.reduceAdd, Nat.reduceSub, Array.replicate_succ, Array.replicate_zero, List.push_toArray, List.append_toArray, List.nil_append, List.cons_append]
  refine F.sr ?_
  simp only [rg, Nat.reduceAdd]
  refine F.oq rfl rfl rfl (fun _ => by simp [go_sem]) fun d K hK => ?_; go_simp; refine hK _ ?_; clear hK K d; try walk_nrm
  refine F.esr ?_
  simp only [rg, Nat.reduceAdd]
  iterate 4 (refine F.oq rfl rfl rfl (fun _ => by simp [go_sem]) fun d K hK => ?_; go_simp; refine hK _ ?_; clear hK K d; try walk_nrm)
  refine F.op rfl rfl (by decide) (fun d K hK => ?_)
  go_simp
  refine hK _ _ ⟨DX.still _ (fun e he => ?_), ?_⟩
  · have hm := mem_listed he
    simp [go_sem, *] at hm
    subst hm
    exact .inl ⟨_, rfl, rfl, by (first | assumption | (apply hfr <;> dsimp only <;> omega) | (apply hok; simp; done)), lt_of_cell (w := w0) (by assumption)⟩
  clear hK K d
  try walk_nrm
  refine F.oq rfl rfl rfl (fun _ => by first | (simp [go_sem]; done) | simp [go_sem, Instr.makeInterface, Instr.makeFunc, *]) fun d K hK => ?_; go_simp; refine hK _ ?_; clear hK K d; try walk_nrm
  have evE := evEq2
  iterate 2 (refine F.oq rfl rfl rfl (fun _ => by first | (simp [go_sem]; done) | simp [go_sem, Instr.makeInterface, Instr.makeFunc, *]) fun d K hK => ?_; go_simp; refine hK _ ?_; clear hK K d; try walk_nrm)
  refine F.re ?_
  refine F.ctl (fun _ => stepG_ret') ?_
  refine F.leave rfl rfl Tryz.func213 (resultsC_tmp (by rfl) _) ?_
  exact hc _ _ ⟨rfl, rfl⟩

set_option maxRecDepth 100000 in
set_option maxHeartbeats 4000000 in
theorem is2_x (q : Nat) (w0 : World) (h0 : w0.cell? ⟨q, 0, none⟩ = some (.int .i64 1)) (h3 : w0.cell? ⟨q, 3, none⟩ = some .nilIface) (o1 : Ok ⟨q, 0, none⟩ false) (o3 : Ok ⟨q, 3, none⟩ false) :
    CallsX Tryz.prog main (DX Ok) 164 #[.iface 168 (.pointer (some ⟨q, 0, none⟩)), .iface 171 (.int .i64 2), .bool true] w0 fun v w' => v = .bool false ∧ w' = w0 := by
  intro Ψ F c cs hc
  rw [enter_at _ Tryz.func164 rfl]
  simp only [Tryz.ntmps164, List.size_toArray, List.length_cons, List.length_nil, Nat.reduceAdd, Nat.reduceSub, Array.replicate_succ, Array.replicate_zero, List.push_toArray, List.append_toArray, List.nil_append, List.cons_append]
  have evE := evEqP
  have t1 := taIs
  have t2 := taUn
  have t3 := taUne
  have t4 := fI
  have t5 := evNil
  have t6 := evNN
  refine F.sr ?_
  simp only [rg, Nat.reduceAdd]
  refine F.oq rfl rfl rfl (fun _ => by simp [go_sem]) fun d K hK => ?_; go_simp; refine hK _ ?_; clear hK K d; try walk_nrm
  refine F.re ?_
  refine F.bl ?_
  refine F.ctl (fun _ => stepG_loop) ?_
  refine F.bl ?_
  refine F.sq ?_
  refine F.sr ?_
  simp only [rg, Nat.reduceAdd]
  iterate 6 (refine F.oq rfl rfl rfl (fun _ => by first | (simp [go_sem]; done) | simp [go_sem, Instr.makeInterface, Instr.makeFunc, *]) fun d K hK => ?_; go_simp; refine hK _ ?_; clear hK K d; try walk_nrm)
  refine F.re ?_
  refine F.cf rfl ?_
  refine F.sk ?_
  refine F.sq ?_
  refine F.sr ?_
  simp only [rg, Nat.reduceAdd]
  iterate 7 (refine F.oq rfl rfl rfl (fun _ => by first | (simp [go_sem]; done) | simp [go_sem, Instr.makeInterface, Instr.makeFunc, *]) fun d K hK => ?_; go_simp; refine hK _ ?_; clear hK K d; try walk_nrm)
  refine F.esr ?_
  simp only [rg, Nat.reduceAdd]
  iterate 4 (refine F.oq rfl rfl rfl (fun _ => by simp [go_sem]) fun d K hK => ?_; go_simp; refine hK _ ?_; clear hK K d; try walk_nrm)
  refine F.invoke rfl rfl (by decide) rfl rfl (mIs _) (mIse _) Tryz.func213 (by rfl) (by rfl) ?_
  walk_nrm
  refine linkIs2_x q w0 h0 o1 _ F _ _ (fun v wq hp => ?_)
  obtain ⟨rfl, hq⟩ := hp
  have hq := hq.symm
  subst hq
  rw [Frame.finish_at]
  try walk_nrm
  refine F.oq rfl rfl rfl (fun _ => by simp [go_sem]) fun d K hK => ?_; go_simp; refine hK _ ?_; clear hK K d; try walk_nrm
  refine F.re ?_
  refine F.cf rfl ?_
  refine F.sk ?_
  refine F.sr ?_
  simp only [rg, Nat.reduceAdd]
  refine F.oq rfl rfl rfl (fun _ => by simp [go_sem]) fun d K hK => ?_; go_simp; refine hK _ ?_; clear hK K d; try walk_nrm
  refine F.re ?_
  refine F.bl ?_
  refine F.sr ?_
  simp only [rg, Nat.reduceAdd]
  iterate 3 (refine F.oq rfl rfl rfl (fun _ => by first | (simp [go_sem]; done) | simp [go_sem, Instr.makeInterface, Instr.makeFunc, *]) fun d K hK => ?_; go_simp; refine hK _ ?_; clear hK K d; try walk_nrm)
  refine F.re ?_
  refine F.ct rfl ?_
  refine F.sr ?_
  simp only [rg, Nat.reduceAdd]
  refine F.oq rfl rfl rfl (fun _ => by simp [go_sem]) fun d K hK => ?_; go_simp; refine hK _ ?_; clear hK K d; try walk_nrm
  refine F.esr ?_
  simp only [rg, Nat.reduceAdd]
  refine F.oq rfl rfl rfl (fun _ => by simp [go_sem]) fun d K hK => ?_; go_simp; refine hK _ ?_; clear hK K d; try walk_nrm
  refine F.invoke rfl rfl (by decide) rfl rfl (mUnwrap _) (mUnwrape _) Tryz.func214 (by rfl) (by rfl) ?_
  walk_nrm
  refine unwrap_x q .nilIface w0 h3 o3 _ F _ _ (fun v wq hp => ?_)
  obtain ⟨rfl, hq⟩ := hp
  have hq := hq.symm
  subst hq
  rw [Frame.finish_at]
  try walk_nrm
  refine F.oq rfl rfl rfl (fun _ => by simp [go_sem]) fun d K hK => ?_; go_simp; refine hK _ ?_; clear hK K d; try walk_nrm
  refine F.esr ?_
  simp only [rg, Nat.reduceAdd]
  iterate 2 (refine F.oq rfl rfl rfl (fun _ => by first | (simp [go_sem]; done) | simp [go_sem, Instr.makeInterface, Instr.makeFunc, *]) fun d K hK => ?_; go_simp; refine hK _ ?_; clear hK K d; try walk_nrm)
  refine F.re ?_
  refine F.ct rfl ?_
  refine F.sr ?_
  simp only [rg, Nat.reduceAdd]
  refine F.oq rfl rfl rfl (fun _ => by simp [go_sem]) fun d K hK => ?_; go_simp; refine hK _ ?_; clear hK K d; try walk_nrm
  refine F.re ?_
  refine F.ctl (fun _ => stepG_ret') ?_
  refine F.leave rfl rfl Tryz.func164 (resultsC_tmp (by rfl) _) ?_
  exact hc _ _ ⟨rfl, rfl⟩

set_option maxRecDepth 100000 in
set_option maxHeartbeats 4000000 in
theorem errIs2_x (q : Nat) (w0 : World) (h0 : w0.cell? ⟨q, 0, none⟩ = some (.int .i64 1)) (h3 : w0.cell? ⟨q, 3, none⟩ = some .nilIface) (o1 : Ok ⟨q, 0, none⟩ false) (o3 : Ok ⟨q, 3, none⟩ false) :
    CallsX Tryz.prog main (DX Ok) 163 #[.iface 168 (.pointer (some ⟨q, 0, none⟩)), .iface 171 (.int .i64 2)] w0 fun v w' => v = .bool false ∧ w' = w0 := by
  intro Ψ F c cs hc
  rw [enter_at _ Tryz.func163 rfl]
  simp only [Tryz.ntmps163, List.size_toArray, List.length_cons, List.length_nil, Nat.reduceAdd, Nat.reduceSub, Array.replicate_succ, Array.replicate_zero, List.push_toArray, List.append_toArray, List.nil_append, List.cons_append]
  have t5 := evNil
  refine F.sr ?_
  simp only [rg, Nat.reduceAdd]
  refine F.oq rfl rfl rfl (fun _ => by simp [go_sem]) fun d K hK => ?_; go_simp; refine hK _ ?_; clear hK K d; try walk_nrm
  refine F.es ?_
  refine F.sr ?_
  simp only [rg, Nat.reduceAdd]
  iterate 6 (refine F.oq rfl rfl rfl (fun _ => by first | (simp [go_sem]; done) | simp [go_sem, Instr.makeInterface, Instr.makeFunc, *]) fun d K hK => ?_; go_simp; refine hK _ ?_; clear hK K d; try walk_nrm)
  refine F.re ?_
  refine F.cf rfl ?_
  refine F.sk ?_
  refine F.sr ?_
  simp only [rg, Nat.reduceAdd]
  refine F.oq rfl rfl rfl (fun _ => by simp [go_sem]) fun d K hK => ?_; go_simp; refine hK _ ?_; clear hK K d; try walk_nrm
  refine F.ext0c rfl rfl (by decide) rfl Tryz.func112 (by kernel_rfl) (by kernel_rfl) (by kernel_rfl) (by kernel_rfl) (x := ReflectliteType.typeOf) (fun d => by walk_nrm; exact ty171 _ _) (fun d es => by walk_nrm; exact ty171e _ _ _) ?_
  walk_nrm
  refine F.ext0m rfl rfl (by decide) rfl rfl (mComparable _) (mComparablee _) Tryz.func221 (by kernel_rfl) (by kernel_rfl) (by kernel_rfl) (by kernel_rfl) (x := ReflectliteType.method fun t => do Rtype.noPackHeld "Comparable" t; pure (.bool (← typeInfo t).comparable)) (fun d => by walk_nrm; exact comp171 _) (fun d es => by walk_nrm; exact comp171e _ _) ?_
  walk_nrm
  refine F.oq rfl rfl rfl (fun _ => by simp [go_sem]) fun d K hK => ?_; go_simp; refine hK _ ?_; clear hK K d; try walk_nrm
  refine F.esr ?_
  simp only [rg, Nat.reduceAdd]
  iterate 3 (refine F.oq rfl rfl rfl (fun _ => by simp [go_sem]) fun d K hK => ?_; go_simp; refine hK _ ?_; clear hK K d; try walk_nrm)
  refine F.enter rfl rfl (by decide) (fun _ => run_call_body rfl Tryz.func164 (by rfl) (by rfl)) (fun _ => events_call_body rfl Tryz.func164 (by rfl) (by rfl) _) ?_
  walk_nrm
  refine is2_x q w0 h0 h3 o1 o3 _ F _ _ (fun v wq hp => ?_)
  obtain ⟨rfl, hq⟩ := hp
  have hq := hq.symm
  subst hq
  rw [Frame.finish_at]
  try walk_nrm
  refine F.oq rfl rfl rfl (fun _ => by simp [go_sem]) fun d K hK => ?_; go_simp; refine hK _ ?_; clear hK K d; try walk_nrm
  refine F.re ?_
  refine F.ctl (fun _ => stepG_ret') ?_
  refine F.leave rfl rfl Tryz.func163 (resultsC_tmp (by rfl) _) ?_
  exact hc _ _ ⟨rfl, rfl⟩

theorem evEq5 (w : World) : (binOp .eql 121 (.iface 171 (.int .i64 5)) (.iface 171 (.int .i64 1))).events Tryz.prog w #[] = #[] := by kernel_rfl
set_option maxRecDepth 100000 in
theorem linkIs5_x (q : Nat) (w0 : World) (h0 : w0.cell? ⟨q, 0, none⟩ = some (.int .i64 1)) (o1 : Ok ⟨q, 0, none⟩ false) :
    CallsX Tryz.prog main (DX Ok) 213 #[.pointer (some ⟨q, 0, none⟩), .iface 171 (.int .i64 5)] w0 fun v w' => v = .bool false ∧ w' = w0 := by
  intro Ψ F c cs hc
  rw [enter_at _ Tryz.func213 rfl]
  simp only [Tryz.ntmps213, List.size_toArray, List.length_cons, List.length_nil, Nat.reduceAdd, Nat.reduceSub, Array.replicate_succ, Array.replicate_zero, List.push_toArray, List.append_toArray, List.nil_append, List.cons_append]
  refine F.sr ?_
  simp only [rg, Nat.reduceAdd]
  refine F.oq rfl rfl rfl (fun _ => by simp [go_sem]) fun d K hK => ?_; go_simp; refine hK _ ?_; clear hK K d; try walk_nrm
  refine F.esr ?_
  simp only [rg, Nat.reduceAdd]
  iterate 4 (refine F.oq rfl rfl rfl (fun _ => by simp [go_sem]) fun d K hK => ?_; go_simp; refine hK _ ?_; clear hK K d; try walk_nrm)
  refine F.op rfl rfl (by decide) (fun d K hK => ?_)
  go_simp
  refine hK _ _ ⟨DX.still _ (fun e he => ?_), ?_⟩
  · have hm := mem_listed he
    simp [go_sem, *] at hm
    subst hm
    exact .inl ⟨_, rfl, rfl, by (first | assumption | (apply hfr <;> dsimp only <;> omega) | (apply hok; simp; done)), lt_of_cell (w := w0) (by assumption)⟩
  clear hK K d
  try walk_nrm
  refine F.oq rfl rfl rfl (fun _ => by first | (simp [go_sem]; done) | simp [go_sem, Instr.makeInterface, Instr.makeFunc, *]) fun d K hK => ?_; go_simp; refine hK _ ?_; clear hK K d; try walk_nrm
  have evE := evEq5
  iterate 2 (refine F.oq rfl rfl rfl (fun _ => by first | (simp [go_sem]; done) | simp [go_sem, Instr.makeInterface, Instr.makeFunc, *]) fun d K hK => ?_; go_simp; refine hK _ ?_; clear hK K d; try walk_nrm)
  refine F.re ?_
  refine F.ctl (fun _ => stepG_ret') ?_
  refine F.leave rfl rfl Tryz.func213 (resultsC_tmp (by rfl) _) ?_
  exact hc _ _ ⟨rfl, rfl⟩

set_option maxRecDepth 100000 in
set_option maxHeartbeats 4000000 in
theorem is5_x (q : Nat) (w0 : World) (h0 : w0.cell? ⟨q, 0, none⟩ = some (.int .i64 1)) (h3 : w0.cell? ⟨q, 3, none⟩ = some .nilIface) (o1 : Ok ⟨q, 0, none⟩ false) (o3 : Ok ⟨q, 3, none⟩ false) :
    CallsX Tryz.prog main (DX Ok) 164 #[.iface 168 (.pointer (some ⟨q, 0, none⟩)), .iface 171 (.int .i64 5), .bool true] w0 fun v w' => v = .bool false ∧ w' = w0 := by
  intro Ψ F c cs hc
  rw [enter_at _ Tryz.func164 rfl]
  simp only [Tryz.ntmps164, List.size_toArray, List.length_cons, List.length_nil, Nat.reduceAdd, Nat.reduceSub, Array.replicate_succ, Array.replicate_zero, List.push_toArray, List.append_toArray, List.nil_append, List.cons_append]
  have evE := evEqP
  have t1 := taIs
  have t2 := taUn
  have t3 := taUne
  have t4 := fI
  have t5 := evNil
  have t6 := evNN
  refine F.sr ?_
  simp only [rg, Nat.reduceAdd]
  refine F.oq rfl rfl rfl (fun _ => by simp [go_sem]) fun d K hK => ?_; go_simp; refine hK _ ?_; clear hK K d; try walk_nrm
  refine F.re ?_
  refine F.bl ?_
  refine F.ctl (fun _ => stepG_loop) ?_
  refine F.bl ?_
  refine F.sq ?_
  refine F.sr ?_
  simp only [rg, Nat.reduceAdd]
  iterate 6 (refine F.oq rfl rfl rfl (fun _ => by first | (simp [go_sem]; done) | simp [go_sem, Instr.makeInterface, Instr.makeFunc, *]) fun d K hK => ?_; go_simp; refine hK _ ?_; clear hK K d; try walk_nrm)
  refine F.re ?_
  refine F.cf rfl ?_
  refine F.sk ?_
  refine F.sq ?_
  refine F.sr ?_
  simp only [rg, Nat.reduceAdd]
  iterate 7 (refine F.oq rfl rfl rfl (fun _ => by first | (simp [go_sem]; done) | simp [go_sem, Instr.makeInterface, Instr.makeFunc, *]) fun d K hK => ?_; go_simp; refine hK _ ?_; clear hK K d; try walk_nrm)
  refine F.esr ?_
  simp only [rg, Nat.reduceAdd]
  iterate 4 (refine F.oq rfl rfl rfl (fun _ => by simp [go_sem]) fun d K hK => ?_; go_simp; refine hK _ ?_; clear hK K d; try walk_nrm)
  refine F.invoke rfl rfl (by decide) rfl rfl (mIs _) (mIse _) Tryz.func213 (by rfl) (by rfl) ?_
  walk_nrm
  refine linkIs5_x q w0 h0 o1 _ F _ _ (fun v wq hp => ?_)
  obtain ⟨rfl, hq⟩ := hp
  have hq := hq.symm
  subst hq
  rw [Frame.finish_at]
  try walk_nrm
  refine F.oq rfl rfl rfl (fun _ => by simp [go_sem]) fun d K hK => ?_; go_simp; refine hK _ ?_; clear hK K d; try walk_nrm
  refine F.re ?_
  refine F.cf rfl ?_
  refine F.sk ?_
  refine F.sr ?_
  simp only [rg, Nat.reduceAdd]
  refine F.oq rfl rfl rfl (fun _ => by simp [go_sem]) fun d K hK => ?_; go_simp; refine hK _ ?_; clear hK K d; try walk_nrm
  refine F.re ?_
  refine F.bl ?_
  refine F.sr ?_
  simp only [rg, Nat.reduceAdd]
  iterate 3 (refine F.oq rfl rfl rfl (fun _ => by first | (simp [go_sem]; done) | simp [go_sem, Instr.makeInterface, Instr.makeFunc, *]) fun d K hK => ?_; go_simp; refine hK _ ?_; clear hK K d; try walk_nrm)
  refine F.re ?_
  refine F.ct rfl ?_
  refine F.sr ?_
  simp only [rg, Nat.reduceAdd]
  refine F.oq rfl rfl rfl (fun _ => by simp [go_sem]) fun d K hK => ?_; go_simp; refine hK _ ?_; clear hK K d; try walk_nrm
  refine F.esr ?_
  simp only [rg, Nat.reduceAdd]
  refine F.oq rfl rfl rfl (fun _ => by simp [go_sem]) fun d K hK => ?_; go_simp; refine hK _ ?_; clear hK K d; try walk_nrm
  refine F.invoke rfl rfl (by decide) rfl rfl (mUnwrap _) (mUnwrape _) Tryz.func214 (by rfl) (by rfl) ?_
  walk_nrm
  refine unwrap_x q .nilIface w0 h3 o3 _ F _ _ (fun v wq hp => ?_)
  obtain ⟨rfl, hq⟩ := hp
  have hq := hq.symm
  subst hq
  rw [Frame.finish_at]
  try walk_nrm
  refine F.oq rfl rfl rfl (fun _ => by simp [go_sem]) fun d K hK => ?_; go_simp; refine hK _ ?_; clear hK K d; try walk_nrm
  refine F.esr ?_
  simp only [rg, Nat.reduceAdd]
  iterate 2 (refine F.oq rfl rfl rfl (fun _ => by first | (simp [go_sem]; done) | simp [go_sem, Instr.makeInterface, Instr.makeFunc, *]) fun d K hK => ?_; go_simp; refine hK _ ?_; clear hK K d; try walk_nrm)
  refine F.re ?_
  refine F.ct rfl ?_
  refine F.sr ?_
  simp only [rg, Nat.reduceAdd]
  refine F.oq rfl rfl rfl (fun _ => by simp [go_sem]) fun d K hK => ?_; go_simp; refine hK _ ?_; clear hK K d; try walk_nrm
  refine F.re ?_
  refine F.ctl (fun _ => stepG_ret') ?_
  refine F.leave rfl rfl Tryz.func164 (resultsC_tmp (by rfl) _) ?_
  exact hc _ _ ⟨rfl, rfl⟩

set_option maxRecDepth 100000 in
set_option maxHeartbeats 4000000 in
theorem errIs5_x (q : Nat) (w0 : World) (h0 : w0.cell? ⟨q, 0, none⟩ = some (.int .i64 1)) (h3 : w0.cell? ⟨q, 3, none⟩ = some .nilIface) (o1 : Ok ⟨q, 0, none⟩ false) (o3 : Ok ⟨q, 3, none⟩ false) :
    CallsX Tryz.prog main (DX Ok) 163 #[.iface 168 (.pointer (some ⟨q, 0, none⟩)), .iface 171 (.int .i64 5)] w0 fun v w' => v = .bool false ∧ w' = w0 := by
  intro Ψ F c cs hc
  rw [enter_at _ Tryz.func163 rfl]
  simp only [Tryz.ntmps163, List.size_toArray, List.length_cons, List.length_nil, Nat.reduceAdd, Nat.reduceSub, Array.replicate_succ, Array.replicate_zero, List.push_toArray, List.append_toArray, List.nil_append, List.cons_append]
  have t5 := evNil
  refine F.sr ?_
  simp only [rg, Nat.reduceAdd]
  refine F.oq rfl rfl rfl (fun _ => by simp [go_sem]) fun d K hK => ?_; go_simp; refine hK _ ?_; clear hK K d; try walk_nrm
  refine F.es ?_
  refine F.sr ?_
  simp only [rg, Nat.reduceAdd]
  iterate 6 (refine F.oq rfl rfl rfl (fun _ => by first | (simp [go_sem]; done) | simp [go_sem, Instr.makeInterface, Instr.makeFunc, *]) fun d K hK => ?_; go_simp; refine hK _ ?_; clear hK K d; try walk_nrm)
  refine F.re ?_
  refine F.cf rfl ?_
  refine F.sk ?_
  refine F.sr ?_
  simp only [rg, Nat.reduceAdd]
  refine F.oq rfl rfl rfl (fun _ => by simp [go_sem]) fun d K hK => ?_; go_simp; refine hK _ ?_; clear hK K d; try walk_nrm
  refine F.ext0c rfl rfl (by decide) rfl Tryz.func112 (by kernel_rfl) (by kernel_rfl) (by kernel_rfl) (by kernel_rfl) (x := ReflectliteType.typeOf) (fun d => by walk_nrm; exact ty171 _ _) (fun d es => by walk_nrm; exact ty171e _ _ _) ?_
  walk_nrm
  refine F.ext0m rfl rfl (by decide) rfl rfl (mComparable _) (mComparablee _) Tryz.func221 (by kernel_rfl) (by kernel_rfl) (by kernel_rfl) (by kernel_rfl) (x := ReflectliteType.method fun t => do Rtype.noPackHeld "Comparable" t; pure (.bool (← typeInfo t).comparable)) (fun d => by walk_nrm; exact comp171 _) (fun d es => by walk_nrm; exact comp171e _ _) ?_
  walk_nrm
  refine F.oq rfl rfl rfl (fun _ => by simp [go_sem]) fun d K hK => ?_; go_simp; refine hK _ ?_; clear hK K d; try walk_nrm
  refine F.esr ?_
  simp only [rg, Nat.reduceAdd]
  iterate 3 (refine F.oq rfl rfl rfl (fun _ => by simp [go_sem]) fun d K hK => ?_; go_simp; refine hK _ ?_; clear hK K d; try walk_nrm)
  refine F.enter rfl rfl (by decide) (fun _ => run_call_body rfl Tryz.func164 (by rfl) (by rfl)) (fun _ => events_call_body rfl Tryz.func164 (by rfl) (by rfl) _) ?_
  walk_nrm
  refine is5_x q w0 h0 h3 o1 o3 _ F _ _ (fun v wq hp => ?_)
  obtain ⟨rfl, hq⟩ := hp
  have hq := hq.symm
  subst hq
  rw [Frame.finish_at]
  try walk_nrm
  refine F.oq rfl rfl rfl (fun _ => by simp [go_sem]) fun d K hK => ?_; go_simp; refine hK _ ?_; clear hK K d; try walk_nrm
  refine F.re ?_
  refine F.ctl (fun _ => stepG_ret') ?_
  refine F.leave rfl rfl Tryz.func163 (resultsC_tmp (by rfl) _) ?_
  exact hc _ _ ⟨rfl, rfl⟩

set_option maxRecDepth 100000 in
set_option maxHeartbeats 4000000 in
theorem hopeless_x (q : Nat) (w0 : World) (h0 : w0.cell? ⟨q, 0, none⟩ = some (.int .i64 1)) (h3 : w0.cell? ⟨q, 3, none⟩ = some .nilIface) (o1 : Ok ⟨q, 0, none⟩ false) (o3 : Ok ⟨q, 3, none⟩ false) :
    CallsX Tryz.prog main (DX Ok) 158 #[.iface 168 (.pointer (some ⟨q, 0, none⟩))] w0 fun v w' => v = .bool false ∧ w' = w0 := by
  intro Ψ F c cs hc
  rw [enter_at _ Tryz.func158 rfl]
  simp only [Tryz.ntmps158, List.size_toArray, List.length_cons, List.length_nil, Nat.reduceAdd, Nat.reduceSub, Array.replicate_succ, Array.replicate_zero, List.push_toArray, List.append_toArray, List.nil_append, List.cons_append]
  refine F.sr ?_
  simp only [rg, Nat.reduceAdd]
  refine F.oq rfl rfl rfl (fun _ => by simp [go_sem]) fun d K hK => ?_; go_simp; refine hK _ ?_; clear hK K d; try walk_nrm
  refine F.esr ?_
  simp only [rg, Nat.reduceAdd]
  iterate 2 (refine F.oq rfl rfl rfl (fun _ => by first | (simp [go_sem]; done) | simp [go_sem, Instr.makeInterface, Instr.makeFunc, *]) fun d K hK => ?_; go_simp; refine hK _ ?_; clear hK K d; try walk_nrm)
  refine F.enter rfl rfl (by decide) (fun _ => run_call_body rfl Tryz.func163 (by rfl) (by rfl)) (fun _ => events_call_body rfl Tryz.func163 (by rfl) (by rfl) _) ?_
  walk_nrm
  refine errIs2_x q w0 h0 h3 o1 o3 _ F _ _ (fun v wq hp => ?_)
  obtain ⟨rfl, hq⟩ := hp
  have hq := hq.symm
  subst hq
  rw [Frame.finish_at]
  try walk_nrm
  iterate 3 (refine F.oq rfl rfl rfl (fun _ => by first | (simp [go_sem]; done) | simp [go_sem, Instr.makeInterface, Instr.makeFunc, *]) fun d K hK => ?_; go_simp; refine hK _ ?_; clear hK K d; try walk_nrm)
  refine F.enter rfl rfl (by decide) (fun _ => run_call_body rfl Tryz.func163 (by rfl) (by rfl)) (fun _ => events_call_body rfl Tryz.func163 (by rfl) (by rfl) _) ?_
  walk_nrm
  refine errIs5_x q w0 h0 h3 o1 o3 _ F _ _ (fun v wq hp => ?_)
  obtain ⟨rfl, hq⟩ := hp
  have hq := hq.symm
  subst hq
  rw [Frame.finish_at]
  try walk_nrm
  iterate 2 (refine F.oq rfl rfl rfl (fun _ => by simp [go_sem]) fun d K hK => ?_; go_simp; refine hK _ ?_; clear hK K d; try walk_nrm)
  refine F.re ?_
  refine F.ctl (fun _ => stepG_ret') ?_
  refine F.leave rfl rfl Tryz.func158 (resultsC_tmp (by rfl) _) ?_
  exact hc _ _ ⟨rfl, rfl⟩

end Go.Proofs.YtobagnjnbmgidaaGreatDoor
