/- Entries of the agenda. -/
import Derived.Test.YtobagnjnbmgidaaGreatDoorX12
set_option linter.unusedSimpArgs false
set_option linter.unusedVariables false
namespace Go.Proofs.YtobagnjnbmgidaaGreatDoor
open Go.Conc Go.RowKit
variable {main : Bool} {Ok : Addr → Bool → Prop}

theorem ev_sl0 (w : World) (b : Option Addr) (c : Nat) : (Instr.sliceAt 100 (.slice b 0 c) (some (.int .i64 0)) none none).events Tryz.prog w #[] = #[] := by
  simp [Instr.sliceAt, run_underlying und100, Instr.slice, Instr.sliceBounds, Instr.sliceBound, asInt, asIntOf]
theorem ev_sl1 (w : World) (b : Option Addr) (c : Nat) : (Instr.sliceAt 100 (.slice b 1 (c + 1)) (some (.int .i64 1)) none none).events Tryz.prog w #[] = #[] := by
  simp [Instr.sliceAt, run_underlying und100, Instr.slice, Instr.sliceBounds, Instr.sliceBound, asInt, asIntOf]
theorem Emp.form {N : Nat} {w : World} {v : Value} (h : Emp N w v) : ∃ base cap, v = .slice base 0 cap ∧ (base = none → cap = 0) := by
  rcases h with rfl | ⟨E, off, cap, cur, rfl, _⟩
  · exact ⟨none, 0, rfl, fun _ => rfl⟩
  · exact ⟨some ⟨E, off, none⟩, cap, rfl, fun h => by cases h⟩

set_option maxRecDepth 100000 in
set_option maxHeartbeats 4000000 in
theorem insert_x (N nb : Nat) (t : Int) (f v : Value) (w0 : World) (hN : N ≤ w0.heap.size) (he : Emp N w0 v) (h0 : w0.cell? ⟨nb, 0, none⟩ = some (.int .i64 t)) (h1 : w0.cell? ⟨nb, 1, none⟩ = some f) (hf : f.oneCell' = true) (okrow : ∀ (ad : Addr) (wr : Bool), some ad.block = v.ownBlock → Ok ad wr) (oknb : ∀ ad : Addr, ad.block = nb → Ok ad false) :
    CallsX Tryz.prog main (DX Ok) 60 #[v, .int .i64 0, .slice (some ⟨nb, 0, none⟩) 1 1] w0 fun v' w' => One N w' v' t f ∧ Kp (rowL v) w0 w' ∧ ∀ g ∈ rowL v', g ∈ rowL v ∨ g = w0.heap.size := by
  intro Ψ F c cs hc
  obtain ⟨base, cap, hv, hbc⟩ := he.form
  subst hv
  rw [enter_at _ Tryz.func60 rfl]
  simp only [Tryz.ntmps60, List.size_toArray, List.length_cons, List.length_nil, Nat.reduceAdd, Nat.reduceSub, Array.replicate_succ, Array.replicate_zero, List.push_toArray, List.append_toArray, List.nil_append, List.cons_append]
  refine F.sr ?_
  simp only [rg, Nat.reduceAdd]
  refine F.oq rfl rfl rfl (fun _ => by simp [go_sem]) fun d K hK => ?_; go_simp; refine hK _ ?_; clear hK K d; try walk_nrm
  refine F.re ?_
  cases base with
  | none =>
    obtain rfl := hbc rfl
    refine F.sr ?_
    simp only [rg, Nat.reduceAdd]
    iterate 2 (refine F.oq rfl rfl rfl (fun _ => by simp [go_sem]) fun d K hK => ?_; go_simp; refine hK _ ?_; clear hK K d; try walk_nrm)
    refine F.opq rfl rfl (by decide) (fun _ => (by first | (simp [go_sem, ev_sl0, ev_sl1]; done) | (simp [go_sem, Instr.makeInterface, Instr.makeFunc]; done) | (simp [go_sem, *]; done))) (fun d K hK => ?_)
    go_simp
    refine hK _ ?_
    clear hK K d
    try walk_nrm
    refine F.esr ?_
    simp only [rg, Nat.reduceAdd]
    iterate 3 (refine F.oq rfl rfl rfl (fun _ => by simp [go_sem]) fun d K hK => ?_; go_simp; refine hK _ ?_; clear hK K d; try walk_nrm)
    refine F.es ?_
    refine F.sr ?_
    simp only [rg, Nat.reduceAdd]
    iterate 2 (refine F.oq rfl rfl rfl (fun _ => by simp [go_sem]) fun d K hK => ?_; go_simp; refine hK _ ?_; clear hK K d; try walk_nrm)
    refine F.re ?_
    refine F.cf rfl ?_
    refine F.sk ?_
    refine F.sr ?_
    simp only [rg, Nat.reduceAdd]
    iterate 3 (refine F.oq rfl rfl rfl (fun _ => by simp [go_sem]) fun d K hK => ?_; go_simp; refine hK _ ?_; clear hK K d; try walk_nrm)
    refine F.es ?_
    refine F.sr ?_
    simp only [rg, Nat.reduceAdd]
    iterate 3 (refine F.oq rfl rfl rfl (fun _ => by simp [go_sem]) fun d K hK => ?_; go_simp; refine hK _ ?_; clear hK K d; try walk_nrm)
    refine F.re ?_
    refine F.ct rfl ?_
    refine F.sr ?_
    simp only [rg, Nat.reduceAdd]
    iterate 2 (refine F.oq rfl rfl rfl (fun _ => by simp [go_sem]) fun d K hK => ?_; go_simp; refine hK _ ?_; clear hK K d; try walk_nrm)
    refine F.append0 rfl rfl (by decide) (.tmp 23) (.tmp 24) rfl (N := N) (nb := nb) hN rfl rfl he h0 h1 hf okrow oknb ?_
    intro v' w' ho hg hb
    try walk_nrm
    refine F.oq rfl rfl rfl (fun _ => by simp [go_sem]) fun d K hK => ?_; go_simp; refine hK _ ?_; clear hK K d; try walk_nrm
    refine F.re ?_
    refine F.ctl (fun _ => stepG_ret') ?_
    refine F.leave rfl rfl Tryz.func60 (resultsC_tmp (by rfl) _) ?_
    exact hc _ _ ⟨ho, Kp.grown hg, fun g (h : g ∈ rowL v') => by rw [mem_rowL] at h ⊢; rcases hb with y | y; exact .inl (y ▸ h); right; exact Option.some.inj (h.symm.trans y)⟩
  | some ad =>
    refine F.sr ?_
    simp only [rg, Nat.reduceAdd]
    iterate 2 (refine F.oq rfl rfl rfl (fun _ => by simp [go_sem]) fun d K hK => ?_; go_simp; refine hK _ ?_; clear hK K d; try walk_nrm)
    refine F.opq rfl rfl (by decide) (fun _ => (by first | (simp [go_sem, ev_sl0, ev_sl1]; done) | (simp [go_sem, Instr.makeInterface, Instr.makeFunc]; done) | (simp [go_sem, *]; done))) (fun d K hK => ?_)
    go_simp
    refine hK _ ?_
    clear hK K d
    try walk_nrm
    refine F.esr ?_
    simp only [rg, Nat.reduceAdd]
    iterate 3 (refine F.oq rfl rfl rfl (fun _ => by simp [go_sem]) fun d K hK => ?_; go_simp; refine hK _ ?_; clear hK K d; try walk_nrm)
    refine F.es ?_
    refine F.sr ?_
    simp only [rg, Nat.reduceAdd]
    iterate 2 (refine F.oq rfl rfl rfl (fun _ => by simp [go_sem]) fun d K hK => ?_; go_simp; refine hK _ ?_; clear hK K d; try walk_nrm)
    refine F.re ?_
    refine F.cf rfl ?_
    refine F.sk ?_
    refine F.sr ?_
    simp only [rg, Nat.reduceAdd]
    iterate 3 (refine F.oq rfl rfl rfl (fun _ => by simp [go_sem]) fun d K hK => ?_; go_simp; refine hK _ ?_; clear hK K d; try walk_nrm)
    refine F.es ?_
    refine F.sr ?_
    simp only [rg, Nat.reduceAdd]
    iterate 3 (refine F.oq rfl rfl rfl (fun _ => by simp [go_sem]) fun d K hK => ?_; go_simp; refine hK _ ?_; clear hK K d; try walk_nrm)
    refine F.re ?_
    refine F.ct rfl ?_
    refine F.sr ?_
    simp only [rg, Nat.reduceAdd]
    iterate 2 (refine F.oq rfl rfl rfl (fun _ => by simp [go_sem]) fun d K hK => ?_; go_simp; refine hK _ ?_; clear hK K d; try walk_nrm)
    refine F.append0 rfl rfl (by decide) (.tmp 23) (.tmp 24) rfl (N := N) (nb := nb) hN rfl rfl he h0 h1 hf okrow oknb ?_
    intro v' w' ho hg hb
    try walk_nrm
    refine F.oq rfl rfl rfl (fun _ => by simp [go_sem]) fun d K hK => ?_; go_simp; refine hK _ ?_; clear hK K d; try walk_nrm
    refine F.re ?_
    refine F.ctl (fun _ => stepG_ret') ?_
    refine F.leave rfl rfl Tryz.func60 (resultsC_tmp (by rfl) _) ?_
    exact hc _ _ ⟨ho, Kp.grown hg, fun g (h : g ∈ rowL v') => by rw [mem_rowL] at h ⊢; rcases hb with y | y; exact .inl (y ▸ h); right; exact Option.some.inj (h.symm.trans y)⟩

theorem Emp.al {N : Nat} {w w₁ : World} {v : Value} {o : Obj} (h : Emp N w v) (e : w.alloc o = w₁) : Emp N w₁ v := by
  subst e
  refine h.imp id fun ⟨E, off, cap, cur, h1, h2, h3, h4⟩ => ⟨E, off, cap, cur, h1, h2, ?_, h4⟩
  rw [Below.heap_alloc _ _ _ (Array.getElem?_eq_some_iff.1 h3).1]; exact h3
theorem Emp.rowN {N B : Nat} {w : World} {v : Value} (h : Emp N w v) (hB : B < N) : B ∉ rowL v := fun z => by
  have := (h.lt (mem_rowL.1 z)).1
  omega
theorem One.st {N : Nat} {w w₁ : World} {v f u : Value} {t : Int} {p : Addr} (h : One N w v t f) (e : w.setCell p u = w₁) (hp : p.block ∉ rowL v) : One N w₁ v t f := by
  obtain ⟨E, off, cap, cur, h1, h2, h3, h4⟩ := h
  subst e
  refine ⟨E, off, cap, cur, h1, h2, ?_, h4⟩
  subst h1
  have : p.block ≠ E := fun z => hp (mem_rowL.2 (by simp [Value.ownBlock, z]))
  simp only [World.setCell, Array.getElem?_modify, this, if_false]
  exact h3

set_option maxRecDepth 100000 in
set_option maxHeartbeats 4000000 in
theorem put_x (N A : Nat) (t : Int) (fn : Fn) (fst cap' : Array Value) (v : Value) (w0 : World) (hN : N ≤ w0.heap.size) (lA : A < N) (he : Emp N w0 v) (hA1 : w0.cell? ⟨A, 1, none⟩ = some v) (zA1 : w0.frozen? ⟨A, 1, none⟩ = false) (okr : Ok ⟨A, 1, none⟩ false) (okw : Ok ⟨A, 1, none⟩ true) (okE : ∀ (a : Addr) (wr : Bool), a.block ∈ rowL v ∨ w0.heap.size ≤ a.block → Ok a wr) :
    CallsX Tryz.prog main (DX Ok) 49 #[.pointer (some ⟨A, 0, none⟩), .int .i64 t, .func fn fst cap'] w0 fun r w' => r = .tuple #[] ∧ Kp (rowL v) w0 w' [⟨A, 1, none⟩] ∧ ∃ v', w'.cell? ⟨A, 1, none⟩ = some v' ∧ w'.frozen? ⟨A, 1, none⟩ = false ∧ One N w' v' t (.func fn fst cap') ∧ ∀ g ∈ rowL v', g ∈ rowL v ∨ w0.heap.size ≤ g := by
  intro Ψ F c cs hc
  obtain ⟨base, cap, hv, hbc⟩ := he.form
  have hq := he.rowN lA
  subst hv
  rw [enter_at _ Tryz.func49 rfl]
  simp only [Tryz.ntmps49, List.size_toArray, List.length_cons, List.length_nil, Nat.reduceAdd, Nat.reduceSub, Array.replicate_succ, Array.replicate_zero, List.push_toArray, List.append_toArray, List.nil_append, List.cons_append]
  refine F.sr ?_
  simp only [rg, Nat.reduceAdd]
  iterate 3 (refine F.oq rfl rfl rfl (fun _ => by simp [go_sem]) fun d K hK => ?_; go_simp; refine hK _ ?_; clear hK K d; try walk_nrm)
  refine F.op rfl rfl (by decide) (fun d K hK => ?_)
  go_simp
  refine hK _ _ ⟨DX.still _ (fun e he => ?_), ?_⟩
  · have hm := mem_listed he
    simp [go_sem, *] at hm
    subst hm
    exact .inl ⟨_, rfl, rfl, by (first | assumption | (apply hfr <;> dsimp only <;> omega) | (apply hok; simp; done)), lt_of_cell (w := w0) (by assumption)⟩
  clear hK K d
  try walk_nrm
  iterate 2 (refine F.oq rfl rfl rfl (fun _ => by simp [go_sem]) fun d K hK => ?_; go_simp; refine hK _ ?_; clear hK K d; try walk_nrm)
  refine F.es ?_
  refine F.bl ?_
  refine F.ctl (fun _ => stepG_loop) ?_
  refine F.sq ?_
  refine F.sr ?_
  simp only [rg, Nat.reduceAdd]
  iterate 3 (refine F.oq rfl rfl rfl (fun _ => by simp [go_sem]) fun d K hK => ?_; go_simp; refine hK _ ?_; clear hK K d; try walk_nrm)
  refine F.unwanted rfl rfl ?_
  try walk_nrm
  refine F.unwanted rfl rfl ?_
  try walk_nrm
  refine F.unwanted rfl rfl ?_
  try walk_nrm
  refine F.unwanted rfl rfl ?_
  try walk_nrm
  refine F.unwanted rfl rfl ?_
  try walk_nrm
  refine F.unwanted rfl rfl ?_
  try walk_nrm
  refine F.unwanted rfl rfl ?_
  try walk_nrm
  refine F.unwanted rfl rfl ?_
  try walk_nrm
  refine F.unwanted rfl rfl ?_
  try walk_nrm
  refine F.unwanted rfl rfl ?_
  try walk_nrm
  refine F.unwanted rfl rfl ?_
  try walk_nrm
  refine F.oq rfl rfl rfl (fun _ => by simp [go_sem]) fun d K hK => ?_; go_simp; refine hK _ ?_; clear hK K d; try walk_nrm
  refine F.re ?_
  refine F.cf rfl ?_
  refine F.ctl (fun _ => stepG_exit rfl) ?_
  refine F.rr ?_
  simp only [rg, Nat.reduceAdd]
  iterate 4 (refine F.oq rfl rfl rfl (fun _ => by simp [go_sem]) fun d K hK => ?_; go_simp; refine hK _ ?_; clear hK K d; try walk_nrm)
  refine F.op rfl rfl (by decide) (fun d K hK => ?_)
  go_simp
  refine hK _ _ ⟨DX.still _ (fun e he => ?_), ?_⟩
  · have hm := mem_listed he
    simp [go_sem, *] at hm
    subst hm
    exact .inl ⟨_, rfl, rfl, by (first | assumption | (apply hfr <;> dsimp only <;> omega) | (apply hok; simp; done)), lt_of_cell (w := w0) (by assumption)⟩
  clear hK K d
  try walk_nrm
  iterate 4 (refine F.oq rfl rfl rfl (fun _ => by simp [go_sem]) fun d K hK => ?_; go_simp; refine hK _ ?_; clear hK K d; try walk_nrm)
  refine F.op rfl rfl (by decide) (fun d K hK => ?_)
  go_simp
  rw [alloc_at']
  refine hK _ _ ⟨DX.alloc _ _ (fun e he => ?_), ?_⟩
  · have hm := mem_listed he
    simp [go_sem] at hm
  clear hK K d
  try walk_nrm
  generalize ew1 : World.alloc w0 _ = w1
  generalize hn1 : (World.heap w0).size = n1
  have sz1 := sz_al ew1 hn1
  replace zA1 := fz_al zA1 hA1 ew1
  replace hA1 := cl_al hA1 ew1
  have he0 := cl_new (i := 0) ew1 hn1 rfl
  try simp only [List.getElem_toArray, List.getElem_cons_zero, List.getElem_cons_succ] at he0
  have ze0 := fz_new ew1 hn1 0
  have he1 := cl_new (i := 1) ew1 hn1 rfl
  try simp only [List.getElem_toArray, List.getElem_cons_zero, List.getElem_cons_succ] at he1
  have ze1 := fz_new ew1 hn1 1
  have kp : Kp (rowL (.slice base 0 cap)) w0 w0 [⟨A, 1, none⟩] := Kp.refl _
  replace kp := kp.alN ew1
  have hem := he.al ew1
  refine F.enter rfl rfl (by decide) (fun _ => run_call_body rfl Tryz.func60 (by rfl) (by rfl)) (fun _ => events_call_body rfl Tryz.func60 (by rfl) (by rfl) _) ?_
  walk_nrm
  refine insert_x N n1 t (.func fn fst cap') _ w1 (by omega) hem he0 he1 rfl (fun ad wr h => okE ad wr (.inl (mem_rowL.2 h.symm))) (fun ad h => okE ad false (.inr (by omega))) Ψ F _ _ (fun v w' hp => ?_)
  obtain ⟨ho, kg, hrow⟩ := hp
  rw [Frame.finish_at]
  try walk_nrm
  have hA1' := kg.cell _ _ hq hA1
  have zA1' := (kg.froz _ _ hq hA1).trans zA1
  replace kp := kp.callM kg (fun x hx => .inl hx)
  obtain ⟨E, off, cp, cur, hv, o2⟩ := id ho
  have hq2 : A ∉ rowL v := fun z => by rcases hrow A z with y | y; exact hq y; omega
  subst hv
  clear hA1 zA1 he0 he1 ze0 ze1
  iterate 2 (refine F.oq rfl rfl rfl (fun _ => by simp [go_sem]) fun d K hK => ?_; go_simp; refine hK _ ?_; clear hK K d; try walk_nrm)
  refine F.op rfl rfl (by decide) (fun d K hK => ?_)
  go_simp
  rw [setCell_at']
  refine hK _ _ ⟨DX.set _ (by (first | assumption | (apply hfr <;> dsimp only <;> omega) | (apply hok; simp; done))) (fun e he => ?_), ?_⟩
  · have hm := mem_listed he
    simp [go_sem, storedEv, evst_slice, evst_ptr, evst_iface, evst_nil, evst_bool, *] at hm
    subst hm
    exact .inl ⟨_, rfl, rfl, by (first | assumption | (apply hfr <;> dsimp only <;> omega) | (apply hok; simp; done)), by show _ < (World.setCell _ _ _).heap.size; simp [World.setCell]; first | omega | exact lt_of_cell (by assumption)⟩
  clear hK K d
  try walk_nrm
  generalize ew2 : World.setCell w' _ _ = w2
  have sz2 := sz_st ew2
  replace zA1' := fz_st zA1' ew2
  replace hA1' := cl_st' hA1' ew2
  replace kp := kp.stN ew2 (by first | (left; simp; done) | (right; left; simp; done) | (right; right; dsimp only; omega))
  refine F.re ?_
  refine F.ctl (fun _ => stepG_end) ?_
  refine F.leave rfl rfl Tryz.func49 (resultsC_none (by rfl) _) ?_
  exact hc _ _ ⟨rfl, kp, _, hA1', zA1', ho.st ew2 hq2, fun g h => (hrow g h).imp id fun y => by omega⟩

end Go.Proofs.YtobagnjnbmgidaaGreatDoor
