/- The backend and the layers are laid. -/
import Derived.Test.YtobagnjnbmgidaaGreatDoorX30
set_option linter.unusedSimpArgs false
set_option linter.unusedVariables false
namespace Go.Proofs.YtobagnjnbmgidaaGreatDoor
open Go.Conc Go.RowKit
variable {main : Bool} {Ok : Addr → Bool → Prop}

theorem mk58 (w : World) : (Instr.makeSlice 58 (.int .i64 1) (.int .i64 1)).run Tryz.prog w = .ok (.slice (some ⟨w.heap.size, 0, none⟩) 1 1) (w.alloc (.cells #[.int .i64 0] 3)) := by kernel_rfl
theorem mk58e (w : World) (es : Array Event) : (Instr.makeSlice 58 (.int .i64 1) (.int .i64 1)).events Tryz.prog w es = es := by kernel_rfl
theorem mk32 (w : World) : (Instr.makeSlice 32 (.int .i64 1) (.int .i64 1)).run Tryz.prog w = .ok (.slice (some ⟨w.heap.size, 0, none⟩) 1 1) (w.alloc (.cells #[.int .i64 0, .int .i64 0, .int .i64 0, .slice none 0 0] 46)) := by kernel_rfl
theorem mk32e (w : World) (es : Array Event) : (Instr.makeSlice 32 (.int .i64 1) (.int .i64 1)).events Tryz.prog w es = es := by kernel_rfl
theorem mc99 (w : World) : (Instr.makeChan 99 (.int .i64 0)).run Tryz.prog w = .ok (.chan (some w.heap.size)) (w.alloc (.chan 0 #[] false 0 0 false)) := by kernel_rfl
theorem mc99e (w : World) (es : Array Event) : (Instr.makeChan 99 (.int .i64 0)).events Tryz.prog w es = es := by kernel_rfl
theorem mc113 (w : World) : (Instr.makeChan 113 (.int .i64 0)).run Tryz.prog w = .ok (.chan (some w.heap.size)) (w.alloc (.chan 0 #[] false 0 0 false)) := by kernel_rfl
theorem mc113e (w : World) (es : Array Event) : (Instr.makeChan 113 (.int .i64 0)).events Tryz.prog w es = es := by kernel_rfl

/-- The backend's two blocks. -/
structure BackAt (w : World) (B HD C J : Nat) : Prop where
  b1 : w.cell? ⟨B, 1, none⟩ = some (.int .i64 (-1))
  b2 : w.cell? ⟨B, 2, none⟩ = some (.pointer (some ⟨J, 0, none⟩))
  b3 : w.cell? ⟨B, 3, none⟩ = some (.slice (some ⟨C, 0, none⟩) 1 1)
  b4 : w.cell? ⟨B, 4, none⟩ = some (.slice (some ⟨HD, 0, none⟩) 1 1)
  h0 : w.cell? ⟨HD, 0, none⟩ = some (.int .i64 0)
  zh : w.frozen? ⟨HD, 0, none⟩ = false
theorem BackAt.kp {w w' : World} {B HD C J : Nat} (h : BackAt w B HD C J) (k : Kp [] w w') : BackAt w' B HD C J :=
  ⟨k.cell _ _ (by simp) h.b1, k.cell _ _ (by simp) h.b2, k.cell _ _ (by simp) h.b3, k.cell _ _ (by simp) h.b4, k.cell _ _ (by simp) h.h0, (k.froz _ _ (by simp) h.h0).trans h.zh⟩

set_option maxRecDepth 100000 in
set_option maxHeartbeats 4000000 in
theorem newBackend_x (C J : Nat) (w0 : World) :
    CallsX Tryz.prog main (DX Ok) 47 #[.slice (some ⟨C, 0, none⟩) 1 1, .pointer (some ⟨J, 0, none⟩)] w0 fun v w' => ∃ B HD, v = .iface 138 (.pointer (some ⟨B, 0, none⟩)) ∧ Kp [] w0 w' ∧ w0.heap.size ≤ HD ∧ HD < B ∧ B < w'.heap.size ∧ BackAt w' B HD C J := by
  intro Ψ F c cs hc
  rw [enter_at _ Tryz.func47 rfl]
  simp only [Tryz.ntmps47, List.size_toArray, List.length_cons, List.length_nil, Nat.reduceAdd, Nat.reduceSub, Array.replicate_succ, Array.replicate_zero, List.push_toArray, List.append_toArray, List.nil_append, List.cons_append]
  refine F.sr ?_
  simp only [rg, Nat.reduceAdd]
  refine F.oq rfl rfl rfl (fun _ => by simp [go_sem]) fun d K hK => ?_; go_simp; refine hK _ ?_; clear hK K d; try walk_nrm
  refine F.esr ?_
  simp only [rg, Nat.reduceAdd]
  iterate 5 (refine F.oq rfl rfl rfl (fun _ => by simp [go_sem]) fun d K hK => ?_; go_simp; refine hK _ ?_; clear hK K d; try walk_nrm)
  refine F.op rfl rfl (by decide) (fun d K hK => ?_)
  go_simp
  rw [mk58]
  go_simp
  rw [alloc_at']
  refine hK _ _ ⟨DX.alloc _ _ (fun e he => ?_), ?_⟩
  · have hm := mem_listed he
    simp [go_sem, mk58, mk58e] at hm
  clear hK K d
  try walk_nrm
  generalize ew1 : World.alloc w0 _ = w1
  generalize hn1 : (World.heap w0).size = n1
  have sz1 := sz_al2 ew1 hn1
  have hh0 := cl_new (i := 0) ew1 hn1 rfl
  have zh0 := fz_new ew1 hn1 0
  try simp only [List.getElem_toArray, List.getElem_cons_zero, List.getElem_cons_succ] at hh0
  have kp : Kp [] w0 w0 [] := Kp.refl _
  replace kp := kp.alN ew1
  refine F.oq rfl rfl rfl (fun _ => by simp [go_sem]) fun d K hK => ?_; go_simp; refine hK _ ?_; clear hK K d; try walk_nrm
  refine F.op rfl rfl (by decide) (fun d K hK => ?_)
  go_simp
  rw [alloc_at']
  refine hK _ _ ⟨DX.alloc _ _ (fun e he => ?_), ?_⟩
  · have hm := mem_listed he
    simp [go_sem] at hm
  clear hK K d
  try walk_nrm
  generalize ew2 : World.alloc w1 _ = w2
  generalize hn2 : (World.heap w1).size = n2
  have sz2 := sz_al2 ew2 hn2
  replace zh0 := fz_al zh0 hh0 ew2
  replace hh0 := cl_al hh0 ew2
  have hb0 := cl_new (i := 0) ew2 hn2 rfl
  have zb0 := fz_new ew2 hn2 0
  have hb1 := cl_new (i := 1) ew2 hn2 rfl
  have zb1 := fz_new ew2 hn2 1
  have hb2 := cl_new (i := 2) ew2 hn2 rfl
  have zb2 := fz_new ew2 hn2 2
  have hb3 := cl_new (i := 3) ew2 hn2 rfl
  have zb3 := fz_new ew2 hn2 3
  have hb4 := cl_new (i := 4) ew2 hn2 rfl
  have zb4 := fz_new ew2 hn2 4
  try simp only [List.getElem_toArray, List.getElem_cons_zero, List.getElem_cons_succ] at hb0 hb1 hb2 hb3 hb4
  replace kp := kp.alN ew2
  iterate 2 (refine F.oq rfl rfl rfl (fun _ => by first | (simp [go_sem]; done) | simp [go_sem, Instr.makeInterface, Instr.makeFunc, *]) fun d K hK => ?_; go_simp; refine hK _ ?_; clear hK K d; try walk_nrm)
  refine F.re ?_
  refine F.ctl (fun _ => stepG_ret') ?_
  refine F.leave rfl rfl Tryz.func47 (resultsC_tmp (by rfl) _) ?_
  exact hc _ _ ⟨n2, n1, rfl, kp, by omega, by omega, lt_of_cell hb0, hb1, hb2, hb3, hb4, hh0, zh0⟩

set_option maxRecDepth 100000 in
set_option maxHeartbeats 4000000 in
theorem newRetry_x (N J : Nat) (a b c d ee : Int) (x0 : Nat) (num : Int) (w0 : World) (hN : N ≤ w0.heap.size) (hfr : ∀ a wr, N ≤ a.block → Ok a wr) :
    CallsX Tryz.prog main (DX Ok) 48 #[.agg #[.int .i64 1, .int .i64 a, .int .i64 b, .int .i64 c, .int .i64 d, .int .i64 ee], .agg #[.iface 138 (.pointer (some ⟨x0, 0, none⟩)), .int .i64 num, .pointer (some ⟨J, 0, none⟩)]] w0 fun v w' => ∃ R, v = .iface 141 (.pointer (some ⟨R, 0, none⟩)) ∧ Kp [] w0 w' ∧ w0.heap.size ≤ R ∧ R < w'.heap.size ∧
      w'.cell? ⟨R, 0, none⟩ = some (.iface 138 (.pointer (some ⟨x0, 0, none⟩))) ∧ w'.cell? ⟨R, 1, none⟩ = some (.int .i64 num) ∧ w'.cell? ⟨R, 2, none⟩ = some (.pointer (some ⟨J, 0, none⟩)) ∧ w'.cell? ⟨R, 3, none⟩ = some (.int .i64 a) ∧ w'.cell? ⟨R, 4, none⟩ = some (.int .i64 b) ∧ w'.cell? ⟨R, 5, none⟩ = some (.int .i64 c) ∧ w'.cell? ⟨R, 6, none⟩ = some (.int .i64 d) := by
  intro Ψ F c0 cs hc
  rw [enter_at _ Tryz.func48 rfl]
  simp only [Tryz.ntmps48, List.size_toArray, List.length_cons, List.length_nil, Nat.reduceAdd, Nat.reduceSub, Array.replicate_succ, Array.replicate_zero, List.push_toArray, List.append_toArray, List.nil_append, List.cons_append]
  refine F.sr ?_
  simp only [rg, Nat.reduceAdd]
  refine F.op rfl rfl (by decide) (fun d K hK => ?_)
  go_simp
  rw [alloc_at']
  refine hK _ _ ⟨DX.alloc _ _ (fun e he => ?_), ?_⟩
  · have hm := mem_listed he
    simp [go_sem] at hm
  clear hK K d
  try walk_nrm
  generalize ew1 : World.alloc w0 _ = w1
  generalize hn1 : (World.heap w0).size = n1
  have sz1 := sz_al2 ew1 hn1
  have hk0 := cl_new (i := 0) ew1 hn1 rfl
  have zk0 := fz_new ew1 hn1 0
  have hk1 := cl_new (i := 1) ew1 hn1 rfl
  have zk1 := fz_new ew1 hn1 1
  have hk2 := cl_new (i := 2) ew1 hn1 rfl
  have zk2 := fz_new ew1 hn1 2
  have hk3 := cl_new (i := 3) ew1 hn1 rfl
  have zk3 := fz_new ew1 hn1 3
  have hk4 := cl_new (i := 4) ew1 hn1 rfl
  have zk4 := fz_new ew1 hn1 4
  have hk5 := cl_new (i := 5) ew1 hn1 rfl
  have zk5 := fz_new ew1 hn1 5
  try simp only [List.getElem_toArray, List.getElem_cons_zero, List.getElem_cons_succ] at hk0 hk1 hk2 hk3 hk4 hk5
  have kp : Kp [] w0 w0 [] := Kp.refl _
  replace kp := kp.alN ew1
  refine F.op rfl rfl (by decide) (fun d K hK => ?_)
  go_simp
  rw [alloc_at']
  refine hK _ _ ⟨DX.alloc _ _ (fun e he => ?_), ?_⟩
  · have hm := mem_listed he
    simp [go_sem] at hm
  clear hK K d
  try walk_nrm
  generalize ew2 : World.alloc w1 _ = w2
  generalize hn2 : (World.heap w1).size = n2
  have sz2 := sz_al2 ew2 hn2
  replace zk0 := fz_al zk0 hk0 ew2
  replace zk1 := fz_al zk1 hk1 ew2
  replace zk2 := fz_al zk2 hk2 ew2
  replace zk3 := fz_al zk3 hk3 ew2
  replace zk4 := fz_al zk4 hk4 ew2
  replace zk5 := fz_al zk5 hk5 ew2
  replace hk0 := cl_al hk0 ew2
  replace hk1 := cl_al hk1 ew2
  replace hk2 := cl_al hk2 ew2
  replace hk3 := cl_al hk3 ew2
  replace hk4 := cl_al hk4 ew2
  replace hk5 := cl_al hk5 ew2
  have hm0 := cl_new (i := 0) ew2 hn2 rfl
  have zm0 := fz_new ew2 hn2 0
  have hm1 := cl_new (i := 1) ew2 hn2 rfl
  have zm1 := fz_new ew2 hn2 1
  have hm2 := cl_new (i := 2) ew2 hn2 rfl
  have zm2 := fz_new ew2 hn2 2
  try simp only [List.getElem_toArray, List.getElem_cons_zero, List.getElem_cons_succ] at hm0 hm1 hm2
  replace kp := kp.alN ew2
  have q1 : w0.heap.size ≤ n1 ∧ n1 < n2 ∧ n2 < w2.heap.size := ⟨by omega, by omega, by omega⟩
  clear hn1 hn2 sz1 sz2 ew1 ew2
  refine F.oq rfl rfl rfl (fun _ => by simp [go_sem]) fun d K hK => ?_; go_simp; refine hK _ ?_; clear hK K d; try walk_nrm
  refine F.es ?_
  refine F.sr ?_
  simp only [rg, Nat.reduceAdd]
  refine F.oq rfl rfl rfl (fun _ => by simp [go_sem]) fun d K hK => ?_; go_simp; refine hK _ ?_; clear hK K d; try walk_nrm
  refine F.ol rfl rfl rfl fun d K hK => ?_
  go_simp
  refine hK _ (fun e hm => ?_) ?_
  · simp [go_sem, *] at hm
    subst hm
    exact evr (w := w2) (by assumption) (by first | assumption | exact hrb _ rfl | (apply hfr <;> dsimp only <;> omega))
  clear hK K d
  try walk_nrm
  refine F.re ?_
  refine F.bl ?_
  refine F.sr ?_
  simp only [rg, Nat.reduceAdd]
  iterate 2 (refine F.oq rfl rfl rfl (fun _ => by simp [go_sem]) fun d K hK => ?_; go_simp; refine hK _ ?_; clear hK K d; try walk_nrm)
  refine F.re ?_
  refine F.ct rfl ?_
  refine F.sr ?_
  simp only [rg, Nat.reduceAdd]
  refine F.ol rfl rfl rfl fun d K hK => ?_
  go_simp
  refine hK _ (fun e hm => ?_) ?_
  · simp [go_sem, *] at hm
    rcases hm with rfl | rfl | rfl <;> exact evr (w := w2) (by assumption) (by first | assumption | exact hrb _ rfl | (apply hfr <;> dsimp only <;> omega))
  clear hK K d
  try walk_nrm
  refine F.oq rfl rfl rfl (fun _ => by simp [go_sem]) fun d K hK => ?_; go_simp; refine hK _ ?_; clear hK K d; try walk_nrm
  refine F.ol rfl rfl rfl fun d K hK => ?_
  go_simp
  refine hK _ (fun e hm => ?_) ?_
  · simp [go_sem, *] at hm
    subst hm
    exact evr (w := w2) (by assumption) (by first | assumption | exact hrb _ rfl | (apply hfr <;> dsimp only <;> omega))
  clear hK K d
  try walk_nrm
  refine F.oq rfl rfl rfl (fun _ => by simp [go_sem]) fun d K hK => ?_; go_simp; refine hK _ ?_; clear hK K d; try walk_nrm
  refine F.ol rfl rfl rfl fun d K hK => ?_
  go_simp
  refine hK _ (fun e hm => ?_) ?_
  · simp [go_sem, *] at hm
    subst hm
    exact evr (w := w2) (by assumption) (by first | assumption | exact hrb _ rfl | (apply hfr <;> dsimp only <;> omega))
  clear hK K d
  try walk_nrm
  refine F.oq rfl rfl rfl (fun _ => by simp [go_sem]) fun d K hK => ?_; go_simp; refine hK _ ?_; clear hK K d; try walk_nrm
  refine F.ol rfl rfl rfl fun d K hK => ?_
  go_simp
  refine hK _ (fun e hm => ?_) ?_
  · simp [go_sem, *] at hm
    subst hm
    exact evr (w := w2) (by assumption) (by first | assumption | exact hrb _ rfl | (apply hfr <;> dsimp only <;> omega))
  clear hK K d
  try walk_nrm
  refine F.oq rfl rfl rfl (fun _ => by simp [go_sem]) fun d K hK => ?_; go_simp; refine hK _ ?_; clear hK K d; try walk_nrm
  refine F.ol rfl rfl rfl fun d K hK => ?_
  go_simp
  refine hK _ (fun e hm => ?_) ?_
  · simp [go_sem, *] at hm
    subst hm
    exact evr (w := w2) (by assumption) (by first | assumption | exact hrb _ rfl | (apply hfr <;> dsimp only <;> omega))
  clear hK K d
  try walk_nrm
  refine F.oq rfl rfl rfl (fun _ => by simp [go_sem]) fun d K hK => ?_; go_simp; refine hK _ ?_; clear hK K d; try walk_nrm
  clear zk0 zk1 zk2 zk3 zk4 zk5 zm0 zm1 zm2 hk0 hk1 hk2 hk3 hk4 hk5 hm0 hm1 hm2
  refine F.op rfl rfl (by decide) (fun d K hK => ?_)
  go_simp
  rw [alloc_at']
  refine hK _ _ ⟨DX.alloc _ _ (fun e he => ?_), ?_⟩
  · have hm := mem_listed he
    simp [go_sem] at hm
  clear hK K d
  try walk_nrm
  generalize ew3 : World.alloc w2 _ = w3
  generalize hn3 : (World.heap w2).size = n3
  have sz3 := sz_al2 ew3 hn3
  have hr0 := cl_new (i := 0) ew3 hn3 rfl
  have zr0 := fz_new ew3 hn3 0
  have hr1 := cl_new (i := 1) ew3 hn3 rfl
  have zr1 := fz_new ew3 hn3 1
  have hr2 := cl_new (i := 2) ew3 hn3 rfl
  have zr2 := fz_new ew3 hn3 2
  have hr3 := cl_new (i := 3) ew3 hn3 rfl
  have zr3 := fz_new ew3 hn3 3
  have hr4 := cl_new (i := 4) ew3 hn3 rfl
  have zr4 := fz_new ew3 hn3 4
  have hr5 := cl_new (i := 5) ew3 hn3 rfl
  have zr5 := fz_new ew3 hn3 5
  have hr6 := cl_new (i := 6) ew3 hn3 rfl
  have zr6 := fz_new ew3 hn3 6
  try simp only [List.getElem_toArray, List.getElem_cons_zero, List.getElem_cons_succ] at hr0 hr1 hr2 hr3 hr4 hr5 hr6
  replace kp := kp.alN ew3
  iterate 2 (refine F.oq rfl rfl rfl (fun _ => by first | (simp [go_sem]; done) | simp [go_sem, Instr.makeInterface, Instr.makeFunc, *]) fun d K hK => ?_; go_simp; refine hK _ ?_; clear hK K d; try walk_nrm)
  refine F.re ?_
  refine F.ctl (fun _ => stepG_ret') ?_
  refine F.leave rfl rfl Tryz.func48 (resultsC_tmp (by rfl) _) ?_
  exact hc _ _ ⟨n3, rfl, kp, by omega, lt_of_cell hr0, hr0, hr1, hr2, hr3, hr4, hr5, hr6⟩

set_option maxRecDepth 100000 in
set_option maxHeartbeats 4000000 in
theorem stack0_x (C J : Nat) (w0 : World) :
    CallsX Tryz.prog main (DX Ok) 34 #[.slice none 0 0, .slice (some ⟨C, 0, none⟩) 1 1, .pointer (some ⟨J, 0, none⟩)] w0 fun v w' => ∃ B HD, v = .iface 138 (.pointer (some ⟨B, 0, none⟩)) ∧ Kp [] w0 w' ∧ w0.heap.size ≤ HD ∧ HD < B ∧ B < w'.heap.size ∧ BackAt w' B HD C J := by
  intro Ψ F c cs hc
  have hw0 : IntKind.i64.wrap 0 = 0 := by decide
  have hw1 : IntKind.i64.wrap (-1) = -1 := by decide
  rw [enter_at _ Tryz.func34 rfl]
  simp only [Tryz.ntmps34, List.size_toArray, List.length_cons, List.length_nil, Nat.reduceAdd, Nat.reduceSub, Array.replicate_succ, Array.replicate_zero, List.push_toArray, List.append_toArray, List.nil_append, List.cons_append]
  refine F.sr ?_
  simp only [rg, Nat.reduceAdd]
  refine F.oq rfl rfl rfl (fun _ => by simp [go_sem]) fun d K hK => ?_; go_simp; refine hK _ ?_; clear hK K d; try walk_nrm
  refine F.esr ?_
  simp only [rg, Nat.reduceAdd]
  iterate 2 (refine F.oq rfl rfl rfl (fun _ => by simp [go_sem]) fun d K hK => ?_; go_simp; refine hK _ ?_; clear hK K d; try walk_nrm)
  refine F.enter rfl rfl (by decide) (fun _ => run_call_body rfl Tryz.func47 (by rfl) (by rfl)) (fun _ => events_call_body rfl Tryz.func47 (by rfl) (by rfl) _) ?_
  walk_nrm
  refine newBackend_x C J w0 _ F _ _ (fun v w1 hp => ?_)
  obtain ⟨B, HD, rfl, k1, h1, h2, h3, h4⟩ := hp
  rw [Frame.finish_at]
  try walk_nrm
  refine F.oq rfl rfl rfl (fun _ => by simp [go_sem]) fun d K hK => ?_; go_simp; refine hK _ ?_; clear hK K d; try walk_nrm
  refine F.es ?_
  refine F.sr ?_
  simp only [rg, Nat.reduceAdd]
  iterate 4 (refine F.oq rfl rfl rfl (fun _ => by simp [go_sem]) fun d K hK => ?_; go_simp; refine hK _ ?_; clear hK K d; try walk_nrm)
  refine F.re ?_
  refine F.bl ?_
  refine F.ctl (fun _ => stepG_loop) ?_
  refine F.sq ?_
  refine F.sr ?_
  simp only [rg, Nat.reduceAdd]
  iterate 2 (refine F.oq rfl rfl rfl (fun _ => by simp [go_sem]) fun d K hK => ?_; go_simp; refine hK _ ?_; clear hK K d; try walk_nrm)
  refine F.re ?_
  refine F.cf rfl ?_
  refine F.ctl (fun _ => stepG_exit rfl) ?_
  refine F.sr ?_
  simp only [rg, Nat.reduceAdd]
  iterate 2 (refine F.oq rfl rfl rfl (fun _ => by simp [go_sem]) fun d K hK => ?_; go_simp; refine hK _ ?_; clear hK K d; try walk_nrm)
  refine F.re ?_
  refine F.ctl (fun _ => stepG_ret') ?_
  refine F.leave rfl rfl Tryz.func34 (resultsC_tmp (by rfl) _) ?_
  exact hc _ _ ⟨B, HD, rfl, k1, h1, h2, h3, h4⟩

set_option maxRecDepth 100000 in
set_option maxHeartbeats 4000000 in
theorem stack1_x (N l C J : Nat) (a b cc d ee : Int) (w0 : World) (hN : N ≤ w0.heap.size) (hfr : ∀ a wr, N ≤ a.block → Ok a wr) (hrb : ∀ x : Addr, x.block = l → Ok x false) (l0 : w0.cell? ⟨l, 0, none⟩ = some (.int .i64 1)) (l1 : w0.cell? ⟨l, 1, none⟩ = some (.int .i64 a)) (l2 : w0.cell? ⟨l, 2, none⟩ = some (.int .i64 b)) (l3 : w0.cell? ⟨l, 3, none⟩ = some (.int .i64 cc)) (l4 : w0.cell? ⟨l, 4, none⟩ = some (.int .i64 d)) (l5 : w0.cell? ⟨l, 5, none⟩ = some (.int .i64 ee)) :
    CallsX Tryz.prog main (DX Ok) 34 #[.slice (some ⟨l, 0, none⟩) 1 1, .slice (some ⟨C, 0, none⟩) 1 1, .pointer (some ⟨J, 0, none⟩)] w0 fun v w' => ∃ B HD R, v = .iface 141 (.pointer (some ⟨R, 0, none⟩)) ∧ Kp [] w0 w' ∧ w0.heap.size ≤ HD ∧ HD < B ∧ B < R ∧ R < w'.heap.size ∧ BackAt w' B HD C J ∧
      w'.cell? ⟨R, 0, none⟩ = some (.iface 138 (.pointer (some ⟨B, 0, none⟩))) ∧ w'.cell? ⟨R, 1, none⟩ = some (.int .i64 0) ∧ w'.cell? ⟨R, 2, none⟩ = some (.pointer (some ⟨J, 0, none⟩)) ∧ w'.cell? ⟨R, 3, none⟩ = some (.int .i64 a) ∧ w'.cell? ⟨R, 4, none⟩ = some (.int .i64 b) ∧ w'.cell? ⟨R, 5, none⟩ = some (.int .i64 cc) ∧ w'.cell? ⟨R, 6, none⟩ = some (.int .i64 d) := by
  intro Ψ F c cs hc
  have hw0 : IntKind.i64.wrap 0 = 0 := by decide
  have hw1 : IntKind.i64.wrap (-1) = -1 := by decide
  rw [enter_at _ Tryz.func34 rfl]
  simp only [Tryz.ntmps34, List.size_toArray, List.length_cons, List.length_nil, Nat.reduceAdd, Nat.reduceSub, Array.replicate_succ, Array.replicate_zero, List.push_toArray, List.append_toArray, List.nil_append, List.cons_append]
  refine F.sr ?_
  simp only [rg, Nat.reduceAdd]
  refine F.oq rfl rfl rfl (fun _ => by simp [go_sem]) fun d K hK => ?_; go_simp; refine hK _ ?_; clear hK K d; try walk_nrm
  refine F.esr ?_
  simp only [rg, Nat.reduceAdd]
  iterate 2 (refine F.oq rfl rfl rfl (fun _ => by simp [go_sem]) fun d K hK => ?_; go_simp; refine hK _ ?_; clear hK K d; try walk_nrm)
  refine F.enter rfl rfl (by decide) (fun _ => run_call_body rfl Tryz.func47 (by rfl) (by rfl)) (fun _ => events_call_body rfl Tryz.func47 (by rfl) (by rfl) _) ?_
  walk_nrm
  refine newBackend_x C J w0 _ F _ _ (fun v w1 hp => ?_)
  obtain ⟨B, HD, rfl, k1, h1, h2, h3, h4⟩ := hp
  replace l0 := k1.cell _ _ (by simp) l0
  replace l1 := k1.cell _ _ (by simp) l1
  replace l2 := k1.cell _ _ (by simp) l2
  replace l3 := k1.cell _ _ (by simp) l3
  replace l4 := k1.cell _ _ (by simp) l4
  replace l5 := k1.cell _ _ (by simp) l5
  have hs1 := k1.size
  rw [Frame.finish_at]
  try walk_nrm
  refine F.oq rfl rfl rfl (fun _ => by simp [go_sem]) fun d K hK => ?_; go_simp; refine hK _ ?_; clear hK K d; try walk_nrm
  refine F.es ?_
  refine F.sr ?_
  simp only [rg, Nat.reduceAdd]
  iterate 4 (refine F.oq rfl rfl rfl (fun _ => by simp [go_sem]) fun d K hK => ?_; go_simp; refine hK _ ?_; clear hK K d; try walk_nrm)
  refine F.re ?_
  refine F.bl ?_
  refine F.ctl (fun _ => stepG_loop) ?_
  refine F.sq ?_
  refine F.sr ?_
  simp only [rg, Nat.reduceAdd]
  iterate 2 (refine F.oq rfl rfl rfl (fun _ => by simp [go_sem]) fun d K hK => ?_; go_simp; refine hK _ ?_; clear hK K d; try walk_nrm)
  refine F.re ?_
  refine F.ct rfl ?_
  refine F.sk ?_
  refine F.sq ?_
  refine F.bl ?_
  refine F.rr ?_
  simp only [rg, Nat.reduceAdd]
  iterate 3 (refine F.oq rfl rfl rfl (fun _ => by simp [go_sem]) fun d K hK => ?_; go_simp; refine hK _ ?_; clear hK K d; try walk_nrm)
  refine F.ol rfl rfl rfl fun d K hK => ?_
  go_simp
  refine hK _ (fun e hm => ?_) ?_
  · simp [go_sem, *] at hm
    rcases hm with rfl | rfl | rfl | rfl | rfl | rfl <;> exact evr (w := w1) (by assumption) (by first | assumption | exact hrb _ rfl | (apply hfr <;> dsimp only <;> omega))
  clear hK K d
  try walk_nrm
  iterate 4 (refine F.oq rfl rfl rfl (fun _ => by simp [go_sem]) fun d K hK => ?_; go_simp; refine hK _ ?_; clear hK K d; try walk_nrm)
  refine F.enter rfl rfl (by decide) (fun _ => run_call_body rfl Tryz.func48 (by rfl) (by rfl)) (fun _ => events_call_body rfl Tryz.func48 (by rfl) (by rfl) _) ?_
  walk_nrm
  refine newRetry_x N J a b cc d ee B 0 w1 (by omega) hfr _ F _ _ (fun v w2 hp => ?_)
  obtain ⟨R, rfl, k2, f1, f2, r0, r1, r2, r3, r4, r5, r6⟩ := hp
  rw [Frame.finish_at]
  try walk_nrm
  refine F.oq rfl rfl rfl (fun _ => by simp [go_sem]) fun d K hK => ?_; go_simp; refine hK _ ?_; clear hK K d; try walk_nrm
  refine F.re ?_
  refine F.ib ?_
  refine F.rr ?_
  simp only [rg, Nat.reduceAdd]
  iterate 3 (refine F.oq rfl rfl rfl (fun _ => by simp [go_sem]) fun d K hK => ?_; go_simp; refine hK _ ?_; clear hK K d; try walk_nrm)
  refine F.re ?_
  refine F.ctl (fun _ => stepG_inLoop) ?_
  refine F.sq ?_
  refine F.sr ?_
  simp only [rg, Nat.reduceAdd]
  iterate 2 (refine F.oq rfl rfl rfl (fun _ => by simp [go_sem]) fun d K hK => ?_; go_simp; refine hK _ ?_; clear hK K d; try walk_nrm)
  refine F.re ?_
  refine F.cf rfl ?_
  refine F.ctl (fun _ => stepG_exit rfl) ?_
  refine F.sr ?_
  simp only [rg, Nat.reduceAdd]
  iterate 2 (refine F.oq rfl rfl rfl (fun _ => by simp [go_sem]) fun d K hK => ?_; go_simp; refine hK _ ?_; clear hK K d; try walk_nrm)
  refine F.re ?_
  refine F.ctl (fun _ => stepG_ret') ?_
  refine F.leave rfl rfl Tryz.func34 (resultsC_tmp (by rfl) _) ?_
  exact hc _ _ ⟨B, HD, R, rfl, k1.callN k2 (by simp) (by simp), h1, h2, by omega, f2, h4.kp k2, r0, r1, r2, r3, r4, r5, r6⟩

end Go.Proofs.YtobagnjnbmgidaaGreatDoor

/-! A new agenda. -/
namespace Go.Proofs.YtobagnjnbmgidaaGreatDoor
open Go.Conc Go.RowKit
variable {main : Bool} {Ok : Addr → Bool → Prop}

def bn (b : Bool) : Nat := if b then 1 else 0
def OpenCh (w : World) (c : Nat) : Prop := w.heap[c]? = some (.chan 0 #[] false 0 0 false)
theorem OpenCh.al {w w' : World} {o : Obj} {c : Nat} (h : OpenCh w c) (e : w.alloc o = w') : OpenCh w' c := by
  subst e; unfold OpenCh; rw [Below.heap_alloc _ _ _ (Array.getElem?_eq_some_iff.1 h).1]; exact h
theorem OpenCh.st {w w' : World} {a : Addr} {v : Value} {c : Nat} (h : OpenCh w c) (e : w.setCell a v = w') : OpenCh w' c := by
  subst e
  unfold OpenCh at h ⊢
  simp only [World.setCell, Array.getElem?_modify, h]
  split <;> rfl
/-- The agenda's block, as it is made. -/
structure AgNew (w : World) (A wc ec : Nat) : Prop where
  a0 : w.cell? ⟨A, 0, none⟩ = some (.int .i64 0)
  a1 : w.cell? ⟨A, 1, none⟩ = some (.slice none 0 0)
  a2 : w.cell? ⟨A, 2, none⟩ = some (.int .i64 0)
  a3 : w.cell? ⟨A, 3, none⟩ = some (.chan (some wc))
  a4 : w.cell? ⟨A, 4, none⟩ = some (.chan (some ec))
  a5 : w.cell? ⟨A, 5, none⟩ = some (.int .u64 0)
  a6 : w.cell? ⟨A, 6, none⟩ = some (.int .u32 0)
  z : ∀ i, w.frozen? ⟨A, i, none⟩ = false

set_option maxRecDepth 100000 in
set_option maxHeartbeats 4000000 in
theorem new_agenda_x (w0 : World) :
    CallsX Tryz.prog main (DX Ok) 35 #[] w0 fun v w' => ∃ wc ec, v = .pointer (some ⟨w0.heap.size + 2, 0, none⟩) ∧ Kp [] w0 w' ∧ w'.heap.size = w0.heap.size + 3 ∧ w0.heap.size ≤ wc ∧ wc < w0.heap.size + 2 ∧ w0.heap.size ≤ ec ∧ ec < w0.heap.size + 2 ∧ wc ≠ ec ∧ OpenCh w' wc ∧ OpenCh w' ec ∧ AgNew w' (w0.heap.size + 2) wc ec := by
  intro Ψ F c cs hc
  generalize hn0 : w0.heap.size = n0 at hc
  have hn0' : n0 ≤ w0.heap.size ∧ w0.heap.size ≤ n0 := by omega
  clear hn0
  rw [enter_at _ Tryz.func35 rfl]
  simp only [Tryz.ntmps35, List.size_toArray, List.length_cons, List.length_nil, Nat.reduceAdd, Nat.reduceSub, Array.replicate_succ, Array.replicate_zero, List.push_toArray, List.append_toArray, List.nil_append, List.cons_append]
  have kp : Kp [] w0 w0 := Kp.refl _
  have hsz : n0 + (bn false + bn false + bn false) ≤ w0.heap.size ∧ w0.heap.size ≤ n0 + (bn false + bn false + bn false) := by simp [bn]; omega
  refine F.sr ?_
  simp only [rg, Nat.reduceAdd]
  refine F.oq rfl rfl rfl (fun _ => by simp [go_sem]) fun d K hK => ?_; go_simp; refine hK _ ?_; clear hK K d; try walk_nrm
  refine F.es ?_
  refine F.drawB (γ := Nat × Nat) (n := 5) mixed [[], [], [0, 1], [2], [0, 1, 2, 3]] rfl (by kernel_rfl) (fun b g => [(1, sel (b 0) (.chan (some g.1)) (undef)), (2, sel (b 1) (.chan (some g.2)) (undef)), (3, sel (b 2) (.agg #[.int .i64 0, .slice none 0 0, .int .i64 0, .chan (some g.1), .chan (some g.2), .int .u64 0, .int .u32 0]) (undef)), (4, sel (b 3) (.pointer (some ⟨n0 + 2, 0, none⟩)) (undef)), (0, sel (b 4) (.pointer (some ⟨n0 + 2, 0, none⟩)) (.pointer none))]) (fun b g w => (Kp [] w0 w) ∧ (n0 + (bn (b 0) + bn (b 1) + bn (b 3)) ≤ w.heap.size ∧ w.heap.size ≤ n0 + (bn (b 0) + bn (b 1) + bn (b 3))) ∧ (b 0 = true → n0 ≤ g.1 ∧ g.1 < n0 + 2 ∧ g.1 < w.heap.size ∧ OpenCh w g.1) ∧ (b 1 = true → n0 ≤ g.2 ∧ g.2 < n0 + 2 ∧ g.2 < w.heap.size ∧ OpenCh w g.2) ∧ (b 0 = true → b 1 = true → g.1 ≠ g.2) ∧ (b 3 = true → AgNew w (n0 + 2) g.1 g.2)) ((0, 0)) (by simp only [pu, Nat.reduceAdd, Nat.reduceEqDiff, reduceIte]) (⟨kp, hsz, fun h => (by cases h), fun h => (by cases h), fun h => (by cases h), fun h => (by cases h)⟩) (all_cons ?_ (all_cons ?_ (all_cons ?_ (all_cons ?_ (all_cons ?_ (all_nil)))))) ?_
  · intro b g w hI hcl hbi hdp rest hre hkk
    obtain ⟨kp, hsz, h0, h1, h2, h3⟩ := hI
    replace hbi : b 0 = false := hbi
    have nb2 := nbf (hcl 2 0 rfl) hbi
    have nb3 := nbf (hcl 3 2 rfl) nb2
    have nb4 := nbf (hcl 4 0 rfl) hbi
    simp only [nb2, nb3, nb4, hbi, pu, Nat.reduceAdd, Nat.reduceEqDiff, reduceIte]
    have hbb : bn (b 1) ≤ 1 := by simp only [bn]; split <;> omega
    have hb3 : bn (b 3) = 0 := by rw [nb3]; rfl
    have hbi' : bn (b 0) = 0 := by rw [hbi]; rfl
    refine F.op rfl rfl (by decide) (fun d K hK => ?_)
    go_simp
    rw [mc99]
    go_simp
    rw [alloc_at']
    refine hK _ _ ⟨DX.alloc _ _ (fun e he => ?_), ?_⟩
    · have hm := mem_listed he
      simp [go_sem, mc99, mc99e] at hm
    clear hK K d
    try walk_nrm
    generalize ew1 : World.alloc w _ = w1
    generalize hn1 : (World.heap w).size = n1
    have sz1 := sz_al ew1 hn1
    have hk2 := hkk (n1, g.2) _ ⟨kp.alN ew1, (by have e0 : bn (tick b 0 0) = 1 := (by simp [tick, bn]); have e1 : tick b 0 1 = b 1 := (by simp [tick]); have e3 : tick b 0 3 = b 3 := (by simp [tick]); rw [e0, e1, e3]; omega), fun _ => ⟨by omega, by omega, by omega, hp_new ew1 hn1⟩, fun h => ⟨(h1 (by simpa [tick] using h)).1, (h1 (by simpa [tick] using h)).2.1, by have := (h1 (by simpa [tick] using h)).2.2.1; omega, (h1 (by simpa [tick] using h)).2.2.2.al ew1⟩, fun _ h => (fun z => by have := (h1 (by simpa [tick] using h)).2.2.1; dsimp only at z; omega), fun h => absurd (show b 3 = true from (by simpa [tick] using h)) (by rw [nb3]; decide)⟩
    simp only [nb2, nb3, nb4, hbi, pu, Nat.reduceAdd, Nat.reduceEqDiff, reduceIte] at hk2
    exact hk2
  · intro b g w hI hcl hbi hdp rest hre hkk
    obtain ⟨kp, hsz, h0, h1, h2, h3⟩ := hI
    replace hbi : b 1 = false := hbi
    have nb2 := nbf (hcl 2 1 rfl) hbi
    have nb3 := nbf (hcl 3 2 rfl) nb2
    have nb4 := nbf (hcl 4 1 rfl) hbi
    simp only [nb2, nb3, nb4, hbi, pu, Nat.reduceAdd, Nat.reduceEqDiff, reduceIte]
    have hbb : bn (b 0) ≤ 1 := by simp only [bn]; split <;> omega
    have hb3 : bn (b 3) = 0 := by rw [nb3]; rfl
    have hbi' : bn (b 1) = 0 := by rw [hbi]; rfl
    refine F.op rfl rfl (by decide) (fun d K hK => ?_)
    go_simp
    rw [mc99]
    go_simp
    rw [alloc_at']
    refine hK _ _ ⟨DX.alloc _ _ (fun e he => ?_), ?_⟩
    · have hm := mem_listed he
      simp [go_sem, mc99, mc99e] at hm
    clear hK K d
    try walk_nrm
    generalize ew1 : World.alloc w _ = w1
    generalize hn1 : (World.heap w).size = n1
    have sz1 := sz_al ew1 hn1
    have hk2 := hkk (g.1, n1) _ ⟨kp.alN ew1, (by have e0 : bn (tick b 1 1) = 1 := (by simp [tick, bn]); have e1 : tick b 1 0 = b 0 := (by simp [tick]); have e3 : tick b 1 3 = b 3 := (by simp [tick]); rw [e0, e1, e3]; omega), fun h => ⟨(h0 (by simpa [tick] using h)).1, (h0 (by simpa [tick] using h)).2.1, by have := (h0 (by simpa [tick] using h)).2.2.1; omega, (h0 (by simpa [tick] using h)).2.2.2.al ew1⟩, fun _ => ⟨by omega, by omega, by omega, hp_new ew1 hn1⟩, fun h _ => (fun z => by have := (h0 (by simpa [tick] using h)).2.2.1; dsimp only at z; omega), fun h => absurd (show b 3 = true from (by simpa [tick] using h)) (by rw [nb3]; decide)⟩
    simp only [nb2, nb3, nb4, hbi, pu, Nat.reduceAdd, Nat.reduceEqDiff, reduceIte] at hk2
    exact hk2
  · intro b g w hI hcl hbi hdp rest hre hkk
    obtain ⟨kp, hsz, h0, h1, h2, h3⟩ := hI
    replace hbi : b 2 = false := hbi
    have d0 := hdp 0 rfl
    have d1 := hdp 1 rfl
    have nb3 := nbf (hcl 3 2 rfl) hbi
    have nb4 := nbf (hcl 4 2 rfl) hbi
    simp only [d0, d1, nb3, nb4, hbi, pu, Nat.reduceAdd, Nat.reduceEqDiff, reduceIte]
    refine F.oq rfl rfl rfl (fun _ => by simp [go_sem]) fun d K hK => ?_; go_simp; refine hK _ ?_; clear hK K d; try walk_nrm
    have hk2 := hkk g _ ⟨kp, hsz, h0, h1, h2, h3⟩
    simp only [d0, d1, nb3, nb4, hbi, pu, Nat.reduceAdd, Nat.reduceEqDiff, reduceIte] at hk2
    exact hk2
  · intro b g w hI hcl hbi hdp rest hre hkk
    obtain ⟨kp, hsz, h0, h1, h2, h3⟩ := hI
    replace hbi : b 3 = false := hbi
    have d2 := hdp 2 rfl
    have d0 := hcl 2 0 rfl d2
    have d1 := hcl 2 1 rfl d2
    have nb4 := nbf (hcl 4 3 rfl) hbi
    simp only [d2, d0, d1, nb4, hbi, pu, Nat.reduceAdd, Nat.reduceEqDiff, reduceIte]
    have e0 : bn (b 0) = 1 := by rw [d0]; rfl
    have e1 : bn (b 1) = 1 := by rw [d1]; rfl
    have e3 : bn (b 3) = 0 := by rw [hbi]; rfl
    have hs3 : w.heap.size = n0 + 2 := by omega
    clear hsz
    refine F.op rfl rfl (by decide) (fun d K hK => ?_)
    go_simp
    rw [alloc_at']
    refine hK _ _ ⟨DX.alloc _ _ (fun e he => ?_), ?_⟩
    · have hm := mem_listed he
      simp [go_sem] at hm
    clear hK K d
    try walk_nrm
    generalize ew1 : World.alloc w _ = w1
    have sz1 := sz_al ew1 hs3
    have ag : AgNew w1 (n0 + 2) g.1 g.2 := ⟨cl_new (i := 0) ew1 hs3 rfl, cl_new (i := 1) ew1 hs3 rfl, cl_new (i := 2) ew1 hs3 rfl, cl_new (i := 3) ew1 hs3 rfl, cl_new (i := 4) ew1 hs3 rfl, cl_new (i := 5) ew1 hs3 rfl, cl_new (i := 6) ew1 hs3 rfl, fun i => fz_new ew1 hs3 i⟩
    have hk2 := hkk g _ ⟨kp.alN ew1, (by have t0 : tick b 3 0 = b 0 := (by simp [tick]); have t1 : tick b 3 1 = b 1 := (by simp [tick]); have t3 : bn (tick b 3 3) = 1 := (by simp [tick, bn]); rw [t0, t1, t3]; omega), fun _ => ⟨(h0 d0).1, (h0 d0).2.1, by have := (h0 d0).2.2.1; omega, (h0 d0).2.2.2.al ew1⟩, fun _ => ⟨(h1 d1).1, (h1 d1).2.1, by have := (h1 d1).2.2.1; omega, (h1 d1).2.2.2.al ew1⟩, fun _ _ => h2 d0 d1, fun _ => ag⟩
    simp only [d2, d0, d1, nb4, hbi, pu, Nat.reduceAdd, Nat.reduceEqDiff, reduceIte] at hk2
    exact hk2
  · intro b g w hI hcl hbi hdp rest hre hkk
    obtain ⟨kp, hsz, h0, h1, h2, h3⟩ := hI
    replace hbi : b 4 = false := hbi
    have d0 := hdp 0 rfl
    have d1 := hdp 1 rfl
    have d2 := hdp 2 rfl
    have d3 := hdp 3 rfl
    simp only [d0, d1, d2, d3, hbi, pu, Nat.reduceAdd, Nat.reduceEqDiff, reduceIte]
    refine F.oq rfl rfl rfl (fun _ => by simp [go_sem]) fun d K hK => ?_; go_simp; refine hK _ ?_; clear hK K d; try walk_nrm
    have hk2 := hkk g _ ⟨kp, hsz, h0, h1, h2, h3⟩
    simp only [d0, d1, d2, d3, hbi, pu, Nat.reduceAdd, Nat.reduceEqDiff, reduceIte] at hk2
    exact hk2
  intro b g w hI hall
  obtain ⟨kp, hsz, h0, h1, h2, h3⟩ := hI
  simp only [hall 0 (by decide), hall 1 (by decide), hall 2 (by decide), hall 3 (by decide), hall 4 (by decide), pu, Nat.reduceAdd, Nat.reduceEqDiff, reduceIte]
  have f0 := h0 (hall 0 (by decide))
  have f1 := h1 (hall 1 (by decide))
  have f2 := h2 (hall 0 (by decide)) (hall 1 (by decide))
  have f3 := h3 (hall 3 (by decide))
  rw [hall 0 (by decide), hall 1 (by decide), hall 3 (by decide)] at hsz
  simp only [bn, if_true] at hsz
  refine F.re ?_
  refine F.ctl (fun _ => stepG_ret') ?_
  refine F.leave rfl rfl Tryz.func35 (resultsC_tmp (by rfl) _) ?_
  exact hc _ _ ⟨g.1, g.2, rfl, kp, by omega, f0.1, f0.2.1, f1.1, f1.2.1, f2, f0.2.2.2, f1.2.2.2, f3⟩

end Go.Proofs.YtobagnjnbmgidaaGreatDoor
