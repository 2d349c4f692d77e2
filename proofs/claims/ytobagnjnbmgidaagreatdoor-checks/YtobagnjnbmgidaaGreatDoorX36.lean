/- The backend and the layers are laid. -/
import Derived.Test.YtobagnjnbmgidaaGreatDoorX30
set_option linter.unusedSimpArgs false
set_option linter.unusedVariables false
namespace Go.Proofs.YtobagnjnbmgidaaGreatDoor
open Go.Conc Go.RowKit
variable {main : Bool} {Ok : Addr → Bool → Prop}

theorem mk58 (w : World) : (Instr.makeSlice 58 (.int .i64 1) (.int .i64 1)).run Tryz.prog w = .ok (.slice (some ⟨w.heap.size, 0, none⟩) 1 1) (w.alloc (.cells #[.int .i64 0] 3)) := by kernel_rfl
theorem mk58e (w : World) (es : Array Event) : (Instr.makeSlice 58 (.int .i64 1) (.int .i64 1)).events Tryz.prog w es = es := by kernel_rfl
theorem mk32 (w : World) : (Instr.makeSlice 32 (.int .i64 1) (.int .i64 1)).run Tryz.prog w = .ok (.slice (some ⟨w.heap.size, 0, none⟩) 1 1) (w.alloc (.cells #[.int .i64 0, .int .i64 0, .int .i64 0, .slice none 0 0] 46)) := by kernel_rfl
theorem mk32e (w : World) (es : Array Event) : (Instr.makeSlice 32 (.int .i64 1) (.int .i64 1)).events Tryz.prog w es = es := by kernel_rfl
theorem mc99 (w : World) : (Instr.makeChan 99 (.int .i64 0)).run Tryz.prog w = .ok (.chan (some w.heap.size)) (w.alloc (.chan 0 #[] false 0 0 false)) := by kernel_rfl
theorem mc99e (w : World) (es : Array Event) : (Instr.makeChan 99 (.int .i64 0)).events Tryz.prog w es = es := by kernel_rfl
theorem mc113 (w : World) : (Instr.makeChan 113 (.int .i64 0)).run Tryz.prog w = .ok (.chan (some w.heap.size)) (w.alloc (.chan 0 #[] false 0 0 false)) := by kernel_rfl
theorem mc113e (w : World) (es : Array Event) : (Instr.makeChan 113 (.int .i64 0)).events Tryz.prog w es = es := by kernel_rfl

/-- The backend's two blocks. -/
structure BackAt (w : World) (B HD C J : Nat) : Prop where
  b1 : w.cell? ⟨B, 1, none⟩ = some (.int .i64 (-1))
  b2 : w.cell? ⟨B, 2, none⟩ = some (.pointer (some ⟨J, 0, none⟩))
  b3 : w.cell? ⟨B, 3, none⟩ = some (.slice (some ⟨C, 0, none⟩) 1 1)
  b4 : w.cell? ⟨B, 4, none⟩ = some (.slice (some ⟨HD, 0, none⟩) 1 1)
  h0 : w.cell? ⟨HD, 0, none⟩ = some (.int .i64 0)
  zh : w.frozen? ⟨HD, 0, none⟩ = false
theorem BackAt.kp {w w' : World} {B HD C J : Nat} (h : BackAt w B HD C J) (k : Kp [] w w') : BackAt w' B HD C J :=
  ⟨k.cell _ _ (by simp) h.b1, k.cell _ _ (by simp) h.b2, k.cell _ _ (by simp) h.b3, k.cell _ _ (by simp) h.b4, k.cell _ _ (by simp) h.h0, (k.froz _ _ (by simp) h.h0).trans h.zh⟩

set_option maxRecDepth 100000 in
set_option maxHeartbeats 4000000 in
theorem newBackend_x (C J : Nat) (w0 : World) :
    CallsX Tryz.prog main (DX Ok) 47 #[.slice (some ⟨C, 0, none⟩) 1 1, .pointer (some ⟨J, 0, none⟩)] w0 fun v w' => ∃ B HD, v = .iface 138 (.pointer (some ⟨B, 0, none⟩)) ∧ Kp [] w0 w' ∧ w0.heap.size ≤ HD ∧ HD < B ∧ B < w'.heap.size ∧ BackAt w' B HD C J := by
  intro Ψ F c cs hc
  rw [enter_at _ Tryz.func47 rfl]
  simp only [Tryz.ntmps47, List.size_toArray, List.length_cons, List.length_nil, Nat.reduceAdd, Nat.reduceSub, Array.replicate_succ, Array.replicate_zero, List.push_toArray, List.append_toArray, List.nil_append, List.cons_append]
  refine F.sr ?_
  simp only [rg, Nat.reduceAdd]
  refine F.oq rfl rfl rfl (fun _ => by simp [go_sem]) fun d K hK => ?_; go_simp; refine hK _ ?_; clear hK K d; try walk_nrm
  refine F.esr ?_
  simp only [rg, Nat.reduceAdd]
  iterate 5 (refine F.oq rfl rfl rfl (fun _ => by simp [go_sem]) fun d K hK => ?_; go_simp; refine hK _ ?_; clear hK K d; try walk_nrm)
  refine F.op rfl rfl (by decide) (fun d K hK => ?_)
  go_simp
  rw [mk58]
  go_simp
  rw [alloc_at']
  refine hK _ _ ⟨DX.alloc _ _ (fun e he => ?_), ?_⟩
  · have hm := mem_listed he
    simp [go_sem, mk58, mk58e] at hm
  clear hK K d
  try walk_nrm
  generalize ew1 : World.alloc w0 _ = w1
  generalize hn1 : (World.heap w0).size = n1
  have sz1 : n1 < w1.heap.size ∧ w1.heap.size ≤ n1 + 1 := by have := sz_al ew1 hn1; omega
  have hh0 := cl_new (i := 0) ew1 hn1 rfl
  try simp only [List.getElem_toArray, List.getElem_cons_zero, List.getElem_cons_succ] at hh0
  have zh0 := fz_new ew1 hn1 0
  have kp : Kp [] w0 w0 [] := Kp.refl _
  replace kp := kp.alN ew1
  refine F.oq rfl rfl rfl (fun _ => by simp [go_sem]) fun d K hK => ?_; go_simp; refine hK _ ?_; clear hK K d; try walk_nrm
  refine F.op rfl rfl (by decide) (fun d K hK => ?_)
  go_simp
  rw [alloc_at']
  refine hK _ _ ⟨DX.alloc _ _ (fun e he => ?_), ?_⟩
  · have hm := mem_listed he
    simp [go_sem] at hm
  clear hK K d
  try walk_nrm
  generalize ew2 : World.alloc w1 _ = w2
  generalize hn2 : (World.heap w1).size = n2
  have sz2 : n2 < w2.heap.size ∧ w2.heap.size ≤ n2 + 1 := by have := sz_al ew2 hn2; omega
  replace zh0 := fz_al zh0 hh0 ew2
  replace hh0 := cl_al hh0 ew2
  have hb0 := cl_new (i := 0) ew2 hn2 rfl
  try simp only [List.getElem_toArray, List.getElem_cons_zero, List.getElem_cons_succ] at hb0
  have zb0 := fz_new ew2 hn2 0
  have hb1 := cl_new (i := 1) ew2 hn2 rfl
  try simp only [List.getElem_toArray, List.getElem_cons_zero, List.getElem_cons_succ] at hb1
  have zb1 := fz_new ew2 hn2 1
  have hb2 := cl_new (i := 2) ew2 hn2 rfl
  try simp only [List.getElem_toArray, List.getElem_cons_zero, List.getElem_cons_succ] at hb2
  have zb2 := fz_new ew2 hn2 2
  have hb3 := cl_new (i := 3) ew2 hn2 rfl
  try simp only [List.getElem_toArray, List.getElem_cons_zero, List.getElem_cons_succ] at hb3
  have zb3 := fz_new ew2 hn2 3
  have hb4 := cl_new (i := 4) ew2 hn2 rfl
  try simp only [List.getElem_toArray, List.getElem_cons_zero, List.getElem_cons_succ] at hb4
  have zb4 := fz_new ew2 hn2 4
  replace kp := kp.alN ew2
  iterate 2 (refine F.oq rfl rfl rfl (fun _ => by first | (simp [go_sem]; done) | simp [go_sem, Instr.makeInterface, Instr.makeFunc, *]) fun d K hK => ?_; go_simp; refine hK _ ?_; clear hK K d; try walk_nrm)
  refine F.re ?_
  refine F.ctl (fun _ => stepG_ret') ?_
  refine F.leave rfl rfl Tryz.func47 (resultsC_tmp (by rfl) _) ?_
  exact hc _ _ ⟨n2, n1, rfl, kp, by omega, by omega, lt_of_cell hb0, hb1, hb2, hb3, hb4, hh0, zh0⟩

set_option maxRecDepth 100000 in
set_option maxHeartbeats 4000000 in
theorem newRetry_x (N J : Nat) (a b c d : Int) (x0 : Nat) (num : Int) (w0 : World) (hN : N ≤ w0.heap.size) (hfr : ∀ a wr, N ≤ a.block → Ok a wr) :
    CallsX Tryz.prog main (DX Ok) 48 #[.agg #[.int .i64 1, .int .i64 a, .int .i64 b, .int .i64 c, .int .i64 d, .int .i64 0], .agg #[.iface 138 (.pointer (some ⟨x0, 0, none⟩)), .int .i64 num, .pointer (some ⟨J, 0, none⟩)]] w0 fun v w' => ∃ R, v = .iface 141 (.pointer (some ⟨R, 0, none⟩)) ∧ Kp [] w0 w' ∧ w0.heap.size ≤ R ∧ R < w'.heap.size ∧
      w'.cell? ⟨R, 0, none⟩ = some (.iface 138 (.pointer (some ⟨x0, 0, none⟩))) ∧ w'.cell? ⟨R, 1, none⟩ = some (.int .i64 num) ∧ w'.cell? ⟨R, 2, none⟩ = some (.pointer (some ⟨J, 0, none⟩)) ∧ w'.cell? ⟨R, 3, none⟩ = some (.int .i64 a) ∧ w'.cell? ⟨R, 4, none⟩ = some (.int .i64 b) ∧ w'.cell? ⟨R, 5, none⟩ = some (.int .i64 c) ∧ w'.cell? ⟨R, 6, none⟩ = some (.int .i64 d) := by
  intro Ψ F c0 cs hc
  rw [enter_at _ Tryz.func48 rfl]
  simp only [Tryz.ntmps48, List.size_toArray, List.length_cons, List.length_nil, Nat.reduceAdd, Nat.reduceSub, Array.replicate_succ, Array.replicate_zero, List.push_toArray, List.append_toArray, List.nil_append, List.cons_append]
  refine F.sr ?_
  simp only [rg, Nat.reduceAdd]
  refine F.op rfl rfl (by decide) (fun d K hK => ?_)
  go_simp
  rw [alloc_at']
  refine hK _ _ ⟨DX.alloc _ _ (fun e he => ?_), ?_⟩
  · have hm := mem_listed he
    simp [go_sem] at hm
  clear hK K d
  try walk_nrm
  generalize ew1 : World.alloc w0 _ = w1
  generalize hn1 : (World.heap w0).size = n1
  have sz1 : n1 < w1.heap.size ∧ w1.heap.size ≤ n1 + 1 := by have := sz_al ew1 hn1; omega
  have hk0 := cl_new (i := 0) ew1 hn1 rfl
  try simp only [List.getElem_toArray, List.getElem_cons_zero, List.getElem_cons_succ] at hk0
  have zk0 := fz_new ew1 hn1 0
  have hk1 := cl_new (i := 1) ew1 hn1 rfl
  try simp only [List.getElem_toArray, List.getElem_cons_zero, List.getElem_cons_succ] at hk1
  have zk1 := fz_new ew1 hn1 1
  have hk2 := cl_new (i := 2) ew1 hn1 rfl
  try simp only [List.getElem_toArray, List.getElem_cons_zero, List.getElem_cons_succ] at hk2
  have zk2 := fz_new ew1 hn1 2
  have hk3 := cl_new (i := 3) ew1 hn1 rfl
  try simp only [List.getElem_toArray, List.getElem_cons_zero, List.getElem_cons_succ] at hk3
  have zk3 := fz_new ew1 hn1 3
  have hk4 := cl_new (i := 4) ew1 hn1 rfl
  try simp only [List.getElem_toArray, List.getElem_cons_zero, List.getElem_cons_succ] at hk4
  have zk4 := fz_new ew1 hn1 4
  have hk5 := cl_new (i := 5) ew1 hn1 rfl
  try simp only [List.getElem_toArray, List.getElem_cons_zero, List.getElem_cons_succ] at hk5
  have zk5 := fz_new ew1 hn1 5
  have kp : Kp [] w0 w0 [] := Kp.refl _
  replace kp := kp.alN ew1
  refine F.op rfl rfl (by decide) (fun d K hK => ?_)
  go_simp
  rw [alloc_at']
  refine hK _ _ ⟨DX.alloc _ _ (fun e he => ?_), ?_⟩
  · have hm := mem_listed he
    simp [go_sem] at hm
  clear hK K d
  try walk_nrm
  generalize ew2 : World.alloc w1 _ = w2
  generalize hn2 : (World.heap w1).size = n2
  have sz2 : n2 < w2.heap.size ∧ w2.heap.size ≤ n2 + 1 := by have := sz_al ew2 hn2; omega
  replace zk0 := fz_al zk0 hk0 ew2
  replace zk1 := fz_al zk1 hk1 ew2
  replace zk2 := fz_al zk2 hk2 ew2
  replace zk3 := fz_al zk3 hk3 ew2
  replace zk4 := fz_al zk4 hk4 ew2
  replace zk5 := fz_al zk5 hk5 ew2
  replace hk0 := cl_al hk0 ew2
  replace hk1 := cl_al hk1 ew2
  replace hk2 := cl_al hk2 ew2
  replace hk3 := cl_al hk3 ew2
  replace hk4 := cl_al hk4 ew2
  replace hk5 := cl_al hk5 ew2
  have hm0 := cl_new (i := 0) ew2 hn2 rfl
  try simp only [List.getElem_toArray, List.getElem_cons_zero, List.getElem_cons_succ] at hm0
  have zm0 := fz_new ew2 hn2 0
  have hm1 := cl_new (i := 1) ew2 hn2 rfl
  try simp only [List.getElem_toArray, List.getElem_cons_zero, List.getElem_cons_succ] at hm1
  have zm1 := fz_new ew2 hn2 1
  have hm2 := cl_new (i := 2) ew2 hn2 rfl
  try simp only [List.getElem_toArray, List.getElem_cons_zero, List.getElem_cons_succ] at hm2
  have zm2 := fz_new ew2 hn2 2
  replace kp := kp.alN ew2
  have q1 : w0.heap.size ≤ n1 ∧ n1 < n2 ∧ n2 < w2.heap.size := ⟨by omega, by omega, by omega⟩
  clear hn1 hn2 sz1 sz2 ew1 ew2
  refine F.oq rfl rfl rfl (fun _ => by simp [go_sem]) fun d K hK => ?_; go_simp; refine hK _ ?_; clear hK K d; try walk_nrm
  refine F.es ?_
  refine F.sr ?_
  simp only [rg, Nat.reduceAdd]
  refine F.oq rfl rfl rfl (fun _ => by simp [go_sem]) fun d K hK => ?_; go_simp; refine hK _ ?_; clear hK K d; try walk_nrm
  refine F.op rfl rfl (by decide) (fun d K hK => ?_)
  go_simp
  refine hK _ _ ⟨DX.still _ (fun e he => ?_), ?_⟩
  · have hm := mem_listed he
    simp [go_sem, *] at hm
    subst hm
    exact .inl ⟨_, rfl, rfl, by (first | assumption | exact hrb _ rfl | (apply hfr <;> dsimp only <;> omega) | (apply hok; simp; done)), lt_of_cell (w := w2) (by assumption)⟩
  clear hK K d
  try walk_nrm
  refine F.re ?_
  refine F.bl ?_
  refine F.sr ?_
  simp only [rg, Nat.reduceAdd]
  iterate 2 (refine F.oq rfl rfl rfl (fun _ => by simp [go_sem]) fun d K hK => ?_; go_simp; refine hK _ ?_; clear hK K d; try walk_nrm)
  refine F.re ?_
  refine F.ct rfl ?_
  refine F.sr ?_
  simp only [rg, Nat.reduceAdd]
  refine F.op rfl rfl (by decide) (fun d K hK => ?_)
  go_simp
  refine hK _ _ ⟨DX.still _ (fun e he => ?_), ?_⟩
  · have hm := mem_listed he
    simp [go_sem, *] at hm
    rcases hm with rfl | rfl | rfl <;> exact .inl ⟨_, rfl, rfl, by (first | assumption | exact hrb _ rfl | (apply hfr <;> dsimp only <;> omega) | (apply hok; simp; done)), lt_of_cell (w := w2) (by assumption)⟩
  clear hK K d
  try walk_nrm
  refine F.oq rfl rfl rfl (fun _ => by simp [go_sem]) fun d K hK => ?_; go_simp; refine hK _ ?_; clear hK K d; try walk_nrm
  refine F.op rfl rfl (by decide) (fun d K hK => ?_)
  go_simp
  refine hK _ _ ⟨DX.still _ (fun e he => ?_), ?_⟩
  · have hm := mem_listed he
    simp [go_sem, *] at hm
    subst hm
    exact .inl ⟨_, rfl, rfl, by (first | assumption | exact hrb _ rfl | (apply hfr <;> dsimp only <;> omega) | (apply hok; simp; done)), lt_of_cell (w := w2) (by assumption)⟩
  clear hK K d
  try walk_nrm
  refine F.oq rfl rfl rfl (fun _ => by simp [go_sem]) fun d K hK => ?_; go_simp; refine hK _ ?_; clear hK K d; try walk_nrm
  refine F.op rfl rfl (by decide) (fun d K hK => ?_)
  go_simp
  refine hK _ _ ⟨DX.still _ (fun e he => ?_), ?_⟩
  · have hm := mem_listed he
    simp [go_sem, *] at hm
    subst hm
    exact .inl ⟨_, rfl, rfl, by (first | assumption | exact hrb _ rfl | (apply hfr <;> dsimp only <;> omega) | (apply hok; simp; done)), lt_of_cell (w := w2) (by assumption)⟩
  clear hK K d
  try walk_nrm
  refine F.oq rfl rfl rfl (fun _ => by simp [go_sem]) fun d K hK => ?_; go_simp; refine hK _ ?_; clear hK K d; try walk_nrm
  refine F.op rfl rfl (by decide) (fun d K hK => ?_)
  go_simp
  refine hK _ _ ⟨DX.still _ (fun e he => ?_), ?_⟩
  · have hm := mem_listed he
    simp [go_sem, *] at hm
    subst hm
    exact .inl ⟨_, rfl, rfl, by (first | assumption | exact hrb _ rfl | (apply hfr <;> dsimp only <;> omega) | (apply hok; simp; done)), lt_of_cell (w := w2) (by assumption)⟩
  clear hK K d
  try walk_nrm
  refine F.oq rfl rfl rfl (fun _ => by simp [go_sem]) fun d K hK => ?_; go_simp; refine hK _ ?_; clear hK K d; try walk_nrm
  refine F.op rfl rfl (by decide) (fun d K hK => ?_)
  go_simp
  refine hK _ _ ⟨DX.still _ (fun e he => ?_), ?_⟩
  · have hm := mem_listed he
    simp [go_sem, *] at hm
    subst hm
    exact .inl ⟨_, rfl, rfl, by (first | assumption | exact hrb _ rfl | (apply hfr <;> dsimp only <;> omega) | (apply hok; simp; done)), lt_of_cell (w := w2) (by assumption)⟩
  clear hK K d
  try walk_nrm
  refine F.oq rfl rfl rfl (fun _ => by simp [go_sem]) fun d K hK => ?_; go_simp; refine hK _ ?_; clear hK K d; try walk_nrm
  clear zk0 zk1 zk2 zk3 zk4 zk5 zm0 zm1 zm2 hk0 hk1 hk2 hk3 hk4 hk5 hm0 hm1 hm2
  refine F.op rfl rfl (by decide) (fun d K hK => ?_)
  go_simp
  rw [alloc_at']
  refine hK _ _ ⟨DX.alloc _ _ (fun e he => ?_), ?_⟩
  · have hm := mem_listed he
    simp [go_sem] at hm
  clear hK K d
  try walk_nrm
  generalize ew3 : World.alloc w2 _ = w3
  generalize hn3 : (World.heap w2).size = n3
  have sz3 : n3 < w3.heap.size ∧ w3.heap.size ≤ n3 + 1 := by have := sz_al ew3 hn3; omega
  have hr0 := cl_new (i := 0) ew3 hn3 rfl
  try simp only [List.getElem_toArray, List.getElem_cons_zero, List.getElem_cons_succ] at hr0
  have zr0 := fz_new ew3 hn3 0
  have hr1 := cl_new (i := 1) ew3 hn3 rfl
  try simp only [List.getElem_toArray, List.getElem_cons_zero, List.getElem_cons_succ] at hr1
  have zr1 := fz_new ew3 hn3 1
  have hr2 := cl_new (i := 2) ew3 hn3 rfl
  try simp only [List.getElem_toArray, List.getElem_cons_zero, List.getElem_cons_succ] at hr2
  have zr2 := fz_new ew3 hn3 2
  have hr3 := cl_new (i := 3) ew3 hn3 rfl
  try simp only [List.getElem_toArray, List.getElem_cons_zero, List.getElem_cons_succ] at hr3
  have zr3 := fz_new ew3 hn3 3
  have hr4 := cl_new (i := 4) ew3 hn3 rfl
  try simp only [List.getElem_toArray, List.getElem_cons_zero, List.getElem_cons_succ] at hr4
  have zr4 := fz_new ew3 hn3 4
  have hr5 := cl_new (i := 5) ew3 hn3 rfl
  try simp only [List.getElem_toArray, List.getElem_cons_zero, List.getElem_cons_succ] at hr5
  have zr5 := fz_new ew3 hn3 5
  have hr6 := cl_new (i := 6) ew3 hn3 rfl
  try simp only [List.getElem_toArray, List.getElem_cons_zero, List.getElem_cons_succ] at hr6
  have zr6 := fz_new ew3 hn3 6
  replace kp := kp.alN ew3
  iterate 2 (refine F.oq rfl rfl rfl (fun _ => by first | (simp [go_sem]; done) | simp [go_sem, Instr.makeInterface, Instr.makeFunc, *]) fun d K hK => ?_; go_simp; refine hK _ ?_; clear hK K d; try walk_nrm)
  refine F.re ?_
  refine F.ctl (fun _ => stepG_ret') ?_
  refine F.leave rfl rfl Tryz.func48 (resultsC_tmp (by rfl) _) ?_
  exact hc _ _ ⟨n3, rfl, kp, by omega, lt_of_cell hr0, hr0, hr1, hr2, hr3, hr4, hr5, hr6⟩

set_option maxRecDepth 100000 in
set_option maxHeartbeats 4000000 in
theorem stack0_x (C J : Nat) (w0 : World) :
    CallsX Tryz.prog main (DX Ok) 34 #[.slice none 0 0, .slice (some ⟨C, 0, none⟩) 1 1, .pointer (some ⟨J, 0, none⟩)] w0 fun v w' => ∃ B HD, v = .iface 138 (.pointer (some ⟨B, 0, none⟩)) ∧ Kp [] w0 w' ∧ w0.heap.size ≤ HD ∧ HD < B ∧ B < w'.heap.size ∧ BackAt w' B HD C J := by
  intro Ψ F c cs hc
  have hw0 : IntKind.i64.wrap 0 = 0 := by decide
  have hw1 : IntKind.i64.wrap (-1) = -1 := by decide
  rw [enter_at _ Tryz.func34 rfl]
  simp only [Tryz.ntmps34, List.size_toArray, List.length_cons, List.length_nil, Nat.reduceAdd, Nat.reduceSub, Array.replicate_succ, Array.replicate_zero, List.push_toArray, List.append_toArray, List.nil_append, List.cons_append]
  refine F.sr ?_
  simp only [rg, Nat.reduceAdd]
  refine F.oq rfl rfl rfl (fun _ => by simp [go_sem]) fun d K hK => ?_; go_simp; refine hK _ ?_; clear hK K d; try walk_nrm
  refine F.esr ?_
  simp only [rg, Nat.reduceAdd]
  iterate 2 (refine F.oq rfl rfl rfl (fun _ => by simp [go_sem]) fun d K hK => ?_; go_simp; refine hK _ ?_; clear hK K d; try walk_nrm)
  refine F.enter rfl rfl (by decide) (fun _ => run_call_body rfl Tryz.func47 (by rfl) (by rfl)) (fun _ => events_call_body rfl Tryz.func47 (by rfl) (by rfl) _) ?_
  walk_nrm
  refine newBackend_x C J w0 _ F _ _ (fun v w1 hp => ?_)
  obtain ⟨B, HD, rfl, k1, h1, h2, h3, h4⟩ := hp
  rw [Frame.finish_at]
  try walk_nrm
  refine F.oq rfl rfl rfl (fun _ => by simp [go_sem]) fun d K hK => ?_; go_simp; refine hK _ ?_; clear hK K d; try walk_nrm
  refine F.es ?_
  refine F.sr ?_
  simp only [rg, Nat.reduceAdd]
  iterate 4 (refine F.oq rfl rfl rfl (fun _ => by simp [go_sem]) fun d K hK => ?_; go_simp; refine hK _ ?_; clear hK K d; try walk_nrm)
  refine F.re ?_
  refine F.bl ?_
  refine F.ctl (fun _ => stepG_loop) ?_
  refine F.sq ?_
  refine F.sr ?_
  simp only [rg, Nat.reduceAdd]
  iterate 2 (refine F.oq rfl rfl rfl (fun _ => by simp [go_sem]) fun d K hK => ?_; go_simp; refine hK _ ?_; clear hK K d; try walk_nrm)
  refine F.re ?_
  refine F.cf rfl ?_
  refine F.ctl (fun _ => stepG_exit rfl) ?_
  refine F.sr ?_
  simp only [rg, Nat.reduceAdd]
  iterate 2 (refine F.oq rfl rfl rfl (fun _ => by simp [go_sem]) fun d K hK => ?_; go_simp; refine hK _ ?_; clear hK K d; try walk_nrm)
  refine F.re ?_
  refine F.ctl (fun _ => stepG_ret') ?_
  refine F.leave rfl rfl Tryz.func34 (resultsC_tmp (by rfl) _) ?_
  exact hc _ _ ⟨B, HD, rfl, k1, h1, h2, h3, h4⟩

set_option maxRecDepth 100000 in
set_option maxHeartbeats 4000000 in
theorem stack1_x (N l C J : Nat) (w0 : World) (hN : N ≤ w0.heap.size) (hfr : ∀ a wr, N ≤ a.block → Ok a wr) (hl : N ≤ l) (l0 : w0.cell? ⟨l, 0, none⟩ = some (.int .i64 1)) (l1 : w0.cell? ⟨l, 1, none⟩ = some (.int .i64 3)) (l2 : w0.cell? ⟨l, 2, none⟩ = some (.int .i64 10)) (l3 : w0.cell? ⟨l, 3, none⟩ = some (.int .i64 2)) (l4 : w0.cell? ⟨l, 4, none⟩ = some (.int .i64 15)) (l5 : w0.cell? ⟨l, 5, none⟩ = some (.int .i64 0)) :
    CallsX Tryz.prog main (DX Ok) 34 #[.slice (some ⟨l, 0, none⟩) 1 1, .slice (some ⟨C, 0, none⟩) 1 1, .pointer (some ⟨J, 0, none⟩)] w0 fun v w' => ∃ B HD R, v = .iface 141 (.pointer (some ⟨R, 0, none⟩)) ∧ Kp [] w0 w' ∧ w0.heap.size ≤ HD ∧ HD < B ∧ B < R ∧ R < w'.heap.size ∧ BackAt w' B HD C J ∧
      w'.cell? ⟨R, 0, none⟩ = some (.iface 138 (.pointer (some ⟨B, 0, none⟩))) ∧ w'.cell? ⟨R, 1, none⟩ = some (.int .i64 0) ∧ w'.cell? ⟨R, 2, none⟩ = some (.pointer (some ⟨J, 0, none⟩)) ∧ w'.cell? ⟨R, 3, none⟩ = some (.int .i64 3) ∧ w'.cell? ⟨R, 4, none⟩ = some (.int .i64 10) ∧ w'.cell? ⟨R, 5, none⟩ = some (.int .i64 2) ∧ w'.cell? ⟨R, 6, none⟩ = some (.int .i64 15) := by
  intro Ψ F c cs hc
  have hw0 : IntKind.i64.wrap 0 = 0 := by decide
  have hw1 : IntKind.i64.wrap (-1) = -1 := by decide
  rw [enter_at _ Tryz.func34 rfl]
  simp only [Tryz.ntmps34, List.size_toArray, List.length_cons, List.length_nil, Nat.reduceAdd, Nat.reduceSub, Array.replicate_succ, Array.replicate_zero, List.push_toArray, List.append_toArray, List.nil_append, List.cons_append]
  refine F.sr ?_
  simp only [rg, Nat.reduceAdd]
  refine F.oq rfl rfl rfl (fun _ => by simp [go_sem]) fun d K hK => ?_; go_simp; refine hK _ ?_; clear hK K d; try walk_nrm
  refine F.esr ?_
  simp only [rg, Nat.reduceAdd]
  iterate 2 (refine F.oq rfl rfl rfl (fun _ => by simp [go_sem]) fun d K hK => ?_; go_simp; refine hK _ ?_; clear hK K d; try walk_nrm)
  refine F.enter rfl rfl (by decide) (fun _ => run_call_body rfl Tryz.func47 (by rfl) (by rfl)) (fun _ => events_call_body rfl Tryz.func47 (by rfl) (by rfl) _) ?_
  walk_nrm
  refine newBackend_x C J w0 _ F _ _ (fun v w1 hp => ?_)
  obtain ⟨B, HD, rfl, k1, h1, h2, h3, h4⟩ := hp
  replace l0 := k1.cell _ _ (by simp) l0
  replace l1 := k1.cell _ _ (by simp) l1
  replace l2 := k1.cell _ _ (by simp) l2
  replace l3 := k1.cell _ _ (by simp) l3
  replace l4 := k1.cell _ _ (by simp) l4
  replace l5 := k1.cell _ _ (by simp) l5
  have hs1 := k1.size
  rw [Frame.finish_at]
  try walk_nrm
  refine F.oq rfl rfl rfl (fun _ => by simp [go_sem]) fun d K hK => ?_; go_simp; refine hK _ ?_; clear hK K d; try walk_nrm
  refine F.es ?_
  refine F.sr ?_
  simp only [rg, Nat.reduceAdd]
  iterate 4 (refine F.oq rfl rfl rfl (fun _ => by simp [go_sem]) fun d K hK => ?_; go_simp; refine hK _ ?_; clear hK K d; try walk_nrm)
  refine F.re ?_
  refine F.bl ?_
  refine F.ctl (fun _ => stepG_loop) ?_
  refine F.sq ?_
  refine F.sr ?_
  simp only [rg, Nat.reduceAdd]
  iterate 2 (refine F.oq rfl rfl rfl (fun _ => by simp [go_sem]) fun d K hK => ?_; go_simp; refine hK _ ?_; clear hK K d; try walk_nrm)
  refine F.re ?_
  refine F.ct rfl ?_
  refine F.sk ?_
  refine F.sq ?_
  refine F.bl ?_
  refine F.rr ?_
  simp only [rg, Nat.reduceAdd]
  iterate 3 (refine F.oq rfl rfl rfl (fun _ => by simp [go_sem]) fun d K hK => ?_; go_simp; refine hK _ ?_; clear hK K d; try walk_nrm)
  refine F.op rfl rfl (by decide) (fun d K hK => ?_)
  go_simp
  refine hK _ _ ⟨DX.still _ (fun e he => ?_), ?_⟩
  · have hm := mem_listed he
    simp [go_sem, *] at hm
    rcases hm with rfl | rfl | rfl | rfl | rfl | rfl <;> exact .inl ⟨_, rfl, rfl, by (first | assumption | exact hrb _ rfl | (apply hfr <;> dsimp only <;> omega) | (apply hok; simp; done)), lt_of_cell (w := w1) (by assumption)⟩
  clear hK K d
  try walk_nrm
  iterate 4 (refine F.oq rfl rfl rfl (fun _ => by simp [go_sem]) fun d K hK => ?_; go_simp; refine hK _ ?_; clear hK K d; try walk_nrm)
  refine F.enter rfl rfl (by decide) (fun _ => run_call_body rfl Tryz.func48 (by rfl) (by rfl)) (fun _ => events_call_body rfl Tryz.func48 (by rfl) (by rfl) _) ?_
  walk_nrm
  refine newRetry_x N J 3 10 2 15 B 0 w1 (by omega) hfr _ F _ _ (fun v w2 hp => ?_)
  obtain ⟨R, rfl, k2, f1, f2, r0, r1, r2, r3, r4, r5, r6⟩ := hp
  rw [Frame.finish_at]
  try walk_nrm
  refine F.oq rfl rfl rfl (fun _ => by simp [go_sem]) fun d K hK => ?_; go_simp; refine hK _ ?_; clear hK K d; try walk_nrm
  refine F.re ?_
  refine F.ib ?_
  refine F.rr ?_
  simp only [rg, Nat.reduceAdd]
  iterate 3 (refine F.oq rfl rfl rfl (fun _ => by simp [go_sem]) fun d K hK => ?_; go_simp; refine hK _ ?_; clear hK K d; try walk_nrm)
  refine F.re ?_
  refine F.ctl (fun _ => stepG_inLoop) ?_
  refine F.sq ?_
  refine F.sr ?_
  simp only [rg, Nat.reduceAdd]
  iterate 2 (refine F.oq rfl rfl rfl (fun _ => by simp [go_sem]) fun d K hK => ?_; go_simp; refine hK _ ?_; clear hK K d; try walk_nrm)
  refine F.re ?_
  refine F.cf rfl ?_
  refine F.ctl (fun _ => stepG_exit rfl) ?_
  refine F.sr ?_
  simp only [rg, Nat.reduceAdd]
  iterate 2 (refine F.oq rfl rfl rfl (fun _ => by simp [go_sem]) fun d K hK => ?_; go_simp; refine hK _ ?_; clear hK K d; try walk_nrm)
  refine F.re ?_
  refine F.ctl (fun _ => stepG_ret') ?_
  refine F.leave rfl rfl Tryz.func34 (resultsC_tmp (by rfl) _) ?_
  exact hc _ _ ⟨B, HD, R, rfl, k1.callN k2 (by simp) (by simp), h1, h2, by omega, f2, h4.kp k2, r0, r1, r2, r3, r4, r5, r6⟩

end Go.Proofs.YtobagnjnbmgidaaGreatDoor
