/- The law's helpers: a client's first turn; a run that is refused; the report. -/
import Derived.Test.YtobagnjnbmgidaaGreatDoorW6
set_option linter.unusedSimpArgs false
set_option linter.unusedVariables false
set_option maxHeartbeats 8000000
set_option maxRecDepth 100000
namespace Go.Proofs.YtobagnjnbmgidaaGreatDoor
open Go.Conc Go.RowKit Go.Extern
open Go.ConcN (sumTo upd sumTo_upd upd_ne upd_same)

section
variable {Ok : Addr → Bool → Prop} {main : Bool}

theorem turnG_x (N st : Int) (tb o n cap k : Nat) (t0 t1 t2 : Int) (w0 : World) (hk : ¬ (n : Int) ≤ (k : Int)) (hk0 : ¬ (k : Int) < 0) (hkn : (k : Int) < (n : Int)) (hkz : (0 : Int) ≤ (k : Int)) (ht0 : w0.cell? ⟨tb, o + k * 3, none⟩ = some (.int .i64 t0)) (ht1 : w0.cell? ⟨tb, o + k * 3 + 1, none⟩ = some (.int .i64 t1)) (ht2 : w0.cell? ⟨tb, o + k * 3 + 2, none⟩ = some (.int .i64 t2)) (hrb : ∀ a : Addr, a.block = tb → Ok a false) (hfr : ∀ a wr, w0.heap.size ≤ a.block → Ok a wr) :
    CallsX Tryz.prog main (DX Ok) 20 #[.agg #[.int .i64 st, .slice (some ⟨tb, o, none⟩) n cap], .int .i64 k] w0 fun v w' => v = .agg #[.int .i64 t0, .int .i64 t1, .int .i64 t2] ∧ Kp [] w0 w' := by
  intro Ψ F c cs hc; have a1 := addN tb o (k * 3); have lt : tb < w0.heap.size := lt_of_cell ht0; rw [enter_at _ Tryz.func20 rfl]; simp only [Tryz.ntmps20, List.size_toArray, List.length_cons, List.length_nil, Nat.reduceAdd, Nat.reduceSub, Array.replicate_succ, Array.replicate_zero, List.push_toArray, List.append_toArray, List.nil_append, List.cons_append]; refine F.sr ?_; simp only [rg, Nat.reduceAdd]; refine F.op rfl rfl (by decide) (fun d K hK => ?_); go_simp; rw [alloc_at']; refine hK _ _ ⟨DX.alloc _ _ (fun e he => ?_), ?_⟩
  · have hm := mem_listed he
    simp [go_sem] at hm
  clear hK K d; try walk_nrm
  generalize ew1 : World.alloc w0 _ = w1; generalize hn1 : (World.heap w0).size = n1; have sz1 := sz_al2 ew1 hn1; replace ht0 := cl_al ht0 ew1; replace ht1 := cl_al ht1 ew1; replace ht2 := cl_al ht2 ew1; have hc0 := cl_new (i := 0) ew1 hn1 rfl; have zc0 := fz_new ew1 hn1 0; have hc1 := cl_new (i := 1) ew1 hn1 rfl; have zc1 := fz_new ew1 hn1 1; try simp only [List.getElem_toArray, List.getElem_cons_zero, List.getElem_cons_succ] at hc0 hc1
  have kp : Kp [] w0 w0 [] := Kp.refl _; replace kp := kp.alN ew1; refine F.op rfl rfl (by decide) (fun d K hK => ?_); go_simp; rw [alloc_at']; refine hK _ _ ⟨DX.alloc _ _ (fun e he => ?_), ?_⟩
  · have hm := mem_listed he
    simp [go_sem] at hm
  clear hK K d; try walk_nrm
  generalize ew2 : World.alloc w1 _ = w2; generalize hn2 : (World.heap w1).size = n2; have sz2 := sz_al2 ew2 hn2; replace zc0 := fz_al zc0 hc0 ew2; replace zc1 := fz_al zc1 hc1 ew2; replace ht0 := cl_al ht0 ew2; replace ht1 := cl_al ht1 ew2; replace ht2 := cl_al ht2 ew2; replace hc0 := cl_al hc0 ew2; replace hc1 := cl_al hc1 ew2; have hr0 := cl_new (i := 0) ew2 hn2 rfl; have zr0 := fz_new ew2 hn2 0; have hr1 := cl_new (i := 1) ew2 hn2 rfl; have zr1 := fz_new ew2 hn2 1; have hr2 := cl_new (i := 2) ew2 hn2 rfl; have zr2 := fz_new ew2 hn2 2; try simp only [List.getElem_toArray, List.getElem_cons_zero, List.getElem_cons_succ] at hr0 hr1 hr2
  replace kp := kp.alN ew2; refine F.es ?_; refine F.sr ?_; simp only [rg, Nat.reduceAdd]; iterate 5 (refine F.oq rfl rfl rfl (by simp [go_sem]) fun d K h => ?_; go_simp; refine h _ ?_; clear h K d; try walk_nrm)
  refine F.ol rfl rfl rfl fun d K h => ?_; go_simp; refine h _ (fun e m => ?_) ?_; simp [go_sem, *] at m; subst m; exact evr (w := w2) (by assumption) (by first | assumption | exact hrb _ rfl | (apply hfr <;> dsimp only <;> omega)); clear h K d; try walk_nrm
  iterate 3 (refine F.oq rfl rfl rfl (by simp [go_sem]) fun d K h => ?_; go_simp; refine h _ ?_; clear h K d; try walk_nrm)
  refine F.re ?_; refine F.cf rfl ?_; refine F.sk ?_; refine F.sr ?_; simp only [rg, Nat.reduceAdd]; refine F.oq rfl rfl rfl (by simp [go_sem]) fun d K h => ?_; go_simp; refine h _ ?_; clear h K d; try walk_nrm
  refine F.ol rfl rfl rfl fun d K h => ?_; go_simp; refine h _ (fun e m => ?_) ?_; simp [go_sem, *] at m; subst m; exact evr (w := w2) (by assumption) (by first | assumption | exact hrb _ rfl | (apply hfr <;> dsimp only <;> omega)); clear h K d; try walk_nrm
  iterate 2 (refine F.oq rfl rfl rfl (fun _ => by first | (simp [go_sem]; done) | simp [go_sem, Instr.makeInterface, Instr.makeFunc, *]) fun d K hK => ?_; go_simp; refine hK _ ?_; clear hK K d; try walk_nrm)
  refine F.ol rfl rfl rfl fun d K hK => ?_
  go_simp; refine hK _ (fun e hm => ?_) ?_
  · simp [go_sem, *] at hm
    rcases hm with rfl | rfl | rfl <;> exact evr (w := w2) (by assumption) (by first | assumption | exact hrb _ rfl | (apply hfr <;> dsimp only <;> omega))
  clear hK K d; try walk_nrm
  refine F.op rfl rfl (by decide) (fun d K hK => ?_); go_simp
  repeat rw [setCell_at']
  refine hK _ _ ⟨DX.set3 _ (by (first | assumption | exact hrb _ rfl | (apply hfr <;> dsimp only <;> omega))) (by (first | assumption | exact hrb _ rfl | (apply hfr <;> dsimp only <;> omega))) (by (first | assumption | exact hrb _ rfl | (apply hfr <;> dsimp only <;> omega))) (fun e he => ?_), ?_⟩
  · have hm := mem_listed he
    simp [go_sem, storedEv, evst_slice, evst_ptr, evst_iface, evst_nil, evst_bool, *] at hm; rcases hm with rfl | rfl | rfl <;> exact .inl ⟨_, rfl, rfl, by (first | assumption | exact hrb _ rfl | (apply hfr <;> dsimp only <;> omega)), by simp only [size_at, size_set]; first | omega | exact lt_of_cell (by assumption)⟩
  clear hK K d; try walk_nrm
  generalize ew3 : World.setCell w2 _ _ = w3; have sz3 := sz_st2 ew3; replace zc0 := fz_st zc0 ew3; replace zc1 := fz_st zc1 ew3; replace zr0 := fz_st zr0 ew3; replace zr1 := fz_st zr1 ew3; replace zr2 := fz_st zr2 ew3; replace ht0 := cl_st ht0 ew3 (by simp <;> omega); replace ht1 := cl_st ht1 ew3 (by simp <;> omega); replace ht2 := cl_st ht2 ew3 (by simp <;> omega); replace hc0 := cl_st hc0 ew3 (by simp <;> omega); replace hc1 := cl_st hc1 ew3 (by simp <;> omega); replace hr0 := cl_st' hr0 ew3; replace hr1 := cl_st hr1 ew3 (by simp <;> omega); replace hr2 := cl_st hr2 ew3 (by simp <;> omega); replace kp := kp.stN ew3 (by first | (left; simp; done) | (right; left; simp; done) | (right; right; dsimp only; omega)); generalize ew4 : World.setCell w3 _ _ = w4; have sz4 := sz_st2 ew4; replace zc0 := fz_st zc0 ew4; replace zc1 := fz_st zc1 ew4; replace zr0 := fz_st zr0 ew4; replace zr1 := fz_st zr1 ew4; replace zr2 := fz_st zr2 ew4; replace ht0 := cl_st ht0 ew4 (by simp <;> omega); replace ht1 := cl_st ht1 ew4 (by simp <;> omega); replace ht2 := cl_st ht2 ew4 (by simp <;> omega); replace hc0 := cl_st hc0 ew4 (by simp <;> omega); replace hc1 := cl_st hc1 ew4 (by simp <;> omega); replace hr0 := cl_st hr0 ew4 (by simp <;> omega); replace hr1 := cl_st' hr1 ew4; replace hr2 := cl_st hr2 ew4 (by simp <;> omega)
  replace kp := kp.stN ew4 (by first | (left; simp; done) | (right; left; simp; done) | (right; right; dsimp only; omega)); generalize ew5 : World.setCell w4 _ _ = w5; have sz5 := sz_st2 ew5; replace zc0 := fz_st zc0 ew5; replace zc1 := fz_st zc1 ew5; replace zr0 := fz_st zr0 ew5; replace zr1 := fz_st zr1 ew5; replace zr2 := fz_st zr2 ew5; replace ht0 := cl_st ht0 ew5 (by simp <;> omega); replace ht1 := cl_st ht1 ew5 (by simp <;> omega); replace ht2 := cl_st ht2 ew5 (by simp <;> omega); replace hc0 := cl_st hc0 ew5 (by simp <;> omega); replace hc1 := cl_st hc1 ew5 (by simp <;> omega); replace hr0 := cl_st hr0 ew5 (by simp <;> omega); replace hr1 := cl_st hr1 ew5 (by simp <;> omega); replace hr2 := cl_st' hr2 ew5; replace kp := kp.stN ew5 (by first | (left; simp; done) | (right; left; simp; done) | (right; right; dsimp only; omega)); refine F.re ?_; refine F.ctl (fun _ => stepG_ret') ?_; refine F.leaveE (v := .agg #[.int .i64 t0, .int .i64 t1, .int .i64 t2]) rfl rfl Tryz.func20 (fun d => ?_) (fun d es hes => DX.still _ (fun e he => ?_)) ?_
  · simp [results, go_sem, *]
  · have hm := hes e he
    simp [results, go_sem, *] at hm; rcases hm with rfl | rfl | rfl <;> exact evr (w := w5) (by assumption) (by first | assumption | (refine hfr _ _ ?_; dsimp only; omega))
  exact hc _ _ ⟨rfl, kp⟩

theorem turnP_x (st : Int) (ta : Option Addr) (n cap k : Nat) (w0 : World) (hk : (n : Int) ≤ (k : Int)) (hk0 : ¬ (k : Int) < 0) (hfr : ∀ a wr, w0.heap.size ≤ a.block → Ok a wr) :
    CallsX Tryz.prog main (DX Ok) 20 #[.agg #[.int .i64 st, .slice ta n cap], .int .i64 k] w0 fun v w' => v = .agg #[.int .i64 1, .int .i64 0, .int .i64 0] ∧ Kp [] w0 w' := by
  intro Ψ F c cs hc; rw [enter_at _ Tryz.func20 rfl]; simp only [Tryz.ntmps20, List.size_toArray, List.length_cons, List.length_nil, Nat.reduceAdd, Nat.reduceSub, Array.replicate_succ, Array.replicate_zero, List.push_toArray, List.append_toArray, List.nil_append, List.cons_append]; refine F.sr ?_; simp only [rg, Nat.reduceAdd]; refine F.op rfl rfl (by decide) (fun d K hK => ?_); go_simp; rw [alloc_at']; refine hK _ _ ⟨DX.alloc _ _ (fun e he => ?_), ?_⟩
  · have hm := mem_listed he
    simp [go_sem] at hm
  clear hK K d; try walk_nrm
  generalize ew1 : World.alloc w0 _ = w1; generalize hn1 : (World.heap w0).size = n1; have sz1 := sz_al2 ew1 hn1; have hc0 := cl_new (i := 0) ew1 hn1 rfl; have zc0 := fz_new ew1 hn1 0; have hc1 := cl_new (i := 1) ew1 hn1 rfl; have zc1 := fz_new ew1 hn1 1; try simp only [List.getElem_toArray, List.getElem_cons_zero, List.getElem_cons_succ] at hc0 hc1
  have kp : Kp [] w0 w0 [] := Kp.refl _; replace kp := kp.alN ew1; refine F.op rfl rfl (by decide) (fun d K hK => ?_); go_simp; rw [alloc_at']; refine hK _ _ ⟨DX.alloc _ _ (fun e he => ?_), ?_⟩
  · have hm := mem_listed he
    simp [go_sem] at hm
  clear hK K d; try walk_nrm
  generalize ew2 : World.alloc w1 _ = w2; generalize hn2 : (World.heap w1).size = n2; have sz2 := sz_al2 ew2 hn2; replace zc0 := fz_al zc0 hc0 ew2; replace zc1 := fz_al zc1 hc1 ew2; replace hc0 := cl_al hc0 ew2; replace hc1 := cl_al hc1 ew2; have hr0 := cl_new (i := 0) ew2 hn2 rfl; have zr0 := fz_new ew2 hn2 0; have hr1 := cl_new (i := 1) ew2 hn2 rfl; have zr1 := fz_new ew2 hn2 1; have hr2 := cl_new (i := 2) ew2 hn2 rfl; have zr2 := fz_new ew2 hn2 2; try simp only [List.getElem_toArray, List.getElem_cons_zero, List.getElem_cons_succ] at hr0 hr1 hr2
  replace kp := kp.alN ew2; refine F.es ?_; refine F.sr ?_; simp only [rg, Nat.reduceAdd]; iterate 5 (refine F.oq rfl rfl rfl (by simp [go_sem]) fun d K h => ?_; go_simp; refine h _ ?_; clear h K d; try walk_nrm)
  refine F.ol rfl rfl rfl fun d K h => ?_; go_simp; refine h _ (fun e m => ?_) ?_; simp [go_sem, *] at m; subst m; exact evr (w := w2) (by assumption) (by first | assumption | exact hrb _ rfl | (apply hfr <;> dsimp only <;> omega)); clear h K d; try walk_nrm
  iterate 3 (refine F.oq rfl rfl rfl (by simp [go_sem]) fun d K h => ?_; go_simp; refine h _ ?_; clear h K d; try walk_nrm)
  refine F.re ?_; refine F.ct rfl ?_; refine F.sr ?_; simp only [rg, Nat.reduceAdd]; refine F.oq rfl rfl rfl (by simp [go_sem]) fun d K h => ?_; go_simp; refine h _ ?_; clear h K d; try walk_nrm
  refine F.op rfl rfl (by decide) (fun d K hK => ?_); go_simp
  repeat rw [setCell_at']
  refine hK _ _ ⟨DX.set3 _ (by (first | assumption | exact hrb _ rfl | (apply hfr <;> dsimp only <;> omega))) (by (first | assumption | exact hrb _ rfl | (apply hfr <;> dsimp only <;> omega))) (by (first | assumption | exact hrb _ rfl | (apply hfr <;> dsimp only <;> omega))) (fun e he => ?_), ?_⟩
  · have hm := mem_listed he
    simp [go_sem, storedEv, evst_slice, evst_ptr, evst_iface, evst_nil, evst_bool, *] at hm; rcases hm with rfl | rfl | rfl <;> exact .inl ⟨_, rfl, rfl, by (first | assumption | exact hrb _ rfl | (apply hfr <;> dsimp only <;> omega)), by simp only [size_at, size_set]; first | omega | exact lt_of_cell (by assumption)⟩
  clear hK K d; try walk_nrm
  generalize ew3 : World.setCell w2 _ _ = w3; have sz3 := sz_st2 ew3; replace zc0 := fz_st zc0 ew3; replace zc1 := fz_st zc1 ew3; replace zr0 := fz_st zr0 ew3; replace zr1 := fz_st zr1 ew3; replace zr2 := fz_st zr2 ew3; replace hc0 := cl_st hc0 ew3 (by simp <;> omega); replace hc1 := cl_st hc1 ew3 (by simp <;> omega); replace hr0 := cl_st' hr0 ew3; replace hr1 := cl_st hr1 ew3 (by simp <;> omega); replace hr2 := cl_st hr2 ew3 (by simp <;> omega); replace kp := kp.stN ew3 (by first | (left; simp; done) | (right; left; simp; done) | (right; right; dsimp only; omega)); generalize ew4 : World.setCell w3 _ _ = w4; have sz4 := sz_st2 ew4; replace zc0 := fz_st zc0 ew4; replace zc1 := fz_st zc1 ew4; replace zr0 := fz_st zr0 ew4; replace zr1 := fz_st zr1 ew4; replace zr2 := fz_st zr2 ew4; replace hc0 := cl_st hc0 ew4 (by simp <;> omega); replace hc1 := cl_st hc1 ew4 (by simp <;> omega); replace hr0 := cl_st hr0 ew4 (by simp <;> omega); replace hr1 := cl_st' hr1 ew4; replace hr2 := cl_st hr2 ew4 (by simp <;> omega); replace kp := kp.stN ew4 (by first | (left; simp; done) | (right; left; simp; done) | (right; right; dsimp only; omega)); generalize ew5 : World.setCell w4 _ _ = w5; have sz5 := sz_st2 ew5; replace zc0 := fz_st zc0 ew5; replace zc1 := fz_st zc1 ew5; replace zr0 := fz_st zr0 ew5; replace zr1 := fz_st zr1 ew5; replace zr2 := fz_st zr2 ew5; replace hc0 := cl_st hc0 ew5 (by simp <;> omega)
  replace hc1 := cl_st hc1 ew5 (by simp <;> omega); replace hr0 := cl_st hr0 ew5 (by simp <;> omega); replace hr1 := cl_st hr1 ew5 (by simp <;> omega); replace hr2 := cl_st' hr2 ew5; replace kp := kp.stN ew5 (by first | (left; simp; done) | (right; left; simp; done) | (right; right; dsimp only; omega)); refine F.re ?_; refine F.ctl (fun _ => stepG_ret') ?_; refine F.leaveE (v := .agg #[.int .i64 1, .int .i64 0, .int .i64 0]) rfl rfl Tryz.func20 (fun d => ?_) (fun d es hes => DX.still _ (fun e he => ?_)) ?_
  · simp [results, go_sem, *]
  · have hm := hes e he
    simp [results, go_sem, *] at hm; rcases hm with rfl | rfl | rfl <;> exact evr (w := w5) (by assumption) (by first | assumption | (refine hfr _ _ ?_; dsimp only; omega))
  exact hc _ _ ⟨rfl, kp⟩

theorem turn0_x (c : Cl) (w0 : World) (tat : TurnsAt w0 c.ta c.nt c.T) (hrd : 0 < c.nt → ∀ p : Addr, c.ta = some p → ∀ a : Addr, a.block = p.block → Ok a false) (hfr : ∀ a wr, w0.heap.size ≤ a.block → Ok a wr) :
    CallsX Tryz.prog main (DX Ok) 20 #[.agg #[.int .i64 c.st, .slice c.ta c.nt c.tc], .int .i64 0] w0 fun v w' => v = .agg #[.int .i64 c.k0, .int .i64 c.k1, .int .i64 c.k2] ∧ Kp [] w0 w' := by
  unfold Cl.k0 Cl.k1 Cl.k2
  by_cases e : c.nt = 0
  · rw [if_pos e, if_pos e, if_pos e]
    exact turnP_x c.st c.ta c.nt c.tc 0 w0 (by omega) (by omega) hfr
  · rw [if_neg e, if_neg e, if_neg e]
    obtain ⟨tb, o, hta, hj⟩ := tat 0 (by omega); have x := turnG_x (main := main) 0 c.st tb o c.nt c.tc 0 _ _ _ w0 (by omega) (by omega) (by omega) (by omega) (hj 0 (by decide)) (hj 1 (by decide)) (hj 2 (by decide)) (hrd (by omega) _ hta) hfr; rw [← hta] at x; exact x

theorem runE_x (Lv Cv : Value) (e1 at1 : Int) (he : ¬ e1 = 0) (w0 : World) (hfr : ∀ a wr, w0.heap.size ≤ a.block → Ok a wr) (hchk : ∀ w, Kp [] w0 w → CallsX Tryz.prog main (DX Ok) 16 #[Lv, Cv] w fun v w' => v = .tuple #[.int .i64 e1, .int .i64 at1] ∧ Kp [] w w') :
    CallsX Tryz.prog main (DX Ok) 24 #[Lv, Cv] w0 fun v w' => v = .tuple #[.agg #[.slice none 0 0, .slice none 0 0], .int .i64 e1, .int .i64 at1] ∧ Kp [] w0 w' := by
  intro Ψ F c cs hc; have he1 : (e1 != 0) = true := by simpa using he
  rw [enter_at _ Tryz.func24 rfl]; simp only [Tryz.ntmps24, List.size_toArray, List.length_cons, List.length_nil, Nat.reduceAdd, Nat.reduceSub, Array.replicate_succ, Array.replicate_zero, List.push_toArray, List.append_toArray, List.nil_append, List.cons_append]; refine F.sr ?_; simp only [rg, Nat.reduceAdd]; refine F.op rfl rfl (by decide) (fun d K hK => ?_); go_simp; rw [alloc_at']; refine hK _ _ ⟨DX.alloc _ _ (fun e he => ?_), ?_⟩
  · have hm := mem_listed he
    simp [go_sem] at hm
  clear hK K d; try walk_nrm
  generalize ew1 : World.alloc w0 _ = w1; generalize hn1 : (World.heap w0).size = n1; have sz1 := sz_al2 ew1 hn1; have hr0 := cl_new (i := 0) ew1 hn1 rfl; have zr0 := fz_new ew1 hn1 0; have hr1 := cl_new (i := 1) ew1 hn1 rfl; have zr1 := fz_new ew1 hn1 1; try simp only [List.getElem_toArray, List.getElem_cons_zero, List.getElem_cons_succ] at hr0 hr1
  have kp : Kp [] w0 w0 [] := Kp.refl _; replace kp := kp.alN ew1; iterate 2 (refine F.oq rfl rfl rfl (by simp [go_sem]) fun d K h => ?_; go_simp; refine h _ ?_; clear h K d; try walk_nrm)
  refine F.es ?_; refine F.sr ?_; simp only [rg, Nat.reduceAdd]; iterate 2 (refine F.oq rfl rfl rfl (by simp [go_sem]) fun d K h => ?_; go_simp; refine h _ ?_; clear h K d; try walk_nrm)
  refine F.enter rfl rfl (by decide) (fun _ => run_call_body rfl Tryz.func16 (by rfl) (by rfl)) (fun _ => events_call_body rfl Tryz.func16 (by rfl) (by rfl) _) ?_; walk_nrm; refine hchk w1 kp _ F _ _ (fun v w2 hp => ?_); obtain ⟨rfl, k1⟩ := hp; replace zr0 := (Kp.frozC k1 _ _ (by simp only [List.mem_cons, List.not_mem_nil, or_false, not_or]; first | omega | simp_all | (refine ⟨?_, ?_⟩ <;> first | omega | assumption) | assumption) (by first | (simp; done) | (simp; omega)) hr0).trans zr0; replace zr1 := (Kp.frozC k1 _ _ (by simp only [List.mem_cons, List.not_mem_nil, or_false, not_or]; first | omega | simp_all | (refine ⟨?_, ?_⟩ <;> first | omega | assumption) | assumption) (by first | (simp; done) | (simp; omega)) hr1).trans zr1; replace hr0 := Kp.cellC k1 _ _ (by simp only [List.mem_cons, List.not_mem_nil, or_false, not_or]; first | omega | simp_all | (refine ⟨?_, ?_⟩ <;> first | omega | assumption) | assumption) (by first | (simp; done) | (simp; omega)) hr0; replace hr1 := Kp.cellC k1 _ _ (by simp only [List.mem_cons, List.not_mem_nil, or_false, not_or]; first | omega | simp_all | (refine ⟨?_, ?_⟩ <;> first | omega | assumption) | assumption) (by first | (simp; done) | (simp; omega)) hr1; replace kp := kp.callN (k1) (by intro x hx; first | (exact absurd hx List.not_mem_nil) | (simp at hx; first | (left; simp [hx]; done) | (right; omega) | (rcases hx with rfl | hx <;> first | (left; simp; done) | (left; simp [hx]; done) | (right; omega)))) (by intro x hx; simp at hx; try (subst hx); first | (left; simp; done) | (right; left; simp; done) | (right; right; dsimp only; omega))
  have lr : w0.heap.size ≤ n1 ∧ n1 < w2.heap.size := ⟨by omega, lt_of_cell hr0⟩; clear hn1 sz1 ew1 k1; rw [Frame.finish_at]; try walk_nrm
  iterate 5 (refine F.oq rfl rfl rfl (by simp [go_sem]) fun d K h => ?_; go_simp; refine h _ ?_; clear h K d; try walk_nrm)
  refine F.esr ?_; simp only [rg, Nat.reduceAdd]; iterate 2 (refine F.oq rfl rfl rfl (by simp [go_sem]) fun d K h => ?_; go_simp; refine h _ ?_; clear h K d; try walk_nrm)
  refine F.re ?_; refine F.ct rfl ?_; refine F.sr ?_; simp only [rg, Nat.reduceAdd]; iterate 3 (refine F.oq rfl rfl rfl (by simp [go_sem]) fun d K h => ?_; go_simp; refine h _ ?_; clear h K d; try walk_nrm)
  refine F.op rfl rfl (by decide) (fun d K hK => ?_); go_simp
  repeat rw [setCell_at']
  refine hK _ _ ⟨DX.set2 _ (by (first | assumption | exact hrb _ rfl | (apply hfr <;> dsimp only <;> omega))) (by (first | assumption | exact hrb _ rfl | (apply hfr <;> dsimp only <;> omega))) (fun e he => ?_), ?_⟩
  · have hm := mem_listed he
    simp [go_sem, storedEv, evst_slice, evst_ptr, evst_iface, evst_nil, evst_bool, *] at hm; rcases hm with rfl | rfl <;> exact .inl ⟨_, rfl, rfl, by (first | assumption | exact hrb _ rfl | (apply hfr <;> dsimp only <;> omega)), by simp only [size_at, size_set]; first | omega | exact lt_of_cell (by assumption)⟩
  clear hK K d; try walk_nrm
  generalize ew3 : World.setCell w2 _ _ = w3; have sz3 := sz_st2 ew3; replace zr0 := fz_st zr0 ew3; replace zr1 := fz_st zr1 ew3; replace hr0 := cl_st' hr0 ew3; replace hr1 := cl_st hr1 ew3 (by simp <;> omega); replace kp := kp.stN ew3 (by first | (left; simp; done) | (right; left; simp; done) | (right; right; dsimp only; omega)); generalize ew4 : World.setCell w3 _ _ = w4; have sz4 := sz_st2 ew4; replace zr0 := fz_st zr0 ew4; replace zr1 := fz_st zr1 ew4; replace hr0 := cl_st hr0 ew4 (by simp <;> omega); replace hr1 := cl_st' hr1 ew4; replace kp := kp.stN ew4 (by first | (left; simp; done) | (right; left; simp; done) | (right; right; dsimp only; omega)); iterate 2 (refine F.oq rfl rfl rfl (by simp [go_sem]) fun d K h => ?_; go_simp; refine h _ ?_; clear h K d; try walk_nrm)
  refine F.re ?_; refine F.ctl (fun _ => stepG_ret') ?_; refine F.leaveE (v := .tuple #[.agg #[.slice none 0 0, .slice none 0 0], .int .i64 e1, .int .i64 at1]) rfl rfl Tryz.func24 (fun d => ?_) (fun d es hes => DX.still _ (fun e he => ?_)) ?_
  · simp [results, go_sem, *]
  · have hm := hes e he
    simp [results, go_sem, *] at hm; rcases hm with rfl | rfl <;> exact evr (w := w4) (by assumption) (by first | assumption | (refine hfr _ _ ?_; dsimp only; omega))
  exact hc _ _ ⟨rfl, kp⟩
end

theorem TurnsAt.old {wI w : World} {sa : Option Addr} {n : Nat} {T : Nat → Nat → Int} (h : TurnsAt wI sa n T) (ho : Old wI w) : TurnsAt w sa n T := fun i hi => by
  obtain ⟨b, o, e, hj⟩ := h i hi; exact ⟨b, o, e, fun j hj' => ho.cell _ _ (hj j hj')⟩
theorem ClsAt.old {wI w : World} {sa : Option Addr} {m : Nat} {g : Nat → Cl} (h : ClsAt wI sa m g) (ho : Old wI w) : ClsAt w sa m g := fun i hi => by
  obtain ⟨b, o, e, h1, h2, h3⟩ := h i hi; exact ⟨b, o, e, ho.cell _ _ h1, ho.cell _ _ h2, h3.old ho⟩
/-- The clients that are asked for. -/
structure AskN (wI : World) (sa : Option Addr) (n : Nat) (g : Nat → Cl) : Prop where
  hC : ClsAt wI sa n g
  bC : ∀ p : Addr, sa = some p → p.block < wI.heap.size
  bT : ∀ i, i < n → 0 < (g i).nt → ∀ p : Addr, (g i).ta = some p → p.block < wI.heap.size
  i0 : 0 < wI.heap.size
  hg : wI.cell? ⟨0, 0, none⟩ = some (.iface 217 (.agg #[.pointer (some ⟨1, 121, none⟩)]))
section
variable {wI : World} {sa : Option Addr} {n cap : Nat} {g : Nat → Cl} {l : List Nat} {Post : Value → World → Prop}
theorem AskN.off (h : AskN wI sa n g) (hl : ∀ B ∈ l, wI.heap.size ≤ B) : OffL l sa n g := ⟨fun p hp z => by have := h.bC p hp; have := hl _ z; omega, fun i hi h0 p hp z => by have := h.bT i hi h0 p hp; have := hl _ z; omega⟩
theorem AskN.rd (h : AskN wI sa n g) (hl : ∀ B ∈ l, wI.heap.size ≤ B) {N0 : Nat} : RdC (OkS N0 l []) sa n g := ⟨fun p hp a ha => ok_rdb (ha ▸ (h.off hl).1 p hp), fun i hi hnt p hp a ha => ok_rdb (ha ▸ (h.off hl).2 i hi hnt p hp)⟩

theorem reportN_at (h : AskN wI sa n g) (w0 : World) (cR : Frame) (csR : List Frame) (h9 : n ≤ 9) (hgood : ∀ j, j < n → (g j).good = true) (hck : chk 0 (fun _ _ => 0) n g = (0, 0))
    (hret : ∀ (ng' : Nat) (l : List Nat) (A O : Nat) (ev : Value) (w' : World), 0 < ng' → (∀ B ∈ l, wI.heap.size ≤ B ∧ B < w'.heap.size) → RunN w0 n g A O ev w' → Old w0 w' → (∀ x, A < x → x ∉ l) → O ∉ l → At0 Tryz.prog Post (Old wI) (ShL l) ng' (G (cR.finish (.tuple #[.agg #[.slice (some ⟨O, 0, none⟩) n n, ev], .bool true, .bool true])) csR) w') :
    At0 Tryz.prog Post (Old wI) (ShL []) 1 (G (Frame.enter Tryz.prog 19 #[.slice none 0 0, .slice sa n cap] .normal) (cR :: csR)) w0 := by
  refine At.assume old_at (fun hO => ?_); refine At.keep (K' := Old w0) (fun d => Old.refl w0) ?_; replace hret : ∀ (ng' : Nat) (l : List Nat) (A O : Nat) (ev : Value) (w' : World), 0 < ng' → (∀ B ∈ l, wI.heap.size ≤ B ∧ B < w'.heap.size) → RunN w0 n g A O ev w' → Old w0 w' → (∀ x, A < x → x ∉ l) → O ∉ l → At0 Tryz.prog Post (Old w0) (ShL l) ng' (G (cR.finish (.tuple #[.agg #[.slice (some ⟨O, 0, none⟩) n n, ev], .bool true, .bool true])) csR) w' := fun ng' l A O ev w' h1 h2 h3 h4 h5 h6 => At.keep (fun d => hO.trans h4) (hret ng' l A O ev w' h1 h2 h3 h4 h5 h6)
  have hI : wI.heap.size ≤ w0.heap.size := hO.2.2.2.1; have F := fut0 (P := Tryz.prog) (Post := Post) (wI := w0) (l := []) 1; rw [enter_at _ Tryz.func19 rfl]; simp only [Tryz.ntmps19, List.size_toArray, List.length_cons, List.length_nil, Nat.reduceAdd, Nat.reduceSub, Array.replicate_succ, Array.replicate_zero, List.push_toArray, List.append_toArray, List.nil_append, List.cons_append]; refine F.sr ?_; simp only [rg, Nat.reduceAdd]; refine F.op rfl rfl (by decide) (fun d K hK => ?_); go_simp; rw [alloc_at']; refine hK _ _ ⟨DX.alloc _ _ (fun e he => ?_), ?_⟩
  · have hm := mem_listed he
    simp [go_sem] at hm
  clear hK K d; try walk_nrm
  generalize ew1 : World.alloc w0 _ = w1; generalize hn1 : (World.heap w0).size = n1; have sz1 := sz_al2 ew1 hn1; have hr0 := cl_new (i := 0) ew1 hn1 rfl; have zr0 := fz_new ew1 hn1 0; have hr1 := cl_new (i := 1) ew1 hn1 rfl; have zr1 := fz_new ew1 hn1 1; try simp only [List.getElem_toArray, List.getElem_cons_zero, List.getElem_cons_succ] at hr0 hr1
  have kp : Kp [] w0 w0 [] := Kp.refl _; replace kp := kp.alN ew1; iterate 2 (refine F.oq rfl rfl rfl (by simp [go_sem]) fun d K h => ?_; go_simp; refine h _ ?_; clear h K d; try walk_nrm)
  refine F.esr ?_; simp only [rg, Nat.reduceAdd]; refine F.enter rfl rfl (by decide) (fun _ => run_call_body rfl Tryz.func30 (by rfl) (by rfl)) (fun _ => events_call_body rfl Tryz.func30 (by rfl) (by rfl) _) ?_; walk_nrm; have z1 : w0.heap.size ≤ n1 ∧ n1 < w1.heap.size := ⟨by omega, by omega⟩; clear hn1 sz1 ew1; refine At.assume old_at (fun hO1 => ?_); refine works_at w1 _ _ (by omega) (hO1.cell _ _ (hO.cell _ _ h.hg)) (fun ng1 A1 w2 hng1 g1 g2 hO2 => ?_); clear F kp; have F := fut0 (P := Tryz.prog) (Post := Post) (wI := w0) (l := [A1]) ng1; have hfr : ∀ (a : Addr) (wr : Bool), w2.heap.size ≤ a.block → OkS w0.heap.size [A1] [] a wr := fun a wr h => ok_fr (N := w2.heap.size) (by simp; omega) (by omega) h (by simp) wr
  have hz2 : w1.heap.size ≤ w2.heap.size := hO2.2.2.2.1; replace zr0 := (hO2.froz (by dsimp only; omega)).trans zr0; replace zr1 := (hO2.froz (by dsimp only; omega)).trans zr1; replace hr0 := hO2.cell _ _ hr0; replace hr1 := hO2.cell _ _ hr1; rw [Frame.finish_at]; try walk_nrm
  refine F.oq rfl rfl rfl (by simp [go_sem]) fun d K h => ?_; go_simp; refine h _ ?_; clear h K d; try walk_nrm
  refine F.esr ?_; simp only [rg, Nat.reduceAdd]; iterate 2 (refine F.oq rfl rfl rfl (by simp [go_sem]) fun d K h => ?_; go_simp; refine h _ ?_; clear h K d; try walk_nrm)
  refine F.enter rfl rfl (by decide) (fun _ => run_call_body rfl Tryz.func16 (by rfl) (by rfl)) (fun _ => events_call_body rfl Tryz.func16 (by rfl) (by rfl) _) ?_; walk_nrm; refine check_x (Ok := OkS w0.heap.size [A1] []) w2.heap.size 0 0 n cap none sa (fun _ _ => 0) g w2 (Nat.le_refl _) (fun i hi => absurd hi (Nat.not_lt_zero _)) (h.hC.old (hO.trans (hO1.trans hO2))) (fun p hp => by cases hp) (h.rd (by simp; omega)) hfr _ F _ _ (fun v w3 hp => ?_); rw [hck] at hp; obtain ⟨rfl, k3⟩ := hp; have z3 := k3.size; replace zr0 := (k3.froz _ _ (by simp) hr0).trans zr0; replace zr1 := (k3.froz _ _ (by simp) hr1).trans zr1; replace hr0 := k3.cell _ _ (by simp) hr0; replace hr1 := k3.cell _ _ (by simp) hr1; rw [Frame.finish_at]; try walk_nrm
  iterate 5 (refine F.oq rfl rfl rfl (by simp [go_sem]) fun d K h => ?_; go_simp; refine h _ ?_; clear h K d; try walk_nrm)
  refine F.esr ?_; simp only [rg, Nat.reduceAdd]; iterate 2 (refine F.oq rfl rfl rfl (by simp [go_sem]) fun d K h => ?_; go_simp; refine h _ ?_; clear h K d; try walk_nrm)
  refine F.enter rfl rfl (by decide) (fun _ => run_call_body rfl Tryz.func24 (by rfl) (by rfl)) (fun _ => events_call_body rfl Tryz.func24 (by rfl) (by rfl) _) ?_; walk_nrm; refine At.assume old_at (fun hO3 => ?_); refine runN_at sa n cap g w3 _ _ hng1 (by simp; omega) h9 (h.hC.old (hO.trans hO3)) hgood (h.off (by simp; omega)) (by omega) (hO3.cell _ _ (hO.cell _ _ h.hg)) (fun ng2 Ag O ev w4 hng2 RN => ?_); clear F hfr; have F := fut0 (P := Tryz.prog) (Post := Post) (wI := w0) (l := [Ag, A1]) ng2; have lA := RN.lA; have lO := RN.lO; have hO4 := RN.old; have hz4 : w3.heap.size ≤ w4.heap.size := hO4.2.2.2.1; have hfr : ∀ (a : Addr) (wr : Bool), w4.heap.size ≤ a.block → OkS w0.heap.size [Ag, A1] [] a wr := fun a wr h => ok_fr (N := w4.heap.size) (by simp; omega) (by omega) h (by simp) wr
  obtain ⟨N, m, _, _, hrow, _⟩ := id RN.ev; obtain ⟨xe, ce, rfl⟩ := row_form hrow; clear hrow; replace zr0 := (hO4.froz (by dsimp only; omega)).trans zr0; replace zr1 := (hO4.froz (by dsimp only; omega)).trans zr1; replace hr0 := hO4.cell _ _ hr0; replace hr1 := hO4.cell _ _ hr1; have oR : ∀ j wr, j = 0 ∨ j = 1 → OkS w0.heap.size [Ag, A1] [] ⟨n1, j, none⟩ wr := fun j wr hj => ok_wr (by omega) (by omega) (by omega) (by simp [StL]) wr
  have oR0 := oR 0 true (.inl rfl); have oR1 := oR 1 true (.inr rfl); have oQ0 := oR 0 false (.inl rfl); have oQ1 := oR 1 false (.inr rfl); have kp : Kp [] w4 w4 [⟨n1, 0, none⟩, ⟨n1, 1, none⟩] := Kp.refl _; have ln1 : n1 < w4.heap.size := lt_of_cell hr0; rw [Frame.finish_at]; try walk_nrm
  iterate 4 (refine F.oq rfl rfl rfl (by simp [go_sem]) fun d K h => ?_; go_simp; refine h _ ?_; clear h K d; try walk_nrm)
  refine F.op rfl rfl (by decide) (fun d K hK => ?_); go_simp; rw [alloc_at']; refine hK _ _ ⟨DX.alloc _ _ (fun e he => ?_), ?_⟩
  · have hm := mem_listed he
    simp [go_sem] at hm
  clear hK K d; try walk_nrm
  generalize ew5 : World.alloc w4 _ = w5; generalize hn5 : (World.heap w4).size = n5; have sz5 := sz_al2 ew5 hn5; replace zr0 := fz_al zr0 hr0 ew5; replace zr1 := fz_al zr1 hr1 ew5; replace hr0 := cl_al hr0 ew5; replace hr1 := cl_al hr1 ew5; have hs0 := cl_new (i := 0) ew5 hn5 rfl; have zs0 := fz_new ew5 hn5 0; have hs1 := cl_new (i := 1) ew5 hn5 rfl; have zs1 := fz_new ew5 hn5 1; try simp only [List.getElem_toArray, List.getElem_cons_zero, List.getElem_cons_succ] at hs0 hs1
  replace kp := kp.alN ew5; have i2 : n1 ≠ n5 := by omega
  refine F.op rfl rfl (by decide) (fun d K hK => ?_); go_simp
  repeat rw [setCell_at']
  refine hK _ _ ⟨DX.set2 _ (by (first | assumption | exact hrb _ rfl | (apply hfr <;> dsimp only <;> omega))) (by (first | assumption | exact hrb _ rfl | (apply hfr <;> dsimp only <;> omega))) (fun e he => ?_), ?_⟩
  · have hm := mem_listed he
    simp [go_sem, storedEv, evst_slice, evst_ptr, evst_iface, evst_nil, evst_bool, *] at hm; rcases hm with rfl | rfl <;> exact .inl ⟨_, rfl, rfl, by (first | assumption | exact hrb _ rfl | (apply hfr <;> dsimp only <;> omega)), by simp only [size_at, size_set]; first | omega | exact lt_of_cell (by assumption)⟩
  clear hK K d; try walk_nrm
  generalize ew6 : World.setCell w5 _ _ = w6; have sz6 := sz_st2 ew6; replace zr0 := fz_st zr0 ew6; replace zr1 := fz_st zr1 ew6; replace zs0 := fz_st zs0 ew6; replace zs1 := fz_st zs1 ew6; replace hr0 := cl_st hr0 ew6 (by simp <;> omega); replace hr1 := cl_st hr1 ew6 (by simp <;> omega); replace hs0 := cl_st' hs0 ew6; replace hs1 := cl_st hs1 ew6 (by simp <;> omega); replace kp := kp.stN ew6 (by first | (left; simp; done) | (right; left; simp; done) | (right; right; dsimp only; omega)); generalize ew7 : World.setCell w6 _ _ = w7; have sz7 := sz_st2 ew7; replace zr0 := fz_st zr0 ew7; replace zr1 := fz_st zr1 ew7; replace zs0 := fz_st zs0 ew7; replace zs1 := fz_st zs1 ew7; replace hr0 := cl_st hr0 ew7 (by simp <;> omega); replace hr1 := cl_st hr1 ew7 (by simp <;> omega); replace hs0 := cl_st hs0 ew7 (by simp <;> omega); replace hs1 := cl_st' hs1 ew7; replace kp := kp.stN ew7 (by first | (left; simp; done) | (right; left; simp; done) | (right; right; dsimp only; omega)); iterate 2 (refine F.oq rfl rfl rfl (by simp [go_sem]) fun d K h => ?_; go_simp; refine h _ ?_; clear h K d; try walk_nrm)
  refine F.es ?_; refine F.sr ?_; simp only [rg, Nat.reduceAdd]; iterate 2 (refine F.oq rfl rfl rfl (by simp [go_sem]) fun d K h => ?_; go_simp; refine h _ ?_; clear h K d; try walk_nrm)
  refine F.re ?_; refine F.cf rfl ?_; refine F.sk ?_; refine F.sr ?_; simp only [rg, Nat.reduceAdd]; iterate 4 (refine F.oq rfl rfl rfl (by simp [go_sem]) fun d K h => ?_; go_simp; refine h _ ?_; clear h K d; try walk_nrm)
  refine F.ol rfl rfl rfl fun d K h => ?_; go_simp; refine h _ (fun e m => ?_) ?_; simp [go_sem, *] at m; subst m; exact evr (w := w7) (by assumption) (by first | assumption | exact hrb _ rfl | (apply hfr <;> dsimp only <;> omega)); clear h K d; try walk_nrm
  iterate 6 (refine F.oq rfl rfl rfl (by simp [go_sem]) fun d K h => ?_; go_simp; refine h _ ?_; clear h K d; try walk_nrm)
  refine F.esr ?_; simp only [rg, Nat.reduceAdd]; refine F.ol rfl rfl rfl fun d K hK => ?_
  go_simp; refine hK _ (fun e hm => ?_) ?_
  · simp [go_sem, *] at hm
    rcases hm with rfl | rfl <;> exact evr (w := w7) (by assumption) (by first | assumption | exact hrb _ rfl | (apply hfr <;> dsimp only <;> omega))
  clear hK K d; try walk_nrm
  iterate 5 (refine F.oq rfl rfl rfl (by simp [go_sem]) fun d K h => ?_; go_simp; refine h _ ?_; clear h K d; try walk_nrm)
  refine F.op rfl rfl (by decide) (fun d K hK => ?_); go_simp
  repeat rw [setCell_at']
  refine hK _ _ ⟨DX.set2 _ (by (first | assumption | exact hrb _ rfl | (apply hfr <;> dsimp only <;> omega))) (by (first | assumption | exact hrb _ rfl | (apply hfr <;> dsimp only <;> omega))) (fun e he => ?_), ?_⟩
  · have hm := mem_listed he
    simp [go_sem, storedEv, evst_slice, evst_ptr, evst_iface, evst_nil, evst_bool, *] at hm; rcases hm with rfl | rfl <;> exact .inl ⟨_, rfl, rfl, by (first | assumption | exact hrb _ rfl | (apply hfr <;> dsimp only <;> omega)), by simp only [size_at, size_set]; first | omega | exact lt_of_cell (by assumption)⟩
  clear hK K d; try walk_nrm
  generalize ew8 : World.setCell w7 _ _ = w8; have sz8 := sz_st2 ew8; replace zr0 := fz_st zr0 ew8; replace zr1 := fz_st zr1 ew8; replace zs0 := fz_st zs0 ew8; replace zs1 := fz_st zs1 ew8; replace hr0 := cl_st' hr0 ew8; replace hr1 := cl_st hr1 ew8 (by simp <;> omega); replace hs0 := cl_st hs0 ew8 (by simp <;> omega); replace hs1 := cl_st hs1 ew8 (by simp <;> omega); replace kp := kp.stN ew8 (by first | (left; simp; done) | (right; left; simp; done) | (right; right; dsimp only; omega)); generalize ew9 : World.setCell w8 _ _ = w9; have sz9 := sz_st2 ew9; replace zr0 := fz_st zr0 ew9; replace zr1 := fz_st zr1 ew9; replace zs0 := fz_st zs0 ew9; replace zs1 := fz_st zs1 ew9; replace hr0 := cl_st hr0 ew9 (by simp <;> omega); replace hr1 := cl_st' hr1 ew9; replace hs0 := cl_st hs0 ew9 (by simp <;> omega); replace hs1 := cl_st hs1 ew9 (by simp <;> omega); replace kp := kp.stN ew9 (by first | (left; simp; done) | (right; left; simp; done) | (right; right; dsimp only; omega)); iterate 2 (refine F.oq rfl rfl rfl (by simp [go_sem]) fun d K h => ?_; go_simp; refine h _ ?_; clear h K d; try walk_nrm)
  refine F.re ?_; refine F.ctl (fun _ => stepG_ret') ?_; refine F.leaveE (v := .tuple #[.agg #[.slice (some ⟨O, 0, none⟩) n n, .slice xe (2 * n) ce], .bool true, .bool true]) rfl rfl Tryz.func19 (fun d => ?_) (fun d es hes => DX.still _ (fun e he => ?_)) ?_
  · simp [results, go_sem, *]
  · have hm := hes e he
    simp [results, go_sem, *] at hm; rcases hm with rfl | rfl <;> exact .inl ⟨_, rfl, rfl, by assumption, by first | exact lt_of_cell hr0 | exact lt_of_cell hr1⟩
  have hks := kp.size; refine At.assume old_at (fun hO5 => ?_); exact hret ng2 [Ag, A1] Ag O _ _ hng2 (by simp; omega) (RN.kp kp (fun x hx => by simp at hx; rcases hx with rfl | rfl <;> exact ⟨by dsimp only; omega, by dsimp only; omega⟩) hO5 (by omega)) hO5 (fun x hx => by simp; omega) (by simp; omega)
end
end Go.Proofs.YtobagnjnbmgidaaGreatDoor
