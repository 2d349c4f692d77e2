/- The law's helpers: a turn; a run that is refused. -/
import Derived.Test.YtobagnjnbmgidaaGreatDoorY13
set_option linter.unusedSimpArgs false
set_option linter.unusedVariables false
namespace Go.Proofs.YtobagnjnbmgidaaGreatDoor
open Go.Conc Go.RowKit Go.Extern
open Go.ConcN (sumTo upd sumTo_upd upd_ne upd_same)

section
variable {Ok : Addr → Bool → Prop} {main : Bool}

set_option maxRecDepth 100000 in
set_option maxHeartbeats 4000000 in
theorem turnG_x (N st : Int) (tb o n cap k : Nat) (t0 t1 t2 : Int) (w0 : World) (hk : ¬ (n : Int) ≤ (k : Int)) (hk0 : ¬ (k : Int) < 0) (hkn : (k : Int) < (n : Int)) (hkz : (0 : Int) ≤ (k : Int)) (ht0 : w0.cell? ⟨tb, o + k * 3, none⟩ = some (.int .i64 t0)) (ht1 : w0.cell? ⟨tb, o + k * 3 + 1, none⟩ = some (.int .i64 t1)) (ht2 : w0.cell? ⟨tb, o + k * 3 + 2, none⟩ = some (.int .i64 t2)) (hrb : ∀ a : Addr, a.block = tb → Ok a false) (hfr : ∀ a wr, w0.heap.size ≤ a.block → Ok a wr) :
    CallsX Tryz.prog main (DX Ok) 20 #[.agg #[.int .i64 st, .slice (some ⟨tb, o, none⟩) n cap], .int .i64 k] w0 fun v w' => v = .agg #[.int .i64 t0, .int .i64 t1, .int .i64 t2] ∧ Kp [] w0 w' := by
  intro Ψ F c cs hc
  have a1 := addN tb o (k * 3)
  have lt : tb < w0.heap.size := lt_of_cell ht0
  rw [enter_at _ Tryz.func20 rfl]
  simp only [Tryz.ntmps20, List.size_toArray, List.length_cons, List.length_nil, Nat.reduceAdd, Nat.reduceSub, Array.replicate_succ, Array.replicate_zero, List.push_toArray, List.append_toArray, List.nil_append, List.cons_append]
  refine F.sr ?_
  simp only [rg, Nat.reduceAdd]
  refine F.op rfl rfl (by decide) (fun d K hK => ?_)
  go_simp
  rw [alloc_at']
  refine hK _ _ ⟨DX.alloc _ _ (fun e he => ?_), ?_⟩
  · have hm := mem_listed he
    simp [go_sem] at hm
  clear hK K d
  try walk_nrm
  generalize ew1 : World.alloc w0 _ = w1
  generalize hn1 : (World.heap w0).size = n1
  have sz1 := sz_al2 ew1 hn1
  replace ht0 := cl_al ht0 ew1
  replace ht1 := cl_al ht1 ew1
  replace ht2 := cl_al ht2 ew1
  have hc0 := cl_new (i := 0) ew1 hn1 rfl
  have zc0 := fz_new ew1 hn1 0
  have hc1 := cl_new (i := 1) ew1 hn1 rfl
  have zc1 := fz_new ew1 hn1 1
  try simp only [List.getElem_toArray, List.getElem_cons_zero, List.getElem_cons_succ] at hc0 hc1
  have kp : Kp [] w0 w0 [] := Kp.refl _
  replace kp := kp.alN ew1
  refine F.op rfl rfl (by decide) (fun d K hK => ?_)
  go_simp
  rw [alloc_at']
  refine hK _ _ ⟨DX.alloc _ _ (fun e he => ?_), ?_⟩
  · have hm := mem_listed he
    simp [go_sem] at hm
  clear hK K d
  try walk_nrm
  generalize ew2 : World.alloc w1 _ = w2
  generalize hn2 : (World.heap w1).size = n2
  have sz2 := sz_al2 ew2 hn2
  replace zc0 := fz_al zc0 hc0 ew2
  replace zc1 := fz_al zc1 hc1 ew2
  replace ht0 := cl_al ht0 ew2
  replace ht1 := cl_al ht1 ew2
  replace ht2 := cl_al ht2 ew2
  replace hc0 := cl_al hc0 ew2
  replace hc1 := cl_al hc1 ew2
  have hr0 := cl_new (i := 0) ew2 hn2 rfl
  have zr0 := fz_new ew2 hn2 0
  have hr1 := cl_new (i := 1) ew2 hn2 rfl
  have zr1 := fz_new ew2 hn2 1
  have hr2 := cl_new (i := 2) ew2 hn2 rfl
  have zr2 := fz_new ew2 hn2 2
  try simp only [List.getElem_toArray, List.getElem_cons_zero, List.getElem_cons_succ] at hr0 hr1 hr2
  replace kp := kp.alN ew2
  refine F.es ?_
  refine F.sr ?_
  simp only [rg, Nat.reduceAdd]
  iterate 5 (refine F.oq rfl rfl rfl (by simp [go_sem]) fun d K h => ?_; go_simp; refine h _ ?_; clear h K d; try walk_nrm)
  refine F.ol rfl rfl rfl fun d K h => ?_; go_simp; refine h _ (fun e m => ?_) ?_; simp [go_sem, *] at m; subst m; exact evr (w := w2) (by assumption) (by first | assumption | exact hrb _ rfl | (apply hfr <;> dsimp only <;> omega)); clear h K d; try walk_nrm
  iterate 3 (refine F.oq rfl rfl rfl (by simp [go_sem]) fun d K h => ?_; go_simp; refine h _ ?_; clear h K d; try walk_nrm)
  refine F.re ?_
  refine F.cf rfl ?_
  refine F.sk ?_
  refine F.sr ?_
  simp only [rg, Nat.reduceAdd]
  refine F.oq rfl rfl rfl (by simp [go_sem]) fun d K h => ?_; go_simp; refine h _ ?_; clear h K d; try walk_nrm
  refine F.ol rfl rfl rfl fun d K h => ?_; go_simp; refine h _ (fun e m => ?_) ?_; simp [go_sem, *] at m; subst m; exact evr (w := w2) (by assumption) (by first | assumption | exact hrb _ rfl | (apply hfr <;> dsimp only <;> omega)); clear h K d; try walk_nrm
  iterate 2 (refine F.oq rfl rfl rfl (fun _ => by first | (simp [go_sem]; done) | simp [go_sem, Instr.makeInterface, Instr.makeFunc, *]) fun d K hK => ?_; go_simp; refine hK _ ?_; clear hK K d; try walk_nrm)
  refine F.ol rfl rfl rfl fun d K hK => ?_
  go_simp
  refine hK _ (fun e hm => ?_) ?_
  · simp [go_sem, *] at hm
    rcases hm with rfl | rfl | rfl <;> exact evr (w := w2) (by assumption) (by first | assumption | exact hrb _ rfl | (apply hfr <;> dsimp only <;> omega))
  clear hK K d
  try walk_nrm
  refine F.op rfl rfl (by decide) (fun d K hK => ?_)
  go_simp
  repeat rw [setCell_at']
  refine hK _ _ ⟨DX.set3 _ (by (first | assumption | exact hrb _ rfl | (apply hfr <;> dsimp only <;> omega))) (by (first | assumption | exact hrb _ rfl | (apply hfr <;> dsimp only <;> omega))) (by (first | assumption | exact hrb _ rfl | (apply hfr <;> dsimp only <;> omega))) (fun e he => ?_), ?_⟩
  · have hm := mem_listed he
    simp [go_sem, storedEv, evst_slice, evst_ptr, evst_iface, evst_nil, evst_bool, *] at hm
    rcases hm with rfl | rfl | rfl <;> exact .inl ⟨_, rfl, rfl, by (first | assumption | exact hrb _ rfl | (apply hfr <;> dsimp only <;> omega)), by simp only [size_at, size_set]; first | omega | exact lt_of_cell (by assumption)⟩
  clear hK K d
  try walk_nrm
  generalize ew3 : World.setCell w2 _ _ = w3
  have sz3 := sz_st2 ew3
  replace zc0 := fz_st zc0 ew3
  replace zc1 := fz_st zc1 ew3
  replace zr0 := fz_st zr0 ew3
  replace zr1 := fz_st zr1 ew3
  replace zr2 := fz_st zr2 ew3
  replace ht0 := cl_st ht0 ew3 (by intro e; simp at e <;> omega)
  replace ht1 := cl_st ht1 ew3 (by intro e; simp at e <;> omega)
  replace ht2 := cl_st ht2 ew3 (by intro e; simp at e <;> omega)
  replace hc0 := cl_st hc0 ew3 (by intro e; simp at e <;> omega)
  replace hc1 := cl_st hc1 ew3 (by intro e; simp at e <;> omega)
  replace hr0 := cl_st' hr0 ew3
  replace hr1 := cl_st hr1 ew3 (by intro e; simp at e <;> omega)
  replace hr2 := cl_st hr2 ew3 (by intro e; simp at e <;> omega)
  replace kp := kp.stN ew3 (by first | (left; simp; done) | (right; left; simp; done) | (right; right; dsimp only; omega))
  generalize ew4 : World.setCell w3 _ _ = w4
  have sz4 := sz_st2 ew4
  replace zc0 := fz_st zc0 ew4
  replace zc1 := fz_st zc1 ew4
  replace zr0 := fz_st zr0 ew4
  replace zr1 := fz_st zr1 ew4
  replace zr2 := fz_st zr2 ew4
  replace ht0 := cl_st ht0 ew4 (by intro e; simp at e <;> omega)
  replace ht1 := cl_st ht1 ew4 (by intro e; simp at e <;> omega)
  replace ht2 := cl_st ht2 ew4 (by intro e; simp at e <;> omega)
  replace hc0 := cl_st hc0 ew4 (by intro e; simp at e <;> omega)
  replace hc1 := cl_st hc1 ew4 (by intro e; simp at e <;> omega)
  replace hr0 := cl_st hr0 ew4 (by intro e; simp at e <;> omega)
  replace hr1 := cl_st' hr1 ew4
  replace hr2 := cl_st hr2 ew4 (by intro e; simp at e <;> omega)
  replace kp := kp.stN ew4 (by first | (left; simp; done) | (right; left; simp; done) | (right; right; dsimp only; omega))
  generalize ew5 : World.setCell w4 _ _ = w5
  have sz5 := sz_st2 ew5
  replace zc0 := fz_st zc0 ew5
  replace zc1 := fz_st zc1 ew5
  replace zr0 := fz_st zr0 ew5
  replace zr1 := fz_st zr1 ew5
  replace zr2 := fz_st zr2 ew5
  replace ht0 := cl_st ht0 ew5 (by intro e; simp at e <;> omega)
  replace ht1 := cl_st ht1 ew5 (by intro e; simp at e <;> omega)
  replace ht2 := cl_st ht2 ew5 (by intro e; simp at e <;> omega)
  replace hc0 := cl_st hc0 ew5 (by intro e; simp at e <;> omega)
  replace hc1 := cl_st hc1 ew5 (by intro e; simp at e <;> omega)
  replace hr0 := cl_st hr0 ew5 (by intro e; simp at e <;> omega)
  replace hr1 := cl_st hr1 ew5 (by intro e; simp at e <;> omega)
  replace hr2 := cl_st' hr2 ew5
  replace kp := kp.stN ew5 (by first | (left; simp; done) | (right; left; simp; done) | (right; right; dsimp only; omega))
  refine F.re ?_
  refine F.ctl (fun _ => stepG_ret') ?_
  refine F.leaveE (v := .agg #[.int .i64 t0, .int .i64 t1, .int .i64 t2]) rfl rfl Tryz.func20 (fun d => ?_) (fun d es hes => DX.still _ (fun e he => ?_)) ?_
  · simp [results, go_sem, *]
  · have hm := hes e he
    simp [results, go_sem, *] at hm
    rcases hm with rfl | rfl | rfl <;> exact evr (w := w5) (by assumption) (by first | assumption | (refine hfr _ _ ?_; dsimp only; omega))
  exact hc _ _ ⟨rfl, kp⟩

set_option maxRecDepth 100000 in
set_option maxHeartbeats 4000000 in
theorem turnP_x (st : Int) (ta : Option Addr) (n cap k : Nat) (w0 : World) (hk : (n : Int) ≤ (k : Int)) (hk0 : ¬ (k : Int) < 0) (hfr : ∀ a wr, w0.heap.size ≤ a.block → Ok a wr) :
    CallsX Tryz.prog main (DX Ok) 20 #[.agg #[.int .i64 st, .slice ta n cap], .int .i64 k] w0 fun v w' => v = .agg #[.int .i64 1, .int .i64 0, .int .i64 0] ∧ Kp [] w0 w' := by
  intro Ψ F c cs hc
  rw [enter_at _ Tryz.func20 rfl]
  simp only [Tryz.ntmps20, List.size_toArray, List.length_cons, List.length_nil, Nat.reduceAdd, Nat.reduceSub, Array.replicate_succ, Array.replicate_zero, List.push_toArray, List.append_toArray, List.nil_append, List.cons_append]
  refine F.sr ?_
  simp only [rg, Nat.reduceAdd]
  refine F.op rfl rfl (by decide) (fun d K hK => ?_)
  go_simp
  rw [alloc_at']
  refine hK _ _ ⟨DX.alloc _ _ (fun e he => ?_), ?_⟩
  · have hm := mem_listed he
    simp [go_sem] at hm
  clear hK K d
  try walk_nrm
  generalize ew1 : World.alloc w0 _ = w1
  generalize hn1 : (World.heap w0).size = n1
  have sz1 := sz_al2 ew1 hn1
  have hc0 := cl_new (i := 0) ew1 hn1 rfl
  have zc0 := fz_new ew1 hn1 0
  have hc1 := cl_new (i := 1) ew1 hn1 rfl
  have zc1 := fz_new ew1 hn1 1
  try simp only [List.getElem_toArray, List.getElem_cons_zero, List.getElem_cons_succ] at hc0 hc1
  have kp : Kp [] w0 w0 [] := Kp.refl _
  replace kp := kp.alN ew1
  refine F.op rfl rfl (by decide) (fun d K hK => ?_)
  go_simp
  rw [alloc_at']
  refine hK _ _ ⟨DX.alloc _ _ (fun e he => ?_), ?_⟩
  · have hm := mem_listed he
    simp [go_sem] at hm
  clear hK K d
  try walk_nrm
  generalize ew2 : World.alloc w1 _ = w2
  generalize hn2 : (World.heap w1).size = n2
  have sz2 := sz_al2 ew2 hn2
  replace zc0 := fz_al zc0 hc0 ew2
  replace zc1 := fz_al zc1 hc1 ew2
  replace hc0 := cl_al hc0 ew2
  replace hc1 := cl_al hc1 ew2
  have hr0 := cl_new (i := 0) ew2 hn2 rfl
  have zr0 := fz_new ew2 hn2 0
  have hr1 := cl_new (i := 1) ew2 hn2 rfl
  have zr1 := fz_new ew2 hn2 1
  have hr2 := cl_new (i := 2) ew2 hn2 rfl
  have zr2 := fz_new ew2 hn2 2
  try simp only [List.getElem_toArray, List.getElem_cons_zero, List.getElem_cons_succ] at hr0 hr1 hr2
  replace kp := kp.alN ew2
  refine F.es ?_
  refine F.sr ?_
  simp only [rg, Nat.reduceAdd]
  iterate 5 (refine F.oq rfl rfl rfl (by simp [go_sem]) fun d K h => ?_; go_simp; refine h _ ?_; clear h K d; try walk_nrm)
  refine F.ol rfl rfl rfl fun d K h => ?_; go_simp; refine h _ (fun e m => ?_) ?_; simp [go_sem, *] at m; subst m; exact evr (w := w2) (by assumption) (by first | assumption | exact hrb _ rfl | (apply hfr <;> dsimp only <;> omega)); clear h K d; try walk_nrm
  iterate 3 (refine F.oq rfl rfl rfl (by simp [go_sem]) fun d K h => ?_; go_simp; refine h _ ?_; clear h K d; try walk_nrm)
  refine F.re ?_
  refine F.ct rfl ?_
  refine F.sr ?_
  simp only [rg, Nat.reduceAdd]
  refine F.oq rfl rfl rfl (by simp [go_sem]) fun d K h => ?_; go_simp; refine h _ ?_; clear h K d; try walk_nrm
  refine F.op rfl rfl (by decide) (fun d K hK => ?_)
  go_simp
  repeat rw [setCell_at']
  refine hK _ _ ⟨DX.set3 _ (by (first | assumption | exact hrb _ rfl | (apply hfr <;> dsimp only <;> omega))) (by (first | assumption | exact hrb _ rfl | (apply hfr <;> dsimp only <;> omega))) (by (first | assumption | exact hrb _ rfl | (apply hfr <;> dsimp only <;> omega))) (fun e he => ?_), ?_⟩
  · have hm := mem_listed he
    simp [go_sem, storedEv, evst_slice, evst_ptr, evst_iface, evst_nil, evst_bool, *] at hm
    rcases hm with rfl | rfl | rfl <;> exact .inl ⟨_, rfl, rfl, by (first | assumption | exact hrb _ rfl | (apply hfr <;> dsimp only <;> omega)), by simp only [size_at, size_set]; first | omega | exact lt_of_cell (by assumption)⟩
  clear hK K d
  try walk_nrm
  generalize ew3 : World.setCell w2 _ _ = w3
  have sz3 := sz_st2 ew3
  replace zc0 := fz_st zc0 ew3
  replace zc1 := fz_st zc1 ew3
  replace zr0 := fz_st zr0 ew3
  replace zr1 := fz_st zr1 ew3
  replace zr2 := fz_st zr2 ew3
  replace hc0 := cl_st hc0 ew3 (by intro e; simp at e <;> omega)
  replace hc1 := cl_st hc1 ew3 (by intro e; simp at e <;> omega)
  replace hr0 := cl_st' hr0 ew3
  replace hr1 := cl_st hr1 ew3 (by intro e; simp at e <;> omega)
  replace hr2 := cl_st hr2 ew3 (by intro e; simp at e <;> omega)
  replace kp := kp.stN ew3 (by first | (left; simp; done) | (right; left; simp; done) | (right; right; dsimp only; omega))
  generalize ew4 : World.setCell w3 _ _ = w4
  have sz4 := sz_st2 ew4
  replace zc0 := fz_st zc0 ew4
  replace zc1 := fz_st zc1 ew4
  replace zr0 := fz_st zr0 ew4
  replace zr1 := fz_st zr1 ew4
  replace zr2 := fz_st zr2 ew4
  replace hc0 := cl_st hc0 ew4 (by intro e; simp at e <;> omega)
  replace hc1 := cl_st hc1 ew4 (by intro e; simp at e <;> omega)
  replace hr0 := cl_st hr0 ew4 (by intro e; simp at e <;> omega)
  replace hr1 := cl_st' hr1 ew4
  replace hr2 := cl_st hr2 ew4 (by intro e; simp at e <;> omega)
  replace kp := kp.stN ew4 (by first | (left; simp; done) | (right; left; simp; done) | (right; right; dsimp only; omega))
  generalize ew5 : World.setCell w4 _ _ = w5
  have sz5 := sz_st2 ew5
  replace zc0 := fz_st zc0 ew5
  replace zc1 := fz_st zc1 ew5
  replace zr0 := fz_st zr0 ew5
  replace zr1 := fz_st zr1 ew5
  replace zr2 := fz_st zr2 ew5
  replace hc0 := cl_st hc0 ew5 (by intro e; simp at e <;> omega)
  replace hc1 := cl_st hc1 ew5 (by intro e; simp at e <;> omega)
  replace hr0 := cl_st hr0 ew5 (by intro e; simp at e <;> omega)
  replace hr1 := cl_st hr1 ew5 (by intro e; simp at e <;> omega)
  replace hr2 := cl_st' hr2 ew5
  replace kp := kp.stN ew5 (by first | (left; simp; done) | (right; left; simp; done) | (right; right; dsimp only; omega))
  refine F.re ?_
  refine F.ctl (fun _ => stepG_ret') ?_
  refine F.leaveE (v := .agg #[.int .i64 1, .int .i64 0, .int .i64 0]) rfl rfl Tryz.func20 (fun d => ?_) (fun d es hes => DX.still _ (fun e he => ?_)) ?_
  · simp [results, go_sem, *]
  · have hm := hes e he
    simp [results, go_sem, *] at hm
    rcases hm with rfl | rfl | rfl <;> exact evr (w := w5) (by assumption) (by first | assumption | (refine hfr _ _ ?_; dsimp only; omega))
  exact hc _ _ ⟨rfl, kp⟩

theorem turnK_x (st : Int) (ta : Option Addr) (n cap k : Nat) (T : Nat → Nat → Int) (w0 : World) (tat : TurnsAt w0 ta n T) (hrd : 0 < n → ∀ p : Addr, ta = some p → ∀ a : Addr, a.block = p.block → Ok a false) (hfr : ∀ a wr, w0.heap.size ≤ a.block → Ok a wr) :
    CallsX Tryz.prog main (DX Ok) 20 #[.agg #[.int .i64 st, .slice ta n cap], .int .i64 k] w0 fun v w' => v = .agg #[.int .i64 (turnK T n k 0), .int .i64 (turnK T n k 1), .int .i64 (turnK T n k 2)] ∧ Kp [] w0 w' := by
  by_cases hk : k < n
  · obtain ⟨tb, o, rfl, hj⟩ := tat k hk
    have e0 : ∀ j, turnK T n k j = T k j := fun j => if_pos hk
    simp only [e0]
    exact turnG_x 0 st tb o n cap k _ _ _ w0 (by omega) (by omega) (by omega) (by omega) (hj 0 (by decide)) (hj 1 (by decide)) (hj 2 (by decide)) (hrd (by omega) _ rfl) hfr
  · have e0 : turnK T n k 0 = 1 := by simp [turnK, hk]
    have e1 : turnK T n k 1 = 0 := by simp [turnK, hk]
    have e2 : turnK T n k 2 = 0 := by simp [turnK, hk]
    rw [e0, e1, e2]
    exact turnP_x st ta n cap k w0 (by omega) (by omega) hfr

set_option maxRecDepth 100000 in
set_option maxHeartbeats 4000000 in
theorem runE_x (Lv Cv : Value) (e1 at1 : Int) (he : ¬ e1 = 0) (w0 : World) (hfr : ∀ a wr, w0.heap.size ≤ a.block → Ok a wr) (hchk : ∀ w, Kp [] w0 w → CallsX Tryz.prog main (DX Ok) 16 #[Lv, Cv] w fun v w' => v = .tuple #[.int .i64 e1, .int .i64 at1] ∧ Kp [] w w') :
    CallsX Tryz.prog main (DX Ok) 24 #[Lv, Cv] w0 fun v w' => v = .tuple #[.agg #[.slice none 0 0, .slice none 0 0], .int .i64 e1, .int .i64 at1] ∧ Kp [] w0 w' := by
  intro Ψ F c cs hc
  have he1 : (e1 != 0) = true := by simpa using he
  rw [enter_at _ Tryz.func24 rfl]
  simp only [Tryz.ntmps24, List.size_toArray, List.length_cons, List.length_nil, Nat.reduceAdd, Nat.reduceSub, Array.replicate_succ, Array.replicate_zero, List.push_toArray, List.append_toArray, List.nil_append, List.cons_append]
  refine F.sr ?_
  simp only [rg, Nat.reduceAdd]
  refine F.op rfl rfl (by decide) (fun d K hK => ?_)
  go_simp
  rw [alloc_at']
  refine hK _ _ ⟨DX.alloc _ _ (fun e he => ?_), ?_⟩
  · have hm := mem_listed he
    simp [go_sem] at hm
  clear hK K d
  try walk_nrm
  generalize ew1 : World.alloc w0 _ = w1
  generalize hn1 : (World.heap w0).size = n1
  have sz1 := sz_al2 ew1 hn1
  have hr0 := cl_new (i := 0) ew1 hn1 rfl
  have zr0 := fz_new ew1 hn1 0
  have hr1 := cl_new (i := 1) ew1 hn1 rfl
  have zr1 := fz_new ew1 hn1 1
  try simp only [List.getElem_toArray, List.getElem_cons_zero, List.getElem_cons_succ] at hr0 hr1
  have kp : Kp [] w0 w0 [] := Kp.refl _
  replace kp := kp.alN ew1
  iterate 2 (refine F.oq rfl rfl rfl (by simp [go_sem]) fun d K h => ?_; go_simp; refine h _ ?_; clear h K d; try walk_nrm)
  refine F.es ?_
  refine F.sr ?_
  simp only [rg, Nat.reduceAdd]
  iterate 2 (refine F.oq rfl rfl rfl (by simp [go_sem]) fun d K h => ?_; go_simp; refine h _ ?_; clear h K d; try walk_nrm)
  refine F.enter rfl rfl (by decide) (fun _ => run_call_body rfl Tryz.func16 (by rfl) (by rfl)) (fun _ => events_call_body rfl Tryz.func16 (by rfl) (by rfl) _) ?_
  walk_nrm
  refine hchk w1 kp _ F _ _ (fun v w2 hp => ?_)
  obtain ⟨rfl, k1⟩ := hp
  replace zr0 := (Kp.frozC k1 _ _ (by simp only [List.mem_cons, List.not_mem_nil, or_false, not_or]; first | omega | simp_all | (refine ⟨?_, ?_⟩ <;> first | omega | assumption) | assumption) (by first | (simp; done) | (simp; omega)) hr0).trans zr0
  replace zr1 := (Kp.frozC k1 _ _ (by simp only [List.mem_cons, List.not_mem_nil, or_false, not_or]; first | omega | simp_all | (refine ⟨?_, ?_⟩ <;> first | omega | assumption) | assumption) (by first | (simp; done) | (simp; omega)) hr1).trans zr1
  replace hr0 := Kp.cellC k1 _ _ (by simp only [List.mem_cons, List.not_mem_nil, or_false, not_or]; first | omega | simp_all | (refine ⟨?_, ?_⟩ <;> first | omega | assumption) | assumption) (by first | (simp; done) | (simp; omega)) hr0
  replace hr1 := Kp.cellC k1 _ _ (by simp only [List.mem_cons, List.not_mem_nil, or_false, not_or]; first | omega | simp_all | (refine ⟨?_, ?_⟩ <;> first | omega | assumption) | assumption) (by first | (simp; done) | (simp; omega)) hr1
  replace kp := kp.callN (k1) (by intro x hx; first | (exact absurd hx List.not_mem_nil) | (simp at hx; first | (left; simp [hx]; done) | (right; omega) | (rcases hx with rfl | hx <;> first | (left; simp; done) | (left; simp [hx]; done) | (right; omega)))) (by intro x hx; simp at hx; try (subst hx); first | (left; simp; done) | (right; left; simp; done) | (right; right; dsimp only; omega))
  have lr : w0.heap.size ≤ n1 ∧ n1 < w2.heap.size := ⟨by omega, lt_of_cell hr0⟩
  clear hn1 sz1 ew1 k1
  rw [Frame.finish_at]
  try walk_nrm
  iterate 5 (refine F.oq rfl rfl rfl (by simp [go_sem]) fun d K h => ?_; go_simp; refine h _ ?_; clear h K d; try walk_nrm)
  refine F.esr ?_
  simp only [rg, Nat.reduceAdd]
  iterate 2 (refine F.oq rfl rfl rfl (by simp [go_sem]) fun d K h => ?_; go_simp; refine h _ ?_; clear h K d; try walk_nrm)
  refine F.re ?_
  refine F.ct rfl ?_
  refine F.sr ?_
  simp only [rg, Nat.reduceAdd]
  iterate 3 (refine F.oq rfl rfl rfl (by simp [go_sem]) fun d K h => ?_; go_simp; refine h _ ?_; clear h K d; try walk_nrm)
  refine F.op rfl rfl (by decide) (fun d K hK => ?_)
  go_simp
  repeat rw [setCell_at']
  refine hK _ _ ⟨DX.set2 _ (by (first | assumption | exact hrb _ rfl | (apply hfr <;> dsimp only <;> omega))) (by (first | assumption | exact hrb _ rfl | (apply hfr <;> dsimp only <;> omega))) (fun e he => ?_), ?_⟩
  · have hm := mem_listed he
    simp [go_sem, storedEv, evst_slice, evst_ptr, evst_iface, evst_nil, evst_bool, *] at hm
    rcases hm with rfl | rfl <;> exact .inl ⟨_, rfl, rfl, by (first | assumption | exact hrb _ rfl | (apply hfr <;> dsimp only <;> omega)), by simp only [size_at, size_set]; first | omega | exact lt_of_cell (by assumption)⟩
  clear hK K d
  try walk_nrm
  generalize ew3 : World.setCell w2 _ _ = w3
  have sz3 := sz_st2 ew3
  replace zr0 := fz_st zr0 ew3
  replace zr1 := fz_st zr1 ew3
  replace hr0 := cl_st' hr0 ew3
  replace hr1 := cl_st hr1 ew3 (by intro e; simp at e <;> omega)
  replace kp := kp.stN ew3 (by first | (left; simp; done) | (right; left; simp; done) | (right; right; dsimp only; omega))
  generalize ew4 : World.setCell w3 _ _ = w4
  have sz4 := sz_st2 ew4
  replace zr0 := fz_st zr0 ew4
  replace zr1 := fz_st zr1 ew4
  replace hr0 := cl_st hr0 ew4 (by intro e; simp at e <;> omega)
  replace hr1 := cl_st' hr1 ew4
  replace kp := kp.stN ew4 (by first | (left; simp; done) | (right; left; simp; done) | (right; right; dsimp only; omega))
  iterate 2 (refine F.oq rfl rfl rfl (by simp [go_sem]) fun d K h => ?_; go_simp; refine h _ ?_; clear h K d; try walk_nrm)
  refine F.re ?_
  refine F.ctl (fun _ => stepG_ret') ?_
  refine F.leaveE (v := .tuple #[.agg #[.slice none 0 0, .slice none 0 0], .int .i64 e1, .int .i64 at1]) rfl rfl Tryz.func24 (fun d => ?_) (fun d es hes => DX.still _ (fun e he => ?_)) ?_
  · simp [results, go_sem, *]
  · have hm := hes e he
    simp [results, go_sem, *] at hm
    rcases hm with rfl | rfl <;> exact evr (w := w4) (by assumption) (by first | assumption | (refine hfr _ _ ?_; dsimp only; omega))
  exact hc _ _ ⟨rfl, kp⟩
end

end Go.Proofs.YtobagnjnbmgidaaGreatDoor
