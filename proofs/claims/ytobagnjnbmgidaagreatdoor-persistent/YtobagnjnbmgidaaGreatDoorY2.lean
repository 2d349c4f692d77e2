/- The backend's next turn, wherever the turns lie. -/
import Derived.Test.YtobagnjnbmgidaaGreatDoorX8
import Derived.Test.YtobagnjnbmgidaaGreatDoorX33
set_option linter.unusedSimpArgs false
set_option linter.unusedVariables false
namespace Go.Proofs.YtobagnjnbmgidaaGreatDoor
open Go.Conc Go.RowKit
variable {main : Bool} {Ok : Addr → Bool → Prop}

set_option maxRecDepth 100000 in
set_option maxHeartbeats 2000000 in
theorem nextG_x (N bk hd cb tb o k n cap : Nat) (t0 t1 t2 : Int) (w0 : World) (hk : (k : Int) < (n : Int)) (hk0 : (0 : Int) ≤ (k : Int)) (hwr : IntKind.i64.wrap ((k : Int) + 1) = k + 1) (hN : N ≤ w0.heap.size) (lb : bk < N) (lh : hd < N) (lc : cb < N) (lt : tb < N) (hne : bk ≠ hd) (hne2 : cb ≠ hd) (hne3 : tb ≠ hd)
    (h4 : w0.cell? ⟨bk, 4, none⟩ = some (.slice (some ⟨hd, 0, none⟩) 1 1)) (h3 : w0.cell? ⟨bk, 3, none⟩ = some (.slice (some ⟨cb, 0, none⟩) 1 1)) (hh : w0.cell? ⟨hd, 0, none⟩ = some (.int .i64 k)) (zh : w0.frozen? ⟨hd, 0, none⟩ = false)
    (hc1 : w0.cell? ⟨cb, 1, none⟩ = some (.slice (some ⟨tb, o, none⟩) n cap)) (ht0 : w0.cell? ⟨tb, o + k * 3, none⟩ = some (.int .i64 t0)) (ht1 : w0.cell? ⟨tb, o + k * 3 + 1, none⟩ = some (.int .i64 t1)) (ht2 : w0.cell? ⟨tb, o + k * 3 + 2, none⟩ = some (.int .i64 t2))
    (hok : ∀ a wr, a.block = bk ∨ a.block = hd ∨ a.block = cb → Ok a wr) (hrb : ∀ a : Addr, a.block = tb → Ok a false) (hfr : ∀ a wr, N ≤ a.block → Ok a wr) :
    CallsX Tryz.prog main (DX Ok) 147 #[.pointer (some ⟨bk, 0, none⟩), .int .i64 0] w0 fun v w' => v = .tuple #[.int .i64 k, .agg #[.int .i64 t0, .int .i64 t1, .int .i64 t2]] ∧ Kp [hd] w0 w' ∧ w'.cell? ⟨hd, 0, none⟩ = some (.int .i64 (k + 1)) ∧ w'.frozen? ⟨hd, 0, none⟩ = false := by
  intro Ψ F c cs hc
  have a1 := addN tb o (k * 3)
  rw [enter_at _ Tryz.func147 rfl]
  simp only [Tryz.ntmps147, List.size_toArray, List.length_cons, List.length_nil, Nat.reduceAdd, Nat.reduceSub, Array.replicate_succ, Array.replicate_zero, List.push_toArray, List.append_toArray, List.nil_append, List.cons_append]
  refine F.sr ?_
  simp only [rg, Nat.reduceAdd]
  refine F.oq rfl rfl rfl (fun _ => by simp [go_sem]) fun d K hK => ?_; go_simp; refine hK _ ?_; clear hK K d; try walk_nrm
  refine F.op rfl rfl (by decide) (fun d K hK => ?_)
  go_simp
  rw [alloc_at']
  refine hK _ _ ⟨DX.alloc _ _ (fun e he => ?_), ?_⟩
  · have hm := mem_listed he
    simp [go_sem] at hm
  clear hK K d
  try walk_nrm
  generalize ew1 : World.alloc w0 _ = w1
  generalize hn1 : (World.heap w0).size = n1
  have sz1 := sz_al2 ew1 hn1
  replace zh := fz_al zh hh ew1
  replace h4 := cl_al h4 ew1
  replace h3 := cl_al h3 ew1
  replace hh := cl_al hh ew1
  replace hc1 := cl_al hc1 ew1
  replace ht0 := cl_al ht0 ew1
  replace ht1 := cl_al ht1 ew1
  replace ht2 := cl_al ht2 ew1
  have hr0 := cl_new (i := 0) ew1 hn1 rfl
  have zr0 := fz_new ew1 hn1 0
  have hr1 := cl_new (i := 1) ew1 hn1 rfl
  have zr1 := fz_new ew1 hn1 1
  have hr2 := cl_new (i := 2) ew1 hn1 rfl
  have zr2 := fz_new ew1 hn1 2
  try simp only [List.getElem_toArray, List.getElem_cons_zero, List.getElem_cons_succ] at hr0 hr1 hr2
  have kp : Kp [hd] w0 w0 [] := Kp.refl _
  replace kp := kp.alN ew1
  refine F.esr ?_
  simp only [rg, Nat.reduceAdd]
  iterate 3 (refine F.oq rfl rfl rfl (fun _ => by simp [go_sem]) fun d K hK => ?_; go_simp; refine hK _ ?_; clear hK K d; try walk_nrm)
  refine F.ol rfl rfl rfl fun d K hK => ?_
  go_simp
  refine hK _ (fun e hm => ?_) ?_
  · simp [go_sem, *] at hm
    subst hm
    exact evr (w := w1) (by assumption) (by first | assumption | exact hrb _ rfl | (apply hfr <;> dsimp only <;> omega) | (apply hok; simp; done))
  clear hK K d
  try walk_nrm
  iterate 2 (refine F.oq rfl rfl rfl (fun _ => by simp [go_sem]) fun d K hK => ?_; go_simp; refine hK _ ?_; clear hK K d; try walk_nrm)
  refine F.ol rfl rfl rfl fun d K hK => ?_
  go_simp
  refine hK _ (fun e hm => ?_) ?_
  · simp [go_sem, *] at hm
    subst hm
    exact evr (w := w1) (by assumption) (by first | assumption | exact hrb _ rfl | (apply hfr <;> dsimp only <;> omega) | (apply hok; simp; done))
  clear hK K d
  try walk_nrm
  refine F.oq rfl rfl rfl (fun _ => by simp [go_sem]) fun d K hK => ?_; go_simp; refine hK _ ?_; clear hK K d; try walk_nrm
  refine F.esr ?_
  simp only [rg, Nat.reduceAdd]
  iterate 3 (refine F.oq rfl rfl rfl (fun _ => by simp [go_sem]) fun d K hK => ?_; go_simp; refine hK _ ?_; clear hK K d; try walk_nrm)
  refine F.ol rfl rfl rfl fun d K hK => ?_
  go_simp
  refine hK _ (fun e hm => ?_) ?_
  · simp [go_sem, *] at hm
    subst hm
    exact evr (w := w1) (by assumption) (by first | assumption | exact hrb _ rfl | (apply hfr <;> dsimp only <;> omega) | (apply hok; simp; done))
  clear hK K d
  try walk_nrm
  iterate 2 (refine F.oq rfl rfl rfl (fun _ => by simp [go_sem]) fun d K hK => ?_; go_simp; refine hK _ ?_; clear hK K d; try walk_nrm)
  refine F.ol rfl rfl rfl fun d K hK => ?_
  go_simp
  refine hK _ (fun e hm => ?_) ?_
  · simp [go_sem, *] at hm
    subst hm
    exact evr (w := w1) (by assumption) (by first | assumption | exact hrb _ rfl | (apply hfr <;> dsimp only <;> omega) | (apply hok; simp; done))
  clear hK K d
  try walk_nrm
  iterate 2 (refine F.oq rfl rfl rfl (fun _ => by simp [go_sem]) fun d K hK => ?_; go_simp; refine hK _ ?_; clear hK K d; try walk_nrm)
  refine F.op rfl rfl (by decide) (fun d K hK => ?_)
  go_simp
  rw [setCell_at']
  refine hK _ _ ⟨DX.set _ (by (first | assumption | exact hrb _ rfl | (apply hfr <;> dsimp only <;> omega) | (apply hok; simp; done))) (fun e he => ?_), ?_⟩
  · have hm := mem_listed he
    simp [go_sem, storedEv, evst_slice, evst_ptr, evst_iface, evst_nil, evst_bool, *] at hm
    subst hm
    exact .inl ⟨_, rfl, rfl, by (first | assumption | exact hrb _ rfl | (apply hfr <;> dsimp only <;> omega) | (apply hok; simp; done)), by simp only [size_at, size_set]; first | omega | exact lt_of_cell (by assumption)⟩
  clear hK K d
  try walk_nrm
  generalize ew2 : World.setCell w1 _ _ = w2
  have sz2 := sz_st2 ew2
  replace zh := fz_st zh ew2
  replace zr0 := fz_st zr0 ew2
  replace zr1 := fz_st zr1 ew2
  replace zr2 := fz_st zr2 ew2
  replace h4 := cl_st h4 ew2 (by intro e; simp at e <;> omega)
  replace h3 := cl_st h3 ew2 (by intro e; simp at e <;> omega)
  replace hh := cl_st' hh ew2
  replace hc1 := cl_st hc1 ew2 (by intro e; simp at e <;> omega)
  replace ht0 := cl_st ht0 ew2 (by intro e; simp at e <;> omega)
  replace ht1 := cl_st ht1 ew2 (by intro e; simp at e <;> omega)
  replace ht2 := cl_st ht2 ew2 (by intro e; simp at e <;> omega)
  replace hr0 := cl_st hr0 ew2 (by intro e; simp at e <;> omega)
  replace hr1 := cl_st hr1 ew2 (by intro e; simp at e <;> omega)
  replace hr2 := cl_st hr2 ew2 (by intro e; simp at e <;> omega)
  replace kp := kp.stN ew2 (by first | (left; simp; done) | (right; left; simp; done) | (right; right; dsimp only; omega))
  refine F.es ?_
  refine F.sr ?_
  simp only [rg, Nat.reduceAdd]
  iterate 3 (refine F.oq rfl rfl rfl (fun _ => by simp [go_sem]) fun d K hK => ?_; go_simp; refine hK _ ?_; clear hK K d; try walk_nrm)
  refine F.ol rfl rfl rfl fun d K hK => ?_
  go_simp
  refine hK _ (fun e hm => ?_) ?_
  · simp [go_sem, *] at hm
    subst hm
    exact evr (w := w2) (by assumption) (by first | assumption | exact hrb _ rfl | (apply hfr <;> dsimp only <;> omega) | (apply hok; simp; done))
  clear hK K d
  try walk_nrm
  iterate 3 (refine F.oq rfl rfl rfl (fun _ => by simp [go_sem]) fun d K hK => ?_; go_simp; refine hK _ ?_; clear hK K d; try walk_nrm)
  refine F.ol rfl rfl rfl fun d K hK => ?_
  go_simp
  refine hK _ (fun e hm => ?_) ?_
  · simp [go_sem, *] at hm
    subst hm
    exact evr (w := w2) (by assumption) (by first | assumption | exact hrb _ rfl | (apply hfr <;> dsimp only <;> omega) | (apply hok; simp; done))
  clear hK K d
  try walk_nrm
  refine F.oq rfl rfl rfl (fun _ => by simp [go_sem]) fun d K hK => ?_; go_simp; refine hK _ ?_; clear hK K d; try walk_nrm
  refine F.esr ?_
  simp only [rg, Nat.reduceAdd]
  iterate 4 (refine F.oq rfl rfl rfl (fun _ => by simp [go_sem]) fun d K hK => ?_; go_simp; refine hK _ ?_; clear hK K d; try walk_nrm)
  refine F.re ?_
  refine F.ct rfl ?_
  refine F.sq ?_
  refine F.drawB (γ := Unit) (n := 7) mixed [[], [], [], [1, 2], [3], [0], [0, 1, 2, 3, 4, 5]] rfl (by kernel_rfl) (fun b g => [(36, sel (b 0) (.int .i64 k) (undef)), (37, sel (b 1) (.slice (some ⟨tb, o, none⟩) n cap) (undef)), (38, sel (b 2) (.int .i64 k) (undef)), (39, sel (b 3) (.pointer (some ⟨tb, o + k * 3, none⟩)) (undef)), (40, sel (b 4) (.agg #[.int .i64 t0, .int .i64 t1, .int .i64 t2]) (undef)), (4, sel (b 5) (.int .i64 k) (.int .i64 0))]) (fun b g w => (b 6 = false → w = w2) ∧ (b 6 = true → ( Kp [hd] w0 w ∧ w.cell? ⟨hd, 0, none⟩ = some (.int .i64 (k + 1)) ∧ w.frozen? ⟨hd, 0, none⟩ = false ∧ w.cell? ⟨n1, 0, none⟩ = some (.int .i64 t0) ∧ w.cell? ⟨n1, 1, none⟩ = some (.int .i64 t1) ∧ w.cell? ⟨n1, 2, none⟩ = some (.int .i64 t2)))) (()) (by simp only [pu, Nat.reduceAdd, Nat.reduceEqDiff, reduceIte]) (⟨fun _ => rfl, fun h => by cases h⟩) (all_cons ?_ (all_cons ?_ (all_cons ?_ (all_cons ?_ (all_cons ?_ (all_cons ?_ (all_cons ?_ (all_nil)))))))) ?_
  · intro b g w hI hcl hbi hdp rest hre hkk
    obtain ⟨hwf, hwt⟩ := hI
    replace hbi : b 0 = false := hbi
    have nb5 := nbf (hcl 5 0 rfl) hbi
    have nb6 := nbf (hcl 6 0 rfl) hbi
    have ewc := (hwf nb6).symm
    subst ewc
    simp only [nb5, nb6, hbi, pu, Nat.reduceAdd, Nat.reduceEqDiff, reduceIte]
    refine F.oq rfl rfl rfl (fun _ => by simp [go_sem]) fun d K hK => ?_; go_simp; refine hK _ ?_; clear hK K d; try walk_nrm
    have hk2 := hkk g _ ⟨fun _ => rfl, fun h => no nb6 h⟩
    simp only [nb5, nb6, hbi, pu, Nat.reduceAdd, Nat.reduceEqDiff, reduceIte] at hk2
    exact hk2
  · intro b g w hI hcl hbi hdp rest hre hkk
    obtain ⟨hwf, hwt⟩ := hI
    replace hbi : b 1 = false := hbi
    have nb3 := nbf (hcl 3 1 rfl) hbi
    have nb6 := nbf (hcl 6 1 rfl) hbi
    have ewc := (hwf nb6).symm
    subst ewc
    simp only [nb3, nb6, hbi, pu, Nat.reduceAdd, Nat.reduceEqDiff, reduceIte]
    refine F.oq rfl rfl rfl (fun _ => by simp [go_sem]) fun d K hK => ?_; go_simp; refine hK _ ?_; clear hK K d; try walk_nrm
    have hk2 := hkk g _ ⟨fun _ => rfl, fun h => no nb6 h⟩
    simp only [nb3, nb6, hbi, pu, Nat.reduceAdd, Nat.reduceEqDiff, reduceIte] at hk2
    exact hk2
  · intro b g w hI hcl hbi hdp rest hre hkk
    obtain ⟨hwf, hwt⟩ := hI
    replace hbi : b 2 = false := hbi
    have nb3 := nbf (hcl 3 2 rfl) hbi
    have nb6 := nbf (hcl 6 2 rfl) hbi
    have ewc := (hwf nb6).symm
    subst ewc
    simp only [nb3, nb6, hbi, pu, Nat.reduceAdd, Nat.reduceEqDiff, reduceIte]
    refine F.oq rfl rfl rfl (fun _ => by simp [go_sem]) fun d K hK => ?_; go_simp; refine hK _ ?_; clear hK K d; try walk_nrm
    have hk2 := hkk g _ ⟨fun _ => rfl, fun h => no nb6 h⟩
    simp only [nb3, nb6, hbi, pu, Nat.reduceAdd, Nat.reduceEqDiff, reduceIte] at hk2
    exact hk2
  · intro b g w hI hcl hbi hdp rest hre hkk
    obtain ⟨hwf, hwt⟩ := hI
    replace hbi : b 3 = false := hbi
    have d1 := hdp 1 rfl
    have d2 := hdp 2 rfl
    have nb4 := nbf (hcl 4 3 rfl) hbi
    have nb6 := nbf (hcl 6 3 rfl) hbi
    have ewc := (hwf nb6).symm
    subst ewc
    simp only [d1, d2, nb4, nb6, hbi, pu, Nat.reduceAdd, Nat.reduceEqDiff, reduceIte]
    refine F.oq rfl rfl rfl (fun _ => by first | (simp [go_sem]; done) | simp [go_sem, Instr.makeInterface, Instr.makeFunc, *]) fun d K hK => ?_; go_simp; refine hK _ ?_; clear hK K d; try walk_nrm
    have hk2 := hkk g _ ⟨fun _ => rfl, fun h => no nb6 h⟩
    simp only [d1, d2, nb4, nb6, hbi, pu, Nat.reduceAdd, Nat.reduceEqDiff, reduceIte] at hk2
    exact hk2
  · intro b g w hI hcl hbi hdp rest hre hkk
    obtain ⟨hwf, hwt⟩ := hI
    replace hbi : b 4 = false := hbi
    have d3 := hdp 3 rfl
    have d1 := hcl 3 1 rfl d3
    have d2 := hcl 3 2 rfl d3
    have nb6 := nbf (hcl 6 4 rfl) hbi
    have ewc := (hwf nb6).symm
    subst ewc
    simp only [d3, d1, d2, nb6, hbi, pu, Nat.reduceAdd, Nat.reduceEqDiff, reduceIte]
    refine F.ol rfl rfl rfl fun d K hK => ?_
    go_simp
    refine hK _ (fun e hm => ?_) ?_
    · simp [go_sem, *] at hm
      rcases hm with rfl | rfl | rfl <;> exact evr (w := w2) (by assumption) (by first | assumption | exact hrb _ rfl | (apply hfr <;> dsimp only <;> omega) | (apply hok; simp; done))
    clear hK K d
    try walk_nrm
    have hk2 := hkk g _ ⟨fun _ => rfl, fun h => no nb6 h⟩
    simp only [d3, d1, d2, nb6, hbi, pu, Nat.reduceAdd, Nat.reduceEqDiff, reduceIte] at hk2
    exact hk2
  · intro b g w hI hcl hbi hdp rest hre hkk
    obtain ⟨hwf, hwt⟩ := hI
    replace hbi : b 5 = false := hbi
    have d0 := hdp 0 rfl
    have nb6 := nbf (hcl 6 5 rfl) hbi
    have ewc := (hwf nb6).symm
    subst ewc
    simp only [d0, nb6, hbi, pu, Nat.reduceAdd, Nat.reduceEqDiff, reduceIte]
    refine F.oq rfl rfl rfl (fun _ => by simp [go_sem]) fun d K hK => ?_; go_simp; refine hK _ ?_; clear hK K d; try walk_nrm
    have hk2 := hkk g _ ⟨fun _ => rfl, fun h => no nb6 h⟩
    simp only [d0, nb6, hbi, pu, Nat.reduceAdd, Nat.reduceEqDiff, reduceIte] at hk2
    exact hk2
  · intro b g w hI hcl hbi hdp rest hre hkk
    obtain ⟨hwf, hwt⟩ := hI
    replace hbi : b 6 = false := hbi
    have d0 := hdp 0 rfl
    have d1 := hdp 1 rfl
    have d2 := hdp 2 rfl
    have d3 := hdp 3 rfl
    have d4 := hdp 4 rfl
    have d5 := hdp 5 rfl
    have ewc := (hwf hbi).symm
    subst ewc
    simp only [d0, d1, d2, d3, d4, d5, hbi, pu, Nat.reduceAdd, Nat.reduceEqDiff, reduceIte]
    refine F.op rfl rfl (by decide) (fun d K hK => ?_)
    go_simp
    repeat rw [setCell_at']
    refine hK _ _ ⟨DX.set3 _ (by (first | assumption | exact hrb _ rfl | (apply hfr <;> dsimp only <;> omega) | (apply hok; simp; done))) (by (first | assumption | exact hrb _ rfl | (apply hfr <;> dsimp only <;> omega) | (apply hok; simp; done))) (by (first | assumption | exact hrb _ rfl | (apply hfr <;> dsimp only <;> omega) | (apply hok; simp; done))) (fun e he => ?_), ?_⟩
    · have hm := mem_listed he
      simp [go_sem, storedEv, evst_slice, evst_ptr, evst_iface, evst_nil, evst_bool, *] at hm
      rcases hm with rfl | rfl | rfl <;> exact .inl ⟨_, rfl, rfl, by (first | assumption | exact hrb _ rfl | (apply hfr <;> dsimp only <;> omega) | (apply hok; simp; done)), by simp only [size_at, size_set]; first | omega | exact lt_of_cell (by assumption)⟩
    clear hK K d
    try walk_nrm
    generalize ew3 : World.setCell w2 _ _ = w3
    have sz3 := sz_st2 ew3
    replace zh := fz_st zh ew3
    replace zr0 := fz_st zr0 ew3
    replace zr1 := fz_st zr1 ew3
    replace zr2 := fz_st zr2 ew3
    replace h4 := cl_st h4 ew3 (by intro e; simp at e <;> omega)
    replace h3 := cl_st h3 ew3 (by intro e; simp at e <;> omega)
    replace hh := cl_st hh ew3 (by intro e; simp at e <;> omega)
    replace hc1 := cl_st hc1 ew3 (by intro e; simp at e <;> omega)
    replace ht0 := cl_st ht0 ew3 (by intro e; simp at e <;> omega)
    replace ht1 := cl_st ht1 ew3 (by intro e; simp at e <;> omega)
    replace ht2 := cl_st ht2 ew3 (by intro e; simp at e <;> omega)
    replace hr0 := cl_st' hr0 ew3
    replace hr1 := cl_st hr1 ew3 (by intro e; simp at e <;> omega)
    replace hr2 := cl_st hr2 ew3 (by intro e; simp at e <;> omega)
    replace kp := kp.stN ew3 (by first | (left; simp; done) | (right; left; simp; done) | (right; right; dsimp only; omega))
    generalize ew4 : World.setCell w3 _ _ = w4
    have sz4 := sz_st2 ew4
    replace zh := fz_st zh ew4
    replace zr0 := fz_st zr0 ew4
    replace zr1 := fz_st zr1 ew4
    replace zr2 := fz_st zr2 ew4
    replace h4 := cl_st h4 ew4 (by intro e; simp at e <;> omega)
    replace h3 := cl_st h3 ew4 (by intro e; simp at e <;> omega)
    replace hh := cl_st hh ew4 (by intro e; simp at e <;> omega)
    replace hc1 := cl_st hc1 ew4 (by intro e; simp at e <;> omega)
    replace ht0 := cl_st ht0 ew4 (by intro e; simp at e <;> omega)
    replace ht1 := cl_st ht1 ew4 (by intro e; simp at e <;> omega)
    replace ht2 := cl_st ht2 ew4 (by intro e; simp at e <;> omega)
    replace hr0 := cl_st hr0 ew4 (by intro e; simp at e <;> omega)
    replace hr1 := cl_st' hr1 ew4
    replace hr2 := cl_st hr2 ew4 (by intro e; simp at e <;> omega)
    replace kp := kp.stN ew4 (by first | (left; simp; done) | (right; left; simp; done) | (right; right; dsimp only; omega))
    generalize ew5 : World.setCell w4 _ _ = w5
    have sz5 := sz_st2 ew5
    replace zh := fz_st zh ew5
    replace zr0 := fz_st zr0 ew5
    replace zr1 := fz_st zr1 ew5
    replace zr2 := fz_st zr2 ew5
    replace h4 := cl_st h4 ew5 (by intro e; simp at e <;> omega)
    replace h3 := cl_st h3 ew5 (by intro e; simp at e <;> omega)
    replace hh := cl_st hh ew5 (by intro e; simp at e <;> omega)
    replace hc1 := cl_st hc1 ew5 (by intro e; simp at e <;> omega)
    replace ht0 := cl_st ht0 ew5 (by intro e; simp at e <;> omega)
    replace ht1 := cl_st ht1 ew5 (by intro e; simp at e <;> omega)
    replace ht2 := cl_st ht2 ew5 (by intro e; simp at e <;> omega)
    replace hr0 := cl_st hr0 ew5 (by intro e; simp at e <;> omega)
    replace hr1 := cl_st hr1 ew5 (by intro e; simp at e <;> omega)
    replace hr2 := cl_st' hr2 ew5
    replace kp := kp.stN ew5 (by first | (left; simp; done) | (right; left; simp; done) | (right; right; dsimp only; omega))
    have hk2 := hkk g _ ⟨fun h => by simp [tick] at h, fun _ => ⟨kp, hh, zh, hr0, hr1, hr2⟩⟩
    simp only [d0, d1, d2, d3, d4, d5, hbi, pu, Nat.reduceAdd, Nat.reduceEqDiff, reduceIte] at hk2
    exact hk2
  intro b g w hI hall
  obtain ⟨hwf, hwt⟩ := hI
  simp only [hall 0 (by decide), hall 1 (by decide), hall 2 (by decide), hall 3 (by decide), hall 4 (by decide), hall 5 (by decide), hall 6 (by decide), pu, Nat.reduceAdd, Nat.reduceEqDiff, reduceIte]
  obtain ⟨kp', hh', zh', hr0', hr1', hr2'⟩ := hwt (hall 6 (by decide))
  refine F.re ?_
  refine F.ctl (fun _ => stepG_ret') ?_
  refine F.leaveE (v := .tuple #[.int .i64 k, .agg #[.int .i64 t0, .int .i64 t1, .int .i64 t2]]) rfl rfl Tryz.func147 (fun d => ?_) (fun d es hes => DX.still _ (fun e he => ?_)) ?_
  · simp [results, go_sem, *]
  · have hm := hes e he
    simp [results, go_sem, *] at hm
    rcases hm with rfl | rfl | rfl <;> exact evr (w := w) (by assumption) (by first | assumption | (refine hfr _ _ ?_; dsimp only; omega))
  exact hc _ _ ⟨rfl, kp', hh', zh'⟩

set_option maxRecDepth 100000 in
set_option maxHeartbeats 2000000 in
theorem nextP_x (N bk hd cb k n cap : Nat) (ta : Option Addr) (w0 : World) (hk : ¬ (k : Int) < (n : Int)) (hk0 : (0 : Int) ≤ (k : Int)) (hwr : IntKind.i64.wrap ((k : Int) + 1) = k + 1) (hN : N ≤ w0.heap.size) (lb : bk < N) (lh : hd < N) (lc : cb < N) (hne : bk ≠ hd) (hne2 : cb ≠ hd)
    (h4 : w0.cell? ⟨bk, 4, none⟩ = some (.slice (some ⟨hd, 0, none⟩) 1 1)) (h3 : w0.cell? ⟨bk, 3, none⟩ = some (.slice (some ⟨cb, 0, none⟩) 1 1)) (hh : w0.cell? ⟨hd, 0, none⟩ = some (.int .i64 k)) (zh : w0.frozen? ⟨hd, 0, none⟩ = false)
    (hc1 : w0.cell? ⟨cb, 1, none⟩ = some (.slice ta n cap))
    (hok : ∀ a wr, a.block = bk ∨ a.block = hd ∨ a.block = cb → Ok a wr) (hfr : ∀ a wr, N ≤ a.block → Ok a wr) :
    CallsX Tryz.prog main (DX Ok) 147 #[.pointer (some ⟨bk, 0, none⟩), .int .i64 0] w0 fun v w' => v = .tuple #[.int .i64 k, .agg #[.int .i64 1, .int .i64 0, .int .i64 0]] ∧ Kp [hd] w0 w' ∧ w'.cell? ⟨hd, 0, none⟩ = some (.int .i64 (k + 1)) ∧ w'.frozen? ⟨hd, 0, none⟩ = false := by
  intro Ψ F c cs hc
  rw [enter_at _ Tryz.func147 rfl]
  simp only [Tryz.ntmps147, List.size_toArray, List.length_cons, List.length_nil, Nat.reduceAdd, Nat.reduceSub, Array.replicate_succ, Array.replicate_zero, List.push_toArray, List.append_toArray, List.nil_append, List.cons_append]
  refine F.sr ?_
  simp only [rg, Nat.reduceAdd]
  refine F.oq rfl rfl rfl (fun _ => by simp [go_sem]) fun d K hK => ?_; go_simp; refine hK _ ?_; clear hK K d; try walk_nrm
  refine F.op rfl rfl (by decide) (fun d K hK => ?_)
  go_simp
  rw [alloc_at']
  refine hK _ _ ⟨DX.alloc _ _ (fun e he => ?_), ?_⟩
  · have hm := mem_listed he
    simp [go_sem] at hm
  clear hK K d
  try walk_nrm
  generalize ew1 : World.alloc w0 _ = w1
  generalize hn1 : (World.heap w0).size = n1
  have sz1 := sz_al2 ew1 hn1
  replace zh := fz_al zh hh ew1
  replace h4 := cl_al h4 ew1
  replace h3 := cl_al h3 ew1
  replace hh := cl_al hh ew1
  replace hc1 := cl_al hc1 ew1
  have hr0 := cl_new (i := 0) ew1 hn1 rfl
  have zr0 := fz_new ew1 hn1 0
  have hr1 := cl_new (i := 1) ew1 hn1 rfl
  have zr1 := fz_new ew1 hn1 1
  have hr2 := cl_new (i := 2) ew1 hn1 rfl
  have zr2 := fz_new ew1 hn1 2
  try simp only [List.getElem_toArray, List.getElem_cons_zero, List.getElem_cons_succ] at hr0 hr1 hr2
  have kp : Kp [hd] w0 w0 [] := Kp.refl _
  replace kp := kp.alN ew1
  refine F.esr ?_
  simp only [rg, Nat.reduceAdd]
  iterate 3 (refine F.oq rfl rfl rfl (fun _ => by simp [go_sem]) fun d K hK => ?_; go_simp; refine hK _ ?_; clear hK K d; try walk_nrm)
  refine F.ol rfl rfl rfl fun d K hK => ?_
  go_simp
  refine hK _ (fun e hm => ?_) ?_
  · simp [go_sem, *] at hm
    subst hm
    exact evr (w := w1) (by assumption) (by first | assumption | exact hrb _ rfl | (apply hfr <;> dsimp only <;> omega) | (apply hok; simp; done))
  clear hK K d
  try walk_nrm
  iterate 2 (refine F.oq rfl rfl rfl (fun _ => by simp [go_sem]) fun d K hK => ?_; go_simp; refine hK _ ?_; clear hK K d; try walk_nrm)
  refine F.ol rfl rfl rfl fun d K hK => ?_
  go_simp
  refine hK _ (fun e hm => ?_) ?_
  · simp [go_sem, *] at hm
    subst hm
    exact evr (w := w1) (by assumption) (by first | assumption | exact hrb _ rfl | (apply hfr <;> dsimp only <;> omega) | (apply hok; simp; done))
  clear hK K d
  try walk_nrm
  refine F.oq rfl rfl rfl (fun _ => by simp [go_sem]) fun d K hK => ?_; go_simp; refine hK _ ?_; clear hK K d; try walk_nrm
  refine F.esr ?_
  simp only [rg, Nat.reduceAdd]
  iterate 3 (refine F.oq rfl rfl rfl (fun _ => by simp [go_sem]) fun d K hK => ?_; go_simp; refine hK _ ?_; clear hK K d; try walk_nrm)
  refine F.ol rfl rfl rfl fun d K hK => ?_
  go_simp
  refine hK _ (fun e hm => ?_) ?_
  · simp [go_sem, *] at hm
    subst hm
    exact evr (w := w1) (by assumption) (by first | assumption | exact hrb _ rfl | (apply hfr <;> dsimp only <;> omega) | (apply hok; simp; done))
  clear hK K d
  try walk_nrm
  iterate 2 (refine F.oq rfl rfl rfl (fun _ => by simp [go_sem]) fun d K hK => ?_; go_simp; refine hK _ ?_; clear hK K d; try walk_nrm)
  refine F.ol rfl rfl rfl fun d K hK => ?_
  go_simp
  refine hK _ (fun e hm => ?_) ?_
  · simp [go_sem, *] at hm
    subst hm
    exact evr (w := w1) (by assumption) (by first | assumption | exact hrb _ rfl | (apply hfr <;> dsimp only <;> omega) | (apply hok; simp; done))
  clear hK K d
  try walk_nrm
  iterate 2 (refine F.oq rfl rfl rfl (fun _ => by simp [go_sem]) fun d K hK => ?_; go_simp; refine hK _ ?_; clear hK K d; try walk_nrm)
  refine F.op rfl rfl (by decide) (fun d K hK => ?_)
  go_simp
  rw [setCell_at']
  refine hK _ _ ⟨DX.set _ (by (first | assumption | exact hrb _ rfl | (apply hfr <;> dsimp only <;> omega) | (apply hok; simp; done))) (fun e he => ?_), ?_⟩
  · have hm := mem_listed he
    simp [go_sem, storedEv, evst_slice, evst_ptr, evst_iface, evst_nil, evst_bool, *] at hm
    subst hm
    exact .inl ⟨_, rfl, rfl, by (first | assumption | exact hrb _ rfl | (apply hfr <;> dsimp only <;> omega) | (apply hok; simp; done)), by simp only [size_at, size_set]; first | omega | exact lt_of_cell (by assumption)⟩
  clear hK K d
  try walk_nrm
  generalize ew2 : World.setCell w1 _ _ = w2
  have sz2 := sz_st2 ew2
  replace zh := fz_st zh ew2
  replace zr0 := fz_st zr0 ew2
  replace zr1 := fz_st zr1 ew2
  replace zr2 := fz_st zr2 ew2
  replace h4 := cl_st h4 ew2 (by intro e; simp at e <;> omega)
  replace h3 := cl_st h3 ew2 (by intro e; simp at e <;> omega)
  replace hh := cl_st' hh ew2
  replace hc1 := cl_st hc1 ew2 (by intro e; simp at e <;> omega)
  replace hr0 := cl_st hr0 ew2 (by intro e; simp at e <;> omega)
  replace hr1 := cl_st hr1 ew2 (by intro e; simp at e <;> omega)
  replace hr2 := cl_st hr2 ew2 (by intro e; simp at e <;> omega)
  replace kp := kp.stN ew2 (by first | (left; simp; done) | (right; left; simp; done) | (right; right; dsimp only; omega))
  refine F.es ?_
  refine F.sr ?_
  simp only [rg, Nat.reduceAdd]
  iterate 3 (refine F.oq rfl rfl rfl (fun _ => by simp [go_sem]) fun d K hK => ?_; go_simp; refine hK _ ?_; clear hK K d; try walk_nrm)
  refine F.ol rfl rfl rfl fun d K hK => ?_
  go_simp
  refine hK _ (fun e hm => ?_) ?_
  · simp [go_sem, *] at hm
    subst hm
    exact evr (w := w2) (by assumption) (by first | assumption | exact hrb _ rfl | (apply hfr <;> dsimp only <;> omega) | (apply hok; simp; done))
  clear hK K d
  try walk_nrm
  iterate 3 (refine F.oq rfl rfl rfl (fun _ => by simp [go_sem]) fun d K hK => ?_; go_simp; refine hK _ ?_; clear hK K d; try walk_nrm)
  refine F.ol rfl rfl rfl fun d K hK => ?_
  go_simp
  refine hK _ (fun e hm => ?_) ?_
  · simp [go_sem, *] at hm
    subst hm
    exact evr (w := w2) (by assumption) (by first | assumption | exact hrb _ rfl | (apply hfr <;> dsimp only <;> omega) | (apply hok; simp; done))
  clear hK K d
  try walk_nrm
  refine F.oq rfl rfl rfl (fun _ => by simp [go_sem]) fun d K hK => ?_; go_simp; refine hK _ ?_; clear hK K d; try walk_nrm
  refine F.esr ?_
  simp only [rg, Nat.reduceAdd]
  iterate 4 (refine F.oq rfl rfl rfl (fun _ => by simp [go_sem]) fun d K hK => ?_; go_simp; refine hK _ ?_; clear hK K d; try walk_nrm)
  refine F.re ?_
  refine F.cf rfl ?_
  refine F.sk ?_
  refine F.sr ?_
  simp only [rg, Nat.reduceAdd]
  iterate 3 (refine F.oq rfl rfl rfl (fun _ => by simp [go_sem]) fun d K hK => ?_; go_simp; refine hK _ ?_; clear hK K d; try walk_nrm)
  refine F.op rfl rfl (by decide) (fun d K hK => ?_)
  go_simp
  repeat rw [setCell_at']
  refine hK _ _ ⟨DX.set3 _ (by (first | assumption | exact hrb _ rfl | (apply hfr <;> dsimp only <;> omega) | (apply hok; simp; done))) (by (first | assumption | exact hrb _ rfl | (apply hfr <;> dsimp only <;> omega) | (apply hok; simp; done))) (by (first | assumption | exact hrb _ rfl | (apply hfr <;> dsimp only <;> omega) | (apply hok; simp; done))) (fun e he => ?_), ?_⟩
  · have hm := mem_listed he
    simp [go_sem, storedEv, evst_slice, evst_ptr, evst_iface, evst_nil, evst_bool, *] at hm
    rcases hm with rfl | rfl | rfl <;> exact .inl ⟨_, rfl, rfl, by (first | assumption | exact hrb _ rfl | (apply hfr <;> dsimp only <;> omega) | (apply hok; simp; done)), by simp only [size_at, size_set]; first | omega | exact lt_of_cell (by assumption)⟩
  clear hK K d
  try walk_nrm
  generalize ew3 : World.setCell w2 _ _ = w3
  have sz3 := sz_st2 ew3
  replace zh := fz_st zh ew3
  replace zr0 := fz_st zr0 ew3
  replace zr1 := fz_st zr1 ew3
  replace zr2 := fz_st zr2 ew3
  replace h4 := cl_st h4 ew3 (by intro e; simp at e <;> omega)
  replace h3 := cl_st h3 ew3 (by intro e; simp at e <;> omega)
  replace hh := cl_st hh ew3 (by intro e; simp at e <;> omega)
  replace hc1 := cl_st hc1 ew3 (by intro e; simp at e <;> omega)
  replace hr0 := cl_st' hr0 ew3
  replace hr1 := cl_st hr1 ew3 (by intro e; simp at e <;> omega)
  replace hr2 := cl_st hr2 ew3 (by intro e; simp at e <;> omega)
  replace kp := kp.stN ew3 (by first | (left; simp; done) | (right; left; simp; done) | (right; right; dsimp only; omega))
  generalize ew4 : World.setCell w3 _ _ = w4
  have sz4 := sz_st2 ew4
  replace zh := fz_st zh ew4
  replace zr0 := fz_st zr0 ew4
  replace zr1 := fz_st zr1 ew4
  replace zr2 := fz_st zr2 ew4
  replace h4 := cl_st h4 ew4 (by intro e; simp at e <;> omega)
  replace h3 := cl_st h3 ew4 (by intro e; simp at e <;> omega)
  replace hh := cl_st hh ew4 (by intro e; simp at e <;> omega)
  replace hc1 := cl_st hc1 ew4 (by intro e; simp at e <;> omega)
  replace hr0 := cl_st hr0 ew4 (by intro e; simp at e <;> omega)
  replace hr1 := cl_st' hr1 ew4
  replace hr2 := cl_st hr2 ew4 (by intro e; simp at e <;> omega)
  replace kp := kp.stN ew4 (by first | (left; simp; done) | (right; left; simp; done) | (right; right; dsimp only; omega))
  generalize ew5 : World.setCell w4 _ _ = w5
  have sz5 := sz_st2 ew5
  replace zh := fz_st zh ew5
  replace zr0 := fz_st zr0 ew5
  replace zr1 := fz_st zr1 ew5
  replace zr2 := fz_st zr2 ew5
  replace h4 := cl_st h4 ew5 (by intro e; simp at e <;> omega)
  replace h3 := cl_st h3 ew5 (by intro e; simp at e <;> omega)
  replace hh := cl_st hh ew5 (by intro e; simp at e <;> omega)
  replace hc1 := cl_st hc1 ew5 (by intro e; simp at e <;> omega)
  replace hr0 := cl_st hr0 ew5 (by intro e; simp at e <;> omega)
  replace hr1 := cl_st hr1 ew5 (by intro e; simp at e <;> omega)
  replace hr2 := cl_st' hr2 ew5
  replace kp := kp.stN ew5 (by first | (left; simp; done) | (right; left; simp; done) | (right; right; dsimp only; omega))
  refine F.re ?_
  refine F.ctl (fun _ => stepG_ret') ?_
  refine F.leaveE (v := .tuple #[.int .i64 k, .agg #[.int .i64 1, .int .i64 0, .int .i64 0]]) rfl rfl Tryz.func147 (fun d => ?_) (fun d es hes => DX.still _ (fun e he => ?_)) ?_
  · simp [results, go_sem, *]
  · have hm := hes e he
    simp [results, go_sem, *] at hm
    rcases hm with rfl | rfl | rfl <;> exact evr (w := w5) (by assumption) (by first | assumption | (refine hfr _ _ ?_; dsimp only; omega))
  exact hc _ _ ⟨rfl, kp, hh, zh⟩
end Go.Proofs.YtobagnjnbmgidaaGreatDoor
