/- The task's goroutine from its start to its end. -/
import Derived.Test.YtobagnjnbmgidaaGreatDoorX47
set_option linter.unusedSimpArgs false
set_option linter.unusedVariables false
namespace Go.Proofs.YtobagnjnbmgidaaGreatDoor
open Go.Conc Go.RowKit
open Go.ConcN (sumTo upd sumTo_upd upd_ne upd_same)

section
variable {wI : World} {l : List Nat} {e : Env} {c n : Nat} {Post : Value → World → Prop} {cs0 : List Frame}

/-- What the way out needs. -/
structure Fin (e : Env) (bt bg : Nat) (w : World) : Prop where
  bt : w.cell? ⟨bt, 0, none⟩ = some (.pointer (some ⟨e.T, 0, none⟩))
  bg : w.cell? ⟨bg, 0, none⟩ = some (.pointer (some ⟨e.A, 5, none⟩))
  t7 : w.cell? ⟨e.T, 7, none⟩ = some (.bool false)
  z7 : w.frozen? ⟨e.T, 7, none⟩ = false
  a1 : ∃ bs cap, w.cell? ⟨e.A, 1, none⟩ = some (.slice bs 0 cap)
  st : Num .u64 ⟨e.A, 5, none⟩ w 4294967296
  se : Num .u32 ⟨e.A, 6, none⟩ w 0
  N : e.N ≤ w.heap.size

set_option maxRecDepth 100000 in
set_option maxHeartbeats 8000000 in
theorem child_at (R : Rig wI l e c n) (hN0 : wI.heap.size ≤ e.N) (K : EnvOk e (OkS wI.heap.size l (st0 e))) (cR : Frame) (csR : List Frame) (bg bf bw bt O bo bi bl : Nat) (ov : Value) (Q : Int → Int → Int → Option Addr → Nat → Nat → World → Prop) (hQ : ∀ a b c x n cap w w', Kp [O] w w' → Q a b c x n cap w → Q a b c x n cap w') (w0 : World)
    (nbt : bt ≠ e.T) (nbg : bg ≠ e.T) (ngA : bg ≠ e.ech ∧ bg ≠ e.A)
    (hbf : w0.cell? ⟨bf, 0, none⟩ = some (.func (.func 62) #[] #[.pointer (some ⟨bw, 0, none⟩), .pointer (some ⟨bt, 0, none⟩), .pointer (some ⟨e.X, 0, none⟩)])) (hbw : w0.cell? ⟨bw, 0, none⟩ = some (.func (.func 37) #[] #[.pointer (some ⟨bl, 0, none⟩), .pointer (some ⟨bo, 0, none⟩), .pointer (some ⟨bi, 0, none⟩)])) (hbt : w0.cell? ⟨bt, 0, none⟩ = some (.pointer (some ⟨e.T, 0, none⟩)))
    (hO : w0.cell? ⟨bo, 0, none⟩ = some (.slice (some ⟨O, 0, none⟩) 1 1)) (hi : w0.cell? ⟨bi, 0, none⟩ = some (.int .i64 0)) (hl : w0.cell? ⟨bl, 0, none⟩ = some ov)
    (ho0 : w0.cell? ⟨O, 0, none⟩ = some (.int .i64 0)) (ho1 : w0.cell? ⟨O, 1, none⟩ = some (.int .i64 0)) (ho2 : w0.cell? ⟨O, 2, none⟩ = some (.int .i64 0)) (ho3 : w0.cell? ⟨O, 3, none⟩ = some (.slice none 0 0))
    (zo0 : w0.frozen? ⟨O, 0, none⟩ = false) (zo1 : w0.frozen? ⟨O, 1, none⟩ = false) (zo2 : w0.frozen? ⟨O, 2, none⟩ = false) (zo3 : w0.frozen? ⟨O, 3, none⟩ = false)
    (d1 : O ≠ bo) (d2 : O ≠ bi) (d3 : O ≠ bl) (hok : ∀ a wr, a.block = O → OkS wI.heap.size l (st0 e) a wr)
    (hcall : CallsW e (OkS wI.heap.size l (st0 e)) 38 #[ov, .pointer (some ⟨e.T, 0, none⟩)] w0 fun v w' => ∃ a b c x n cap, v = .agg #[.int .i64 a, .int .i64 b, .int .i64 c, .slice x n cap] ∧ Q a b c x n cap w' ∧ Same [bo, bi, bl, O] w0 w')
    (hfin : ∀ a b c x n cap w, Q a b c x n cap w → Fin e bt bg w)
    (hcont : ∀ a b c x m cap w1 wS, Q a b c x m cap w1 → w1.cell? ⟨O, 0, none⟩ = some (.int .i64 a) → w1.cell? ⟨O, 1, none⟩ = some (.int .i64 b) → w1.cell? ⟨O, 2, none⟩ = some (.int .i64 c) → w1.cell? ⟨O, 3, none⟩ = some (.slice x m cap) → Kp [] w1 wS [⟨e.T, 7, none⟩] → ∀ w', KJ wI e wS w' → At0 Tryz.prog Post (Old wI) (ShL l) n (G (cR.finish (.tuple #[])) csR) w') :
    Psi0 wI l e c n Post (cR :: csR) (born Tryz.prog (call89 bg bf)) w0 := by
  have W := futw (Post := Post) (cs0 := cR :: csR) R hN0
  have F := W.f0
  have t6 := evNe20
  have t7 := evNN20
  refine (cf_fut F w0).step _ _ rfl (fun w _ => ⟨#[], born89 bg bf w, by simp⟩) ?_
  have o1 : OkS wI.heap.size l (st0 e) ⟨bf, 0, none⟩ false := ok_rd (by decide) (by decide)
  have o2 : OkS wI.heap.size l (st0 e) ⟨bw, 0, none⟩ false := ok_rd (by decide) (by decide)
  have o3 : OkS wI.heap.size l (st0 e) ⟨bt, 0, none⟩ false := ok_rd (by decide) (by decide)
  have o4 : OkS wI.heap.size l (st0 e) ⟨e.X, 0, none⟩ false := ok_rd (by decide) (by decide)
  have o5 : OkS wI.heap.size l (st0 e) ⟨e.A, 4, none⟩ false := ok_rd (by decide) (by decide)
  have o6 := K.t7w
  have hcf : (c == 0) = false := by have := R.c0; simp; omega
  refine F.sr ?_
  simp only [rg, Nat.reduceAdd]
  refine F.oq rfl rfl rfl (fun _ => by simp [go_sem]) fun d K hK => ?_; go_simp; refine hK _ ?_; clear hK K d; try walk_nrm
  refine F.deferC rfl rfl (by decide) rfl rfl rfl ?_
  walk_nrm
  refine F.er ?_
  simp only [rg, Nat.reduceAdd]
  refine F.op rfl rfl (by decide) (fun d K hK => ?_)
  go_simp
  refine hK _ _ ⟨DX.still _ (fun e he => ?_), ?_⟩
  · have hm := mem_listed he
    simp [go_sem, *] at hm
    subst hm
    exact .inl ⟨_, rfl, rfl, by (first | assumption | exact hrb _ rfl | (apply hfr <;> dsimp only <;> omega) | (apply hok; simp; done)), lt_of_cell (w := w0) (by assumption)⟩
  clear hK K d
  try walk_nrm
  refine F.enterV rfl rfl (by decide) rfl rfl Tryz.func62 (by rfl) (by rfl) ?_
  try walk_nrm
  rw [enter_at _ Tryz.func62 rfl]
  simp only [Tryz.ntmps62, List.size_toArray, List.length_cons, List.length_nil, Nat.reduceAdd, Nat.reduceSub, Array.replicate_succ, Array.replicate_zero, List.push_toArray, List.append_toArray, List.nil_append, List.cons_append]
  refine F.sr ?_
  simp only [rg, Nat.reduceAdd]
  refine F.op rfl rfl (by decide) (fun d K hK => ?_)
  go_simp
  refine hK _ _ ⟨DX.still _ (fun e he => ?_), ?_⟩
  · have hm := mem_listed he
    simp [go_sem, *] at hm
    subst hm
    exact .inl ⟨_, rfl, rfl, by (first | assumption | exact hrb _ rfl | (apply hfr <;> dsimp only <;> omega) | (apply hok; simp; done)), lt_of_cell (w := w0) (by assumption)⟩
  clear hK K d
  try walk_nrm
  refine F.op rfl rfl (by decide) (fun d K hK => ?_)
  go_simp
  refine hK _ _ ⟨DX.still _ (fun e he => ?_), ?_⟩
  · have hm := mem_listed he
    simp [go_sem, *] at hm
    subst hm
    exact .inl ⟨_, rfl, rfl, by (first | assumption | exact hrb _ rfl | (apply hfr <;> dsimp only <;> omega) | (apply hok; simp; done)), lt_of_cell (w := w0) (by assumption)⟩
  clear hK K d
  try walk_nrm
  refine F.enterV rfl rfl (by decide) rfl rfl Tryz.func37 (by rfl) (by rfl) ?_
  try walk_nrm
  refine run1_w e K O bo bi bl ov Q hQ w0 hO hi hl ho0 ho1 ho2 ho3 zo0 zo1 zo2 zo3 d1 d2 d3 (ok_rd (by decide) (by decide)) (ok_rd (by decide) (by decide)) (ok_rd (by decide) (by decide)) hok hcall _ _ W _ _ (fun v w1 hp => ?_)
  obtain ⟨rfl, y1, y2, y3, y4, y5, y6, hq, p0, p1, p2, p3⟩ := hp
  have hf := hfin _ _ _ _ _ _ _ hq
  refine At.assume ko_at (fun hKO => ?_)
  have hX0 := hKO.2.1 (⟨e.X, 0, none⟩, .pointer (some ⟨e.A, 0, none⟩)) (by simp [st0])
  have hA4 := hKO.2.1 (⟨e.A, 4, none⟩, .chan (some e.ech)) (by simp [st0])
  dsimp only at hX0 hA4
  have hbt1 := hf.bt
  have ht7 := hf.t7
  have zt7 := hf.z7
  have hNX := R.nX
  have hlT := R.lT
  have nAT := R.nAT
  clear hbf hbw hbt hO hi hl ho0 ho1 ho2 ho3 zo0 zo1 zo2 zo3 hcall
  have kp : Kp [] w1 w1 [⟨e.T, 7, none⟩] := Kp.refl _
  rw [Frame.finish_at]
  try walk_nrm
  refine F.esr ?_
  simp only [rg, Nat.reduceAdd]
  refine F.op rfl rfl (by decide) (fun d K hK => ?_)
  go_simp
  refine hK _ _ ⟨DX.still _ (fun e he => ?_), ?_⟩
  · have hm := mem_listed he
    simp [go_sem, *] at hm
    subst hm
    exact .inl ⟨_, rfl, rfl, by (first | assumption | exact hrb _ rfl | (apply hfr <;> dsimp only <;> omega) | (apply hok; simp; done)), lt_of_cell (w := w1) (by assumption)⟩
  clear hK K d
  try walk_nrm
  iterate 2 (refine F.oq rfl rfl rfl (fun _ => by simp [go_sem]) fun d K hK => ?_; go_simp; refine hK _ ?_; clear hK K d; try walk_nrm)
  refine F.op rfl rfl (by decide) (fun d K hK => ?_)
  go_simp
  rw [setCell_at']
  refine hK _ _ ⟨DX.set _ (by (first | assumption | exact hrb _ rfl | (apply hfr <;> dsimp only <;> omega) | (apply hok; simp; done))) (fun e he => ?_), ?_⟩
  · have hm := mem_listed he
    simp [go_sem, storedEv, evst_slice, evst_ptr, evst_iface, evst_nil, evst_bool, *] at hm
    subst hm
    exact .inl ⟨_, rfl, rfl, by (first | assumption | exact hrb _ rfl | (apply hfr <;> dsimp only <;> omega) | (apply hok; simp; done)), by simp only [size_at, size_set]; first | omega | exact lt_of_cell (by assumption)⟩
  clear hK K d
  try walk_nrm
  generalize ew2 : World.setCell w1 _ _ = w2
  have sz2 : w1.heap.size ≤ w2.heap.size ∧ w2.heap.size ≤ w1.heap.size := by have := sz_st ew2; omega
  replace zt7 := fz_st zt7 ew2
  replace hX0 := cl_st hX0 ew2 (by first | (intro e; simp at e; done) | (intro e; simp at e; omega) | (intro e; have e1 := congrArg Addr.block e; dsimp only at e1; omega))
  replace hA4 := cl_st hA4 ew2 (by first | (intro e; simp at e; done) | (intro e; simp at e; omega) | (intro e; have e1 := congrArg Addr.block e; dsimp only at e1; omega))
  replace hbt1 := cl_st hbt1 ew2 (by first | (intro e; simp at e; done) | (intro e; simp at e; omega) | (intro e; have e1 := congrArg Addr.block e; dsimp only at e1; omega))
  replace ht7 := cl_st' ht7 ew2
  replace kp := kp.stN ew2 (by first | (left; simp; done) | (right; left; simp; done) | (right; right; dsimp only; omega))
  refine F.er ?_
  simp only [rg, Nat.reduceAdd]
  refine F.op rfl rfl (by decide) (fun d K hK => ?_)
  go_simp
  refine hK _ _ ⟨DX.still _ (fun e he => ?_), ?_⟩
  · have hm := mem_listed he
    simp [go_sem, *] at hm
    subst hm
    exact .inl ⟨_, rfl, rfl, by (first | assumption | exact hrb _ rfl | (apply hfr <;> dsimp only <;> omega) | (apply hok; simp; done)), lt_of_cell (w := w2) (by assumption)⟩
  clear hK K d
  try walk_nrm
  iterate 2 (refine F.oq rfl rfl rfl (fun _ => by simp [go_sem]) fun d K hK => ?_; go_simp; refine hK _ ?_; clear hK K d; try walk_nrm)
  refine F.op rfl rfl (by decide) (fun d K hK => ?_)
  go_simp
  refine hK _ _ ⟨DX.still _ (fun e he => ?_), ?_⟩
  · have hm := mem_listed he
    simp [go_sem, *] at hm
    subst hm
    exact .inl ⟨_, rfl, rfl, by (first | assumption | exact hrb _ rfl | (apply hfr <;> dsimp only <;> omega) | (apply hok; simp; done)), lt_of_cell (w := w2) (by assumption)⟩
  clear hK K d
  try walk_nrm
  refine F.oq rfl rfl rfl (fun _ => by simp [go_sem]) fun d K hK => ?_; go_simp; refine hK _ ?_; clear hK K d; try walk_nrm
  obtain ⟨bs, cap, ha1⟩ := hf.a1
  have kS := Kp.setC ew2
  refine join_at R cR csR w2 _ bs cap (Nat.le_trans hf.N kS.size) (kS.cellC _ _ (by simp) (by simp <;> omega) ha1) ⟨kS.cellC _ _ (by simp) (by simp <;> omega) hf.st.1, (kS.frozC _ _ (by simp) (by simp <;> omega) hf.st.1).trans hf.st.2⟩ ⟨kS.cellC _ _ (by simp) (by simp <;> omega) hf.se.1, (kS.frozC _ _ (by simp) (by simp <;> omega) hf.se.1).trans hf.se.2⟩ rfl (fun d => ?_) ?_ (hcont _ _ _ _ _ _ _ _ hq p0 p1 p2 p3 kp)
  · rw [stepG_comm (cases := #[scase e.ech (.agg #[]) (.tuple #[])]) (blocking := true) (shape := .send) (w' := w2.at d) rfl rfl (by decide) (by simp [execOp, scase, Act.eval])]
    rw [listed_nil (by simp [go_sem, execOp, Act.eval])]
  clear F
  have F := qf_cs (P := Tryz.prog) (K := KJ wI e w2) (Gp := grp e.A) 0
  have hbgS : w2.cell? ⟨bg, 0, none⟩ = some (.pointer (some ⟨e.A, 5, none⟩)) := kS.cellC _ _ (by simp) (by simp <;> omega) hf.bg
  have fbg : ∀ w, KJ wI e w2 w → w.cell? ⟨bg, 0, none⟩ = some (.pointer (some ⟨e.A, 5, none⟩)) := fun w h => h.2.1.cellC _ _ (by simp; exact ngA.1) (by simp <;> omega) hbgS
  rw [served_fr, Frame.finish_at]
  try walk_nrm
  refine F.re ?_
  refine F.ctl (fun _ => stepG_end) ?_
  refine F.leave rfl rfl Tryz.func62 (resultsC_none (by rfl) _) ?_
  rw [Frame.finish_at]
  try walk_nrm
  refine F.re ?_
  refine F.ctl (fun _ => stepG_end) ?_
  refine F.ctl (fun _ => stepG_unwindC rfl Tryz.func90 (by rfl) rfl) ?_
  simp only [Tryz.ntmps90, List.size_toArray, List.length_cons, List.length_nil, Nat.reduceAdd, Nat.reduceSub, Array.replicate_succ, Array.replicate_zero, List.push_toArray, List.append_toArray, List.nil_append, List.cons_append]
  refine F.sq ?_
  refine F.sr ?_
  simp only [rg, Nat.reduceAdd]
  refine F.ctl (fun _ => stepG_recoverNil rfl rfl rfl rfl rfl rfl) ?_
  walk_nrm
  refine F.oq rfl rfl rfl (fun w hw => by simp [go_sem]) (fun w hw => by go_simp; first | exact ⟨rfl, rfl⟩ | exact rfl) ?_; try walk_nrm
  refine F.esr ?_
  simp only [rg, Nat.reduceAdd]
  iterate 2 (refine F.oq rfl rfl rfl (fun w hw => by first | (simp [go_sem]; done) | simp [go_sem, Instr.makeInterface, Instr.makeFunc, *]) (fun w hw => by go_simp; first | exact ⟨rfl, rfl⟩ | exact rfl) ?_; try walk_nrm)
  refine F.re ?_
  refine F.cf rfl ?_
  refine F.sk ?_
  refine F.rr ?_
  simp only [rg, Nat.reduceAdd]
  apply F.opn rfl rfl (by decide)
  · intro w hw
    exact listed_norace (ad := ⟨bg, 0, none⟩) (by kernel_rfl) (by simp [go_sem, fbg w hw])
  · intro w hw
    have hfact := fbg w hw
    go_simp
    first | exact ⟨rfl, rfl⟩ | exact rfl
  try walk_nrm
  refine F.enter rfl rfl (by decide) (fun _ => run_call_body rfl Tryz.func91 (by rfl) (by rfl)) (fun _ => events_call_body rfl Tryz.func91 (by rfl) (by rfl) _) ?_
  walk_nrm
  rw [enter_at _ Tryz.func91 rfl]
  simp only [Tryz.ntmps91, List.size_toArray, List.length_cons, List.length_nil, Nat.reduceAdd, Nat.reduceSub, Array.replicate_succ, Array.replicate_zero, List.push_toArray, List.append_toArray, List.nil_append, List.cons_append]
  refine F.rr ?_
  simp only [rg, Nat.reduceAdd]
  refine F.oq rfl rfl rfl (fun w hw => by simp [go_sem]) (fun w hw => by go_simp; first | exact ⟨rfl, rfl⟩ | exact rfl) ?_; try walk_nrm
  refine F.enter rfl rfl (by decide) (fun _ => run_call_body rfl Tryz.func88 (by rfl) (by rfl)) (fun _ => events_call_body rfl Tryz.func88 (by rfl) (by rfl) _) ?_
  walk_nrm
  refine done88_cs e.A (fun w h => h.2.2.2.1) _ _ ?_
  clear F
  have F := qf_quits (P := Tryz.prog) 0
  rw [Frame.finish_at]
  try walk_nrm
  refine F.re ?_
  refine F.ctl (fun _ => stepG_end) ?_
  refine F.leave rfl rfl Tryz.func91 (resultsC_none (by rfl) _) ?_
  rw [Frame.finish_at]
  try walk_nrm
  refine F.re ?_
  refine F.ctl (fun _ => stepG_end) ?_
  refine F.ctl (fun w => stepG_leave_deferred rfl rfl Tryz.func90 (resultsC_none (by rfl) _ w).1 (resultsC_none (by rfl) _ w).2 rfl) ?_
  exact quits89 _
end

end Go.Proofs.YtobagnjnbmgidaaGreatDoor
