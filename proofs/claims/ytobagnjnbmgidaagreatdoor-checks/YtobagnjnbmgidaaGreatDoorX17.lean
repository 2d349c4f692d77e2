/- A retry's pause. -/
import Derived.Test.YtobagnjnbmgidaaGreatDoorX16
set_option linter.unusedSimpArgs false
set_option linter.unusedVariables false
namespace Go.Proofs.YtobagnjnbmgidaaGreatDoor
open Go.Conc Go.RowKit
variable {Ok : Addr → Bool → Prop} {main : Bool}

set_option maxRecDepth 100000 in
theorem cancelled_x (tb : Nat) (w0 : World) (h0 : w0.cell? ⟨tb, 6, none⟩ = some (.bool false)) (o1 : Ok ⟨tb, 6, none⟩ false) :
    CallsX Tryz.prog main (DX Ok) 161 #[.pointer (some ⟨tb, 0, none⟩)] w0 fun v w' => v = .bool false ∧ w' = w0 := by
  intro Ψ F c cs hc
  rw [enter_at _ Tryz.func161 rfl]
  simp only [Tryz.ntmps161, List.size_toArray, List.length_cons, List.length_nil, Nat.reduceAdd, Nat.reduceSub, Array.replicate_succ, Array.replicate_zero, List.push_toArray, List.append_toArray, List.nil_append, List.cons_append]
  refine F.sr ?_
  simp only [rg, Nat.reduceAdd]
  refine F.oq rfl rfl rfl (fun _ => by simp [go_sem]) fun d K hK => ?_; go_simp; refine hK _ ?_; clear hK K d; try walk_nrm
  refine F.esr ?_
  simp only [rg, Nat.reduceAdd]
  iterate 3 (refine F.oq rfl rfl rfl (fun _ => by simp [go_sem]) fun d K hK => ?_; go_simp; refine hK _ ?_; clear hK K d; try walk_nrm)
  refine F.op rfl rfl (by decide) (fun d K hK => ?_)
  go_simp
  refine hK _ _ ⟨DX.still _ (fun e he => ?_), ?_⟩
  · have hm := mem_listed he
    simp [go_sem, *] at hm
    subst hm
    exact .inl ⟨_, rfl, rfl, by (first | assumption | (apply hfr <;> dsimp only <;> omega) | (apply hok; simp; done)), lt_of_cell (w := w0) (by assumption)⟩
  clear hK K d
  try walk_nrm
  refine F.oq rfl rfl rfl (fun _ => by simp [go_sem]) fun d K hK => ?_; go_simp; refine hK _ ?_; clear hK K d; try walk_nrm
  refine F.re ?_
  refine F.ctl (fun _ => stepG_ret') ?_
  refine F.leave rfl rfl Tryz.func161 (resultsC_tmp (by rfl) _) ?_
  exact hc _ _ ⟨rfl, rfl⟩

set_option maxRecDepth 100000 in
set_option maxHeartbeats 4000000 in
theorem startWait_w (e : Env) (K : EnvOk e Ok) (now span : Int) (en ev : Value) (m : Nat) (w0 : World) (H : CW e w0 now en ev m) (hwr : IntKind.i64.wrap (now + span) = now + span) :
    CallsG e Ok 162 #[.pointer (some ⟨e.T, 0, none⟩), .int .i64 span] w0 fun x v w' => v = .pointer (some ⟨x, 0, none⟩) ∧ x = w0.heap.size ∧ Kp (rowL en) w0 w' [⟨e.A, 1, none⟩, ⟨e.T, 4, none⟩] ∧ ∃ en', WaitPre e x w' now (now + span) en' ∧ ∀ g ∈ rowL en', g ∈ rowL en ∨ w0.heap.size ≤ g := by
  intro Ψ0 Ψ1 W c cs hc
  have F := W.f0
  have hsz := H.size
  have lA := K.lA
  have lT := K.lT
  have nAT := K.nAT
  rw [enter_at _ Tryz.func162 rfl]
  simp only [Tryz.ntmps162, List.size_toArray, List.length_cons, List.length_nil, Nat.reduceAdd, Nat.reduceSub, Array.replicate_succ, Array.replicate_zero, List.push_toArray, List.append_toArray, List.nil_append, List.cons_append]
  refine F.sr ?_
  simp only [rg, Nat.reduceAdd]
  refine F.oq rfl rfl rfl (fun _ => by simp [go_sem]) fun d K hK => ?_; go_simp; refine hK _ ?_; clear hK K d; try walk_nrm
  refine F.esr ?_
  simp only [rg, Nat.reduceAdd]
  iterate 3 (refine F.oq rfl rfl rfl (fun _ => by simp [go_sem]) fun d K hK => ?_; go_simp; refine hK _ ?_; clear hK K d; try walk_nrm)
  refine F.enter rfl rfl (by decide) (fun _ => run_call_body rfl Tryz.func152 (by rfl) (by rfl)) (fun _ => events_call_body rfl Tryz.func152 (by rfl) (by rfl) _) ?_
  walk_nrm
  refine newWait_w e K now span en ev m w0 H hwr Ψ0 Ψ1 W _ _ (fun x v w1 hp => ?_)
  obtain ⟨rfl, hx0, kn, en1, hpre, hrow⟩ := hp
  have hx : w0.heap.size ≤ x ∧ x ≤ w0.heap.size := by omega
  clear hx0
  clear F
  have F := W.f1 x
  obtain ⟨x4, h4⟩ := hpre.t4
  have z4 := hpre.z4
  have hge := hpre.ge
  have okr : OkX Ok x ⟨e.T, 4, none⟩ false := ⟨K.t4, fun h => by cases h⟩
  have okw : OkX Ok x ⟨e.T, 4, none⟩ true := ⟨K.t4w, fun _ z => by simp at z⟩
  have kp : Kp (rowL en) w0 w1 [⟨e.A, 1, none⟩, ⟨e.T, 4, none⟩] := kn.old (fun x hx => .inl hx) (by simp)
  have hone := hpre.one
  have hTr : e.T ∉ rowL en1 := fun z => by rcases hrow _ z with y | y; have := (H.entN y).1; omega; omega
  rw [Frame.finish_at]
  try walk_nrm
  iterate 2 (refine F.oq rfl rfl rfl (fun _ => by simp [go_sem]) fun d K hK => ?_; go_simp; refine hK _ ?_; clear hK K d; try walk_nrm)
  refine F.op rfl rfl (by decide) (fun d K hK => ?_)
  go_simp
  rw [setCell_at']
  refine hK _ _ ⟨DX.set _ (by (first | assumption | (apply hfr <;> dsimp only <;> omega) | (apply hok; simp; done))) (fun e he => ?_), ?_⟩
  · have hm := mem_listed he
    simp [go_sem, storedEv, evst_slice, evst_ptr, evst_iface, evst_nil, evst_bool, *] at hm
    subst hm
    exact .inl ⟨_, rfl, rfl, by (first | assumption | (apply hfr <;> dsimp only <;> omega) | (apply hok; simp; done)), by show _ < (World.setCell _ _ _).heap.size; simp [World.setCell]; first | omega | exact lt_of_cell (by assumption)⟩
  clear hK K d
  try walk_nrm
  generalize ew2 : World.setCell w1 _ _ = w2
  have sz2 := sz_st ew2
  replace z4 := fz_st z4 ew2
  replace h4 := cl_st' h4 ew2
  replace kp := kp.stN ew2 (by first | (left; simp; done) | (right; left; simp; done) | (right; right; dsimp only; omega))
  refine F.re ?_
  have ke := Kp.setC ew2
  have cT : ∀ i, i ≠ 4 → (⟨e.T, i, none⟩ : Addr) ∉ [(⟨e.T, 4, none⟩ : Addr)] := fun i h z => by simp at z <;> omega
  have cA : ∀ i, (⟨e.A, i, none⟩ : Addr) ∉ [(⟨e.T, 4, none⟩ : Addr)] := fun i z => by simp at z <;> omega
  have cx : ∀ i, (⟨x, i, none⟩ : Addr) ∉ [(⟨e.T, 4, none⟩ : Addr)] := fun i z => by simp at z <;> omega
  have hpre2 : WaitPre e x w2 now (now + span) en1 :=
    { size := Nat.le_trans hpre.size ke.size
      sX := Nat.lt_of_lt_of_le hpre.sX ke.size
      nX := hpre.nX
      t0 := ke.cellC _ _ (by simp) (cT _ (by decide)) hpre.t0
      t2 := ke.cellC _ _ (by simp) (cT _ (by decide)) hpre.t2
      t3 := ke.cellC _ _ (by simp) (cT _ (by decide)) hpre.t3
      t4 := ⟨_, h4⟩
      z4 := z4
      t6 := ke.cellC _ _ (by simp) (cT _ (by decide)) hpre.t6
      t7 := ke.cellC _ _ (by simp) (cT _ (by decide)) hpre.t7
      z7 := (ke.frozC _ _ (by simp) (cT _ (by decide)) hpre.t7).trans hpre.z7
      a0 := ke.cellC _ _ (by simp) (cA _) hpre.a0
      za0 := (ke.frozC _ _ (by simp) (cA _) hpre.a0).trans hpre.za0
      a1 := ke.cellC _ _ (by simp) (cA _) hpre.a1
      z1 := (ke.frozC _ _ (by simp) (cA _) hpre.a1).trans hpre.z1
      a3 := ke.cellC _ _ (by simp) (cA _) hpre.a3
      a4 := ke.cellC _ _ (by simp) (cA _) hpre.a4
      ge := hpre.ge
      x0 := ke.cellC _ _ (by simp) (cx _) hpre.x0
      x1 := ke.cellC _ _ (by simp) (cx _) hpre.x1
      zx := (ke.frozC _ _ (by simp) (cx _) hpre.x1).trans hpre.zx
      one := hpre.one.st ew2 hTr
      out := hpre.out }
  refine F.sr ?_
  simp only [rg, Nat.reduceAdd]
  iterate 3 (refine F.oq rfl rfl rfl (fun _ => by simp [go_sem]) fun d K hK => ?_; go_simp; refine hK _ ?_; clear hK K d; try walk_nrm)
  refine F.op rfl rfl (by decide) (fun d K hK => ?_)
  go_simp
  refine hK _ _ ⟨DX.still _ (fun e he => ?_), ?_⟩
  · have hm := mem_listed he
    simp [go_sem, *] at hm
    subst hm
    exact .inl ⟨_, rfl, rfl, by (first | assumption | (apply hfr <;> dsimp only <;> omega) | (apply hok; simp; done)), lt_of_cell (w := w2) (by assumption)⟩
  clear hK K d
  try walk_nrm
  refine F.oq rfl rfl rfl (fun _ => by simp [go_sem]) fun d K hK => ?_; go_simp; refine hK _ ?_; clear hK K d; try walk_nrm
  refine F.re ?_
  refine F.ctl (fun _ => stepG_ret') ?_
  refine F.leave rfl rfl Tryz.func162 (resultsC_tmp (by rfl) _) ?_
  exact hc _ _ _ ⟨rfl, by omega, kp, en1, hpre2, hrow⟩

set_option maxRecDepth 100000 in
set_option maxHeartbeats 4000000 in
theorem rest_w (e : Env) (K : EnvOk e Ok) (now pause num : Int) (en ev : Value) (m : Nat) (R HD : Nat) (w0 : World) (H : CW e w0 now en ev m) (hm : m < 900) (hR : R < e.N) (hRJ : e.J ≠ R) (hR1 : w0.cell? ⟨R, 1, none⟩ = some (.int .i64 num)) (hR2 : w0.cell? ⟨R, 2, none⟩ = some (.pointer (some ⟨e.J, 0, none⟩))) (oR : ∀ i, Ok ⟨R, i, none⟩ false) (hp0 : (0 : Int) < pause) (hp1 : (pause == 0) = false) (hwr : IntKind.i64.wrap (now + pause) = now + pause) :
    CallsW e Ok 157 #[.pointer (some ⟨R, 0, none⟩), .pointer (some ⟨e.T, 0, none⟩), .int .i64 pause] w0 fun v w' => v = .bool true ∧ ∃ en' ev', CW e w' (now + pause) en' ev' (m + 1) ∧ Ru e HD w0 en ev w' en' ev' ∧ ∀ u, HD < e.N → HD ≠ e.J → HD ≠ e.A → HD ≠ e.T → w0.cell? ⟨HD, 0, none⟩ = some u → w0.frozen? ⟨HD, 0, none⟩ = false → w'.cell? ⟨HD, 0, none⟩ = some u ∧ w'.frozen? ⟨HD, 0, none⟩ = false := by
  intro Ψ0 Ψ1 W c cs hc
  have F := W.f0
  have hsz := H.size
  have lA := K.lA
  have lT := K.lT
  have lJ := K.lJ
  rw [enter_at _ Tryz.func157 rfl]
  simp only [Tryz.ntmps157, List.size_toArray, List.length_cons, List.length_nil, Nat.reduceAdd, Nat.reduceSub, Array.replicate_succ, Array.replicate_zero, List.push_toArray, List.append_toArray, List.nil_append, List.cons_append]
  refine F.sr ?_
  simp only [rg, Nat.reduceAdd]
  refine F.oq rfl rfl rfl (fun _ => by simp [go_sem]) fun d K hK => ?_; go_simp; refine hK _ ?_; clear hK K d; try walk_nrm
  refine F.esr ?_
  simp only [rg, Nat.reduceAdd]
  iterate 5 (refine F.oq rfl rfl rfl (fun _ => by simp [go_sem]) fun d K hK => ?_; go_simp; refine hK _ ?_; clear hK K d; try walk_nrm)
  refine F.enter rfl rfl (by decide) (fun _ => run_call_body rfl Tryz.func149 (by rfl) (by rfl)) (fun _ => events_call_body rfl Tryz.func149 (by rfl) (by rfl) _) ?_
  walk_nrm
  refine tell_w e K now en ev m w0 H (by omega) R num 3 pause hR hRJ hR1 hR2 (oR _) (oR _) _ F _ _ (fun v w1 hp => ?_)
  obtain ⟨rfl, ev1, H1, k1, v1⟩ := hp
  have r1 : Ru e HD w0 en ev w1 en ev1 := Ru.tell k1 v1
  rw [Frame.finish_at]
  try walk_nrm
  refine F.es ?_
  refine F.sr ?_
  simp only [rg, Nat.reduceAdd]
  refine F.oq rfl rfl rfl (fun _ => by simp [go_sem]) fun d K hK => ?_; go_simp; refine hK _ ?_; clear hK K d; try walk_nrm
  refine F.enter rfl rfl (by decide) (fun _ => run_call_body rfl Tryz.func161 (by rfl) (by rfl)) (fun _ => events_call_body rfl Tryz.func161 (by rfl) (by rfl) _) ?_
  walk_nrm
  refine cancelled_x e.T w1 H1.t6 K.t6 _ F _ _ (fun v wq hp => ?_)
  obtain ⟨rfl, hq⟩ := hp
  have hq := hq.symm
  subst hq
  rw [Frame.finish_at]
  try walk_nrm
  have hne : ¬ pause = 0 := by omega
  refine F.re ?_
  refine F.cf rfl ?_
  refine F.sk ?_
  refine F.sr ?_
  simp only [rg, Nat.reduceAdd]
  iterate 5 (refine F.oq rfl rfl rfl (fun _ => by simp [go_sem]) fun d K hK => ?_; go_simp; refine hK _ ?_; clear hK K d; try walk_nrm)
  refine F.enter rfl rfl (by decide) (fun _ => run_call_body rfl Tryz.func162 (by rfl) (by rfl)) (fun _ => events_call_body rfl Tryz.func162 (by rfl) (by rfl) _) ?_
  walk_nrm
  refine startWait_w e K now pause en ev1 (m + 1) w1 H1 hwr Ψ0 Ψ1 W _ _ (fun x v w2 hp => ?_)
  obtain ⟨rfl, hx, k2, en2, hpre, hrow⟩ := hp
  clear F
  have F := W.f1 x
  rw [Frame.finish_at]
  try walk_nrm
  refine F.enter rfl rfl (by decide) (fun _ => run_call_body rfl Tryz.func153 (by rfl) (by rfl)) (fun _ => events_call_body rfl Tryz.func153 (by rfl) (by rfl) _) ?_
  walk_nrm
  refine W.wait x _ _ w2 now _ en2 hpre (fun w3 en3 hpost => ?_)
  clear F
  have F := W.f0
  rw [Frame.finish_at]
  try walk_nrm
  iterate 3 (refine F.oq rfl rfl rfl (fun _ => by simp [go_sem]) fun d K hK => ?_; go_simp; refine hK _ ?_; clear hK K d; try walk_nrm)
  refine F.re ?_
  refine F.ctl (fun _ => stepG_ret') ?_
  refine F.leave rfl rfl Tryz.func157 (resultsC_tmp (by rfl) _) ?_
  have H3 := H1.waited (L := []) K.lA K.lT K.lJ K.nAT K.nAJ K.nTJ k2 (by simp) (by omega) hpre.toBase hpost hrow
  have k3 : Kp (rowL en) w1 w3 [⟨e.A, 0, none⟩, ⟨e.A, 1, none⟩, ⟨e.T, 4, none⟩] := (k2.old (C' := [⟨e.A, 0, none⟩, ⟨e.A, 1, none⟩, ⟨e.T, 4, none⟩]) (fun x hx => .inl hx) (by simp)).callN hpost.kp (fun y hy => .inr (by simp at hy; omega)) (fun y hy => .inl (by simp at hy; rcases hy with rfl | rfl <;> simp))
  have r3 : Ru e HD w1 en ev1 w3 en3 ev1 := Ru.wait k3 (by simp) (fun g hg => hrow g (hpost.row ▸ hg))
  refine hc _ _ ⟨rfl, en3, ev1, H3, r1.trans r3, fun u q1 q2 q3 q4 q5 q6 => ?_⟩
  obtain ⟨p1, p2⟩ := Bk.had (e := e) ⟨q1, q2, q3, q4⟩ k1 (fun x hx => by simp at hx; rcases hx with y | y; exact .inl y; exact .inr (H.rowN y).1) (by simp) q5 q6
  exact Bk.had (e := e) ⟨q1, q2, q3, q4⟩ k3 (fun x hx => .inr (H1.entN hx).1) (by simp) p1 p2

end Go.Proofs.YtobagnjnbmgidaaGreatDoor
