/- The answer of a stack. -/
import Derived.Test.YtobagnjnbmgidaaGreatDoorX21
set_option linter.unusedSimpArgs false
set_option linter.unusedVariables false
namespace Go.Proofs.YtobagnjnbmgidaaGreatDoor
open Go.Conc Go.RowKit Go.Extern
variable {Ok : Addr → Bool → Prop}

theorem Ru.fresh {e : Env} {HD x : Nat} {w w1 w2 : World} {en ev en1 ev1 : Value} (r : Ru e HD w en ev w1 en1 ev1) (k : Kp [x] w1 w2) (hx : w.heap.size ≤ x) : Ru e HD w en ev w2 en1 ev1 :=
  ⟨r.kp.callM k (fun y hy => .inr (by simp at hy; omega)), r.rev, r.ren⟩

set_option maxRecDepth 100000 in
set_option maxHeartbeats 8000000 in
theorem ansV_w (e : Env) (K : EnvOk e Ok) (hcl : e.cl = 0) (en ev : Value) (now nn tk : Int) (m : Nat) (X HD C TB n k : Nat) (tt : Nat → Int × Int × Int) (w0 : World) (H : CW e w0 now en ev m) (hm : m < 900) (S : BkS e Ok X HD C TB) (Q : Bk e X HD C TB n tt w0 k) (hk : k < n) (hwk : IntKind.i64.wrap ((k : Int) + 1) = k + 1) (hkd : (tt k).1 = 1) (hnn : (tt k).2.1 = nn) (htt : (tt k).2.2 = tk) (htk : (0 : Int) < tk) (hwr : IntKind.i64.wrap (now + tk) = now + tk) :
    CallsW e Ok 52 #[.iface 138 (.pointer (some ⟨X, 0, none⟩)), .pointer (some ⟨e.T, 0, none⟩)] w0 fun v w' => v = .agg #[.int .i64 nn, .nilIface, .nilIface] ∧ ∃ en' ev', CW e w' (now + tk) en' ev' (m + 2) ∧ Ru e HD w0 en ev w' en' ev' := by
  intro Ψ0 Ψ1 W c cs hc
  have F := W.f0
  have l1 := K.lA
  have l2 := K.lT
  have l3 := K.lJ
  have hsz := H.size
  have hsX := H.sX
  have hnX := H.nX
  have hfr : ∀ (a : Addr) (wr : Bool), e.X + 1 ≤ a.block → Ok a wr := fun a wr h => K.fr a wr (by omega) (by omega)
  rw [enter_at _ Tryz.func52 rfl]
  simp only [Tryz.ntmps52, List.size_toArray, List.length_cons, List.length_nil, Nat.reduceAdd, Nat.reduceSub, Array.replicate_succ, Array.replicate_zero, List.push_toArray, List.append_toArray, List.nil_append, List.cons_append]
  refine F.sr ?_
  simp only [rg, Nat.reduceAdd]
  refine F.op rfl rfl (by decide) (fun d K hK => ?_)
  go_simp
  rw [alloc_at']
  refine hK _ _ ⟨DX.alloc _ _ (fun e he => ?_), ?_⟩
  · have hm := mem_listed he
    simp [go_sem] at hm
  clear hK K d
  try walk_nrm
  generalize ew1 : World.alloc w0 _ = w1
  generalize hn1 : (World.heap w0).size = n1
  have sz1 := sz_al ew1 hn1
  have hu0 := cl_new (i := 0) ew1 hn1 rfl
  try simp only [List.getElem_toArray, List.getElem_cons_zero, List.getElem_cons_succ] at hu0
  have zu0 := fz_new ew1 hn1 0
  have hu1 := cl_new (i := 1) ew1 hn1 rfl
  try simp only [List.getElem_toArray, List.getElem_cons_zero, List.getElem_cons_succ] at hu1
  have zu1 := fz_new ew1 hn1 1
  have hu2 := cl_new (i := 2) ew1 hn1 rfl
  try simp only [List.getElem_toArray, List.getElem_cons_zero, List.getElem_cons_succ] at hu2
  have zu2 := fz_new ew1 hn1 2
  have kp : Kp [] w0 w0 [] := Kp.refl _
  replace kp := kp.alN ew1
  refine F.esr ?_
  simp only [rg, Nat.reduceAdd]
  refine F.oq rfl rfl rfl (fun _ => by simp [go_sem]) fun d K hK => ?_; go_simp; refine hK _ ?_; clear hK K d; try walk_nrm
  refine F.deferC rfl rfl (by decide) rfl rfl rfl ?_
  walk_nrm
  have k1 : Kp [] w0 w1 := Kp.alloc ew1
  have r1 : Ru e HD w0 en ev w1 en ev := Ru.own k1 (by simp)
  have H1 : CW e w1 _ en ev _ := H.keep k1 (by simp) l1 l2 l3 (by simp)
  have b1 : n1 ∉ rowL ev := fun z => by have := (H.rowN z).2; omega
  have b2 : n1 ∉ rowL en := fun z => by have := (H.entN z).2; omega
  have Q1 := Q.ru S r1 H (k1.cell _ _ (by simp) Q.h0) ((k1.froz _ _ (by simp) Q.h0).trans Q.zh)
  refine F.esr ?_
  simp only [rg, Nat.reduceAdd]
  iterate 2 (refine F.oq rfl rfl rfl (fun _ => by simp [go_sem]) fun d K hK => ?_; go_simp; refine hK _ ?_; clear hK K d; try walk_nrm)
  refine F.invoke rfl rfl (by decide) rfl rfl (mEnter138 _) (mEnter138e _) Tryz.func146 (by rfl) (by rfl) ?_
  walk_nrm
  refine bV_w e K hcl now nn tk en ev m X HD C TB n k tt w1 H1 hm S Q1 hk hwk hkd hnn htt htk hwr Ψ0 Ψ1 W _ _ (fun v w2 hp => ?_)
  obtain ⟨en2, ev2, H2, Q2, r2, rfl⟩ := hp
  have hs2 := r2.kp.size
  obtain ⟨hu0, z0, b1', b2'⟩ := r2.temp K S.lH (by omega) b1 b2 hu0
  obtain ⟨hu1, z1, _⟩ := r2.temp K S.lH (by omega) b1 b2 hu1
  obtain ⟨hu2, z2, _⟩ := r2.temp K S.lH (by omega) b1 b2 hu2
  replace zu0 := z0.trans zu0
  replace zu1 := z1.trans zu1
  replace zu2 := z2.trans zu2
  clear z0 z1 z2 kp
  have r12 := r1.trans r2
  have kp : Kp [n1] w2 w2 := Kp.refl _
  rw [Frame.finish_at]
  try walk_nrm
  iterate 4 (refine F.oq rfl rfl rfl (fun _ => by simp [go_sem]) fun d K hK => ?_; go_simp; refine hK _ ?_; clear hK K d; try walk_nrm)
  refine F.op rfl rfl (by decide) (fun d K hK => ?_)
  go_simp
  rw [setCell_at']
  refine hK _ _ ⟨DX.set _ (by (first | assumption | (apply hfr <;> dsimp only <;> omega) | (apply hok; simp; done))) (fun e he => ?_), ?_⟩
  · have hm := mem_listed he
    simp [go_sem, storedEv, evst_slice, evst_ptr, evst_iface, evst_nil, evst_bool, *] at hm
    subst hm
    exact .inl ⟨_, rfl, rfl, by (first | assumption | (apply hfr <;> dsimp only <;> omega) | (apply hok; simp; done)), by show _ < (World.setCell _ _ _).heap.size; simp [World.setCell]; first | omega | exact lt_of_cell (by assumption)⟩
  clear hK K d
  try walk_nrm
  generalize ew3 : World.setCell w2 _ _ = w3
  have sz3 := sz_st ew3
  replace zu0 := fz_st zu0 ew3
  replace zu1 := fz_st zu1 ew3
  replace zu2 := fz_st zu2 ew3
  replace hu0 := cl_st' hu0 ew3
  replace hu1 := cl_st hu1 ew3 (by first | (intro e; simp at e; done) | (intro e; simp at e; omega))
  replace hu2 := cl_st hu2 ew3 (by first | (intro e; simp at e; done) | (intro e; simp at e; omega))
  replace kp := kp.stN ew3 (by first | (left; simp; done) | (right; left; simp; done) | (right; right; dsimp only; omega))
  refine F.oq rfl rfl rfl (fun _ => by simp [go_sem]) fun d K hK => ?_; go_simp; refine hK _ ?_; clear hK K d; try walk_nrm
  refine F.op rfl rfl (by decide) (fun d K hK => ?_)
  go_simp
  rw [setCell_at']
  refine hK _ _ ⟨DX.set _ (by (first | assumption | (apply hfr <;> dsimp only <;> omega) | (apply hok; simp; done))) (fun e he => ?_), ?_⟩
  · have hm := mem_listed he
    simp [go_sem, storedEv, evst_slice, evst_ptr, evst_iface, evst_nil, evst_bool, *] at hm
    subst hm
    exact .inl ⟨_, rfl, rfl, by (first | assumption | (apply hfr <;> dsimp only <;> omega) | (apply hok; simp; done)), by show _ < (World.setCell _ _ _).heap.size; simp [World.setCell]; first | omega | exact lt_of_cell (by assumption)⟩
  clear hK K d
  try walk_nrm
  generalize ew4 : World.setCell w3 _ _ = w4
  have sz4 := sz_st ew4
  replace zu0 := fz_st zu0 ew4
  replace zu1 := fz_st zu1 ew4
  replace zu2 := fz_st zu2 ew4
  replace hu0 := cl_st hu0 ew4 (by first | (intro e; simp at e; done) | (intro e; simp at e; omega))
  replace hu1 := cl_st' hu1 ew4
  replace hu2 := cl_st hu2 ew4 (by first | (intro e; simp at e; done) | (intro e; simp at e; omega))
  replace kp := kp.stN ew4 (by first | (left; simp; done) | (right; left; simp; done) | (right; right; dsimp only; omega))
  refine F.esr ?_
  simp only [rg, Nat.reduceAdd]
  refine F.op rfl rfl (by decide) (fun d K hK => ?_)
  go_simp
  refine hK _ _ ⟨DX.still _ (fun e he => ?_), ?_⟩
  · have hm := mem_listed he
    simp [go_sem, *] at hm
    rcases hm with rfl | rfl | rfl <;> exact .inl ⟨_, rfl, rfl, by (first | assumption | (apply hfr <;> dsimp only <;> omega) | (apply hok; simp; done)), lt_of_cell (w := w4) (by assumption)⟩
  clear hK K d
  try walk_nrm
  refine F.op rfl rfl (by decide) (fun d K hK => ?_)
  go_simp
  repeat rw [setCell_at']
  refine hK _ _ ⟨DX.set3 _ (by (first | assumption | (apply hfr <;> dsimp only <;> omega) | (apply hok; simp; done))) (by (first | assumption | (apply hfr <;> dsimp only <;> omega) | (apply hok; simp; done))) (by (first | assumption | (apply hfr <;> dsimp only <;> omega) | (apply hok; simp; done))) (fun e he => ?_), ?_⟩
  · have hm := mem_listed he
    simp [go_sem, storedEv, evst_slice, evst_ptr, evst_iface, evst_nil, evst_bool, *] at hm
    rcases hm with rfl | rfl | rfl <;> exact .inl ⟨_, rfl, rfl, by (first | assumption | (apply hfr <;> dsimp only <;> omega) | (apply hok; simp; done)), by show _ < (World.setCell _ _ _).heap.size; simp [World.setCell]; first | omega | exact lt_of_cell (by assumption)⟩
  clear hK K d
  try walk_nrm
  generalize ew5 : World.setCell w4 _ _ = w5
  have sz5 := sz_st ew5
  replace zu0 := fz_st zu0 ew5
  replace zu1 := fz_st zu1 ew5
  replace zu2 := fz_st zu2 ew5
  replace hu0 := cl_st' hu0 ew5
  replace hu1 := cl_st hu1 ew5 (by first | (intro e; simp at e; done) | (intro e; simp at e; omega))
  replace hu2 := cl_st hu2 ew5 (by first | (intro e; simp at e; done) | (intro e; simp at e; omega))
  replace kp := kp.stN ew5 (by first | (left; simp; done) | (right; left; simp; done) | (right; right; dsimp only; omega))
  generalize ew6 : World.setCell w5 _ _ = w6
  have sz6 := sz_st ew6
  replace zu0 := fz_st zu0 ew6
  replace zu1 := fz_st zu1 ew6
  replace zu2 := fz_st zu2 ew6
  replace hu0 := cl_st hu0 ew6 (by first | (intro e; simp at e; done) | (intro e; simp at e; omega))
  replace hu1 := cl_st' hu1 ew6
  replace hu2 := cl_st hu2 ew6 (by first | (intro e; simp at e; done) | (intro e; simp at e; omega))
  replace kp := kp.stN ew6 (by first | (left; simp; done) | (right; left; simp; done) | (right; right; dsimp only; omega))
  generalize ew7 : World.setCell w6 _ _ = w7
  have sz7 := sz_st ew7
  replace zu0 := fz_st zu0 ew7
  replace zu1 := fz_st zu1 ew7
  replace zu2 := fz_st zu2 ew7
  replace hu0 := cl_st hu0 ew7 (by first | (intro e; simp at e; done) | (intro e; simp at e; omega))
  replace hu1 := cl_st hu1 ew7 (by first | (intro e; simp at e; done) | (intro e; simp at e; omega))
  replace hu2 := cl_st' hu2 ew7
  replace kp := kp.stN ew7 (by first | (left; simp; done) | (right; left; simp; done) | (right; right; dsimp only; omega))
  refine F.re ?_
  refine F.ctl (fun _ => stepG_ret') ?_
  refine F.unwindC rfl Tryz.func64 (by rfl) rfl ?_
  simp only [Tryz.ntmps64, List.size_toArray, List.length_cons, List.length_nil, Nat.reduceAdd, Nat.reduceSub, Array.replicate_succ, Array.replicate_zero, List.push_toArray, List.append_toArray, List.nil_append, List.cons_append]
  refine F.rr ?_
  simp only [rg, Nat.reduceAdd]
  refine F.recoverNil rfl rfl rfl rfl rfl rfl ?_
  walk_nrm
  refine F.oq rfl rfl rfl (fun _ => by simp [go_sem]) fun d K hK => ?_; go_simp; refine hK _ ?_; clear hK K d; try walk_nrm
  refine F.op rfl rfl (by decide) (fun d K hK => ?_)
  go_simp
  rw [setCell_at']
  refine hK _ _ ⟨DX.set _ (by (first | assumption | (apply hfr <;> dsimp only <;> omega) | (apply hok; simp; done))) (fun e he => ?_), ?_⟩
  · have hm := mem_listed he
    simp [go_sem, storedEv, evst_slice, evst_ptr, evst_iface, evst_nil, evst_bool, *] at hm
    subst hm
    exact .inl ⟨_, rfl, rfl, by (first | assumption | (apply hfr <;> dsimp only <;> omega) | (apply hok; simp; done)), by show _ < (World.setCell _ _ _).heap.size; simp [World.setCell]; first | omega | exact lt_of_cell (by assumption)⟩
  clear hK K d
  try walk_nrm
  generalize ew8 : World.setCell w7 _ _ = w8
  have sz8 := sz_st ew8
  replace zu0 := fz_st zu0 ew8
  replace zu1 := fz_st zu1 ew8
  replace zu2 := fz_st zu2 ew8
  replace hu0 := cl_st hu0 ew8 (by first | (intro e; simp at e; done) | (intro e; simp at e; omega))
  replace hu1 := cl_st hu1 ew8 (by first | (intro e; simp at e; done) | (intro e; simp at e; omega))
  replace hu2 := cl_st' hu2 ew8
  replace kp := kp.stN ew8 (by first | (left; simp; done) | (right; left; simp; done) | (right; right; dsimp only; omega))
  refine F.re ?_
  refine F.ctl (fun _ => stepG_end) ?_
  refine F.leaveD rfl rfl Tryz.func64 (resultsC_none (by rfl) _) rfl ?_
  refine F.leaveE (v := .agg #[.int .i64 nn, .nilIface, .nilIface]) rfl rfl Tryz.func52 (fun d => ?_) (fun d es hes => DX.still _ (fun e he => ?_)) ?_
  · simp [results, go_sem, *]
  · have hm := hes e he
    simp [results, go_sem, *] at hm
    rcases hm with rfl | rfl | rfl <;> exact .inl ⟨_, rfl, rfl, by (first | assumption | (refine hfr _ _ ?_; dsimp only; omega)), lt_of_cell (w := w8) (by assumption)⟩
  have r := r12.fresh kp (by omega)
  have H8 : CW e w8 _ _ _ _ := H2.keep kp (by intro x hx; simp at hx; subst hx; right; right; exact ⟨by omega, b2', b1'⟩) l1 l2 l3 (by simp)
  exact hc _ _ ⟨rfl, en2, ev2, H8, r⟩

set_option maxRecDepth 100000 in
set_option maxHeartbeats 8000000 in
theorem ansR_w (e : Env) (K : EnvOk e Ok) (hcl : e.cl = 0) (en ev : Value) (X B HD C TB : Nat) (w0 : World) (H : CW e w0 0 en ev 0) (S : BkS e Ok B HD C TB) (Q : Bk e B HD C TB 3 turns3 w0 0) (hR : X < e.N) (hR1 : X ≠ e.J) (hR2 : X ≠ HD) (hR3 : X ≠ e.A) (hR4 : X ≠ e.T) (Y : Rt e X B w0) (oR : ∀ i, Ok ⟨X, i, none⟩ false) :
    CallsW e Ok 52 #[.iface 141 (.pointer (some ⟨X, 0, none⟩)), .pointer (some ⟨e.T, 0, none⟩)] w0 fun v w' => ∃ en' ev' m q p, CW e w' 28 en' ev' m ∧ Ru e HD w0 en ev w' en' ev' ∧ v = .agg #[.int .i64 0, .iface 168 (.pointer (some ⟨p, 0, none⟩)), .nilIface] ∧ e.N ≤ q ∧ e.N ≤ p ∧ w0.heap.size ≤ q ∧ w0.heap.size ≤ p ∧ p ∉ rowL ev' ∧ p ∉ rowL en' ∧ q ∉ rowL ev' ∧ q ∉ rowL en' ∧ w'.cell? ⟨p, 0, none⟩ = some (.int .i64 7) ∧ w'.cell? ⟨p, 1, none⟩ = some (.int .i64 0) ∧ w'.cell? ⟨p, 2, none⟩ = some (.int .i64 0) ∧ w'.cell? ⟨p, 3, none⟩ = some (.iface 168 (.pointer (some ⟨q, 0, none⟩))) ∧ w'.cell? ⟨q, 0, none⟩ = some (.int .i64 1) ∧ w'.cell? ⟨q, 1, none⟩ = some (.int .i64 (-1)) ∧ w'.cell? ⟨q, 2, none⟩ = some (.int .i64 3) ∧ w'.cell? ⟨q, 3, none⟩ = some .nilIface := by
  intro Ψ0 Ψ1 W c cs hc
  have F := W.f0
  have l1 := K.lA
  have l2 := K.lT
  have l3 := K.lJ
  have hsz := H.size
  have hsX := H.sX
  have hnX := H.nX
  have hfr : ∀ (a : Addr) (wr : Bool), e.X + 1 ≤ a.block → Ok a wr := fun a wr h => K.fr a wr (by omega) (by omega)
  rw [enter_at _ Tryz.func52 rfl]
  simp only [Tryz.ntmps52, List.size_toArray, List.length_cons, List.length_nil, Nat.reduceAdd, Nat.reduceSub, Array.replicate_succ, Array.replicate_zero, List.push_toArray, List.append_toArray, List.nil_append, List.cons_append]
  refine F.sr ?_
  simp only [rg, Nat.reduceAdd]
  refine F.op rfl rfl (by decide) (fun d K hK => ?_)
  go_simp
  rw [alloc_at']
  refine hK _ _ ⟨DX.alloc _ _ (fun e he => ?_), ?_⟩
  · have hm := mem_listed he
    simp [go_sem] at hm
  clear hK K d
  try walk_nrm
  generalize ew1 : World.alloc w0 _ = w1
  generalize hn1 : (World.heap w0).size = n1
  have sz1 := sz_al ew1 hn1
  have hu0 := cl_new (i := 0) ew1 hn1 rfl
  try simp only [List.getElem_toArray, List.getElem_cons_zero, List.getElem_cons_succ] at hu0
  have zu0 := fz_new ew1 hn1 0
  have hu1 := cl_new (i := 1) ew1 hn1 rfl
  try simp only [List.getElem_toArray, List.getElem_cons_zero, List.getElem_cons_succ] at hu1
  have zu1 := fz_new ew1 hn1 1
  have hu2 := cl_new (i := 2) ew1 hn1 rfl
  try simp only [List.getElem_toArray, List.getElem_cons_zero, List.getElem_cons_succ] at hu2
  have zu2 := fz_new ew1 hn1 2
  have kp : Kp [] w0 w0 [] := Kp.refl _
  replace kp := kp.alN ew1
  refine F.esr ?_
  simp only [rg, Nat.reduceAdd]
  refine F.oq rfl rfl rfl (fun _ => by simp [go_sem]) fun d K hK => ?_; go_simp; refine hK _ ?_; clear hK K d; try walk_nrm
  refine F.deferC rfl rfl (by decide) rfl rfl rfl ?_
  walk_nrm
  have k1 : Kp [] w0 w1 := Kp.alloc ew1
  have r1 : Ru e HD w0 en ev w1 en ev := Ru.own k1 (by simp)
  have H1 : CW e w1 _ en ev _ := H.keep k1 (by simp) l1 l2 l3 (by simp)
  have b1 : n1 ∉ rowL ev := fun z => by have := (H.rowN z).2; omega
  have b2 : n1 ∉ rowL en := fun z => by have := (H.entN z).2; omega
  have Q1 := Q.ru S r1 H (k1.cell _ _ (by simp) Q.h0) ((k1.froz _ _ (by simp) Q.h0).trans Q.zh)
  have X1 := Y.ru r1 H hR hR1 hR2 hR3 hR4
  refine F.esr ?_
  simp only [rg, Nat.reduceAdd]
  iterate 2 (refine F.oq rfl rfl rfl (fun _ => by simp [go_sem]) fun d K hK => ?_; go_simp; refine hK _ ?_; clear hK K d; try walk_nrm)
  refine F.invoke rfl rfl (by decide) rfl rfl (mEnter141 _) (mEnter141e _) Tryz.func156 (by rfl) (by rfl) ?_
  walk_nrm
  refine retry_w e K hcl en ev X B HD C TB w1 H1 S Q1 hR hR1 hR2 hR3 hR4 X1 oR Ψ0 Ψ1 W _ _ (fun v w2 hp => ?_)
  obtain ⟨en2, ev2, m2, q, p, H2, r2, rfl, g1, g2, g3, g4, g5, g6, g7, g8, hc0, hc1, hc2, hc3, hd0, hd1, hd2, hd3⟩ := hp
  have hs2 := r2.kp.size
  obtain ⟨hu0, z0, b1', b2'⟩ := r2.temp K S.lH (by omega) b1 b2 hu0
  obtain ⟨hu1, z1, _⟩ := r2.temp K S.lH (by omega) b1 b2 hu1
  obtain ⟨hu2, z2, _⟩ := r2.temp K S.lH (by omega) b1 b2 hu2
  replace zu0 := z0.trans zu0
  replace zu1 := z1.trans zu1
  replace zu2 := z2.trans zu2
  clear z0 z1 z2 kp
  have r12 := r1.trans r2
  have kp : Kp [n1] w2 w2 := Kp.refl _
  rw [Frame.finish_at]
  try walk_nrm
  iterate 4 (refine F.oq rfl rfl rfl (fun _ => by simp [go_sem]) fun d K hK => ?_; go_simp; refine hK _ ?_; clear hK K d; try walk_nrm)
  refine F.op rfl rfl (by decide) (fun d K hK => ?_)
  go_simp
  rw [setCell_at']
  refine hK _ _ ⟨DX.set _ (by (first | assumption | (apply hfr <;> dsimp only <;> omega) | (apply hok; simp; done))) (fun e he => ?_), ?_⟩
  · have hm := mem_listed he
    simp [go_sem, storedEv, evst_slice, evst_ptr, evst_iface, evst_nil, evst_bool, *] at hm
    subst hm
    exact .inl ⟨_, rfl, rfl, by (first | assumption | (apply hfr <;> dsimp only <;> omega) | (apply hok; simp; done)), by show _ < (World.setCell _ _ _).heap.size; simp [World.setCell]; first | omega | exact lt_of_cell (by assumption)⟩
  clear hK K d
  try walk_nrm
  generalize ew3 : World.setCell w2 _ _ = w3
  have sz3 := sz_st ew3
  replace zu0 := fz_st zu0 ew3
  replace zu1 := fz_st zu1 ew3
  replace zu2 := fz_st zu2 ew3
  replace hu0 := cl_st' hu0 ew3
  replace hu1 := cl_st hu1 ew3 (by first | (intro e; simp at e; done) | (intro e; simp at e; omega))
  replace hu2 := cl_st hu2 ew3 (by first | (intro e; simp at e; done) | (intro e; simp at e; omega))
  replace hc0 := cl_st hc0 ew3 (by first | (intro e; simp at e; done) | (intro e; simp at e; omega))
  replace hc1 := cl_st hc1 ew3 (by first | (intro e; simp at e; done) | (intro e; simp at e; omega))
  replace hc2 := cl_st hc2 ew3 (by first | (intro e; simp at e; done) | (intro e; simp at e; omega))
  replace hc3 := cl_st hc3 ew3 (by first | (intro e; simp at e; done) | (intro e; simp at e; omega))
  replace hd0 := cl_st hd0 ew3 (by first | (intro e; simp at e; done) | (intro e; simp at e; omega))
  replace hd1 := cl_st hd1 ew3 (by first | (intro e; simp at e; done) | (intro e; simp at e; omega))
  replace hd2 := cl_st hd2 ew3 (by first | (intro e; simp at e; done) | (intro e; simp at e; omega))
  replace hd3 := cl_st hd3 ew3 (by first | (intro e; simp at e; done) | (intro e; simp at e; omega))
  replace kp := kp.stN ew3 (by first | (left; simp; done) | (right; left; simp; done) | (right; right; dsimp only; omega))
  refine F.oq rfl rfl rfl (fun _ => by simp [go_sem]) fun d K hK => ?_; go_simp; refine hK _ ?_; clear hK K d; try walk_nrm
  refine F.op rfl rfl (by decide) (fun d K hK => ?_)
  go_simp
  rw [setCell_at']
  refine hK _ _ ⟨DX.set _ (by (first | assumption | (apply hfr <;> dsimp only <;> omega) | (apply hok; simp; done))) (fun e he => ?_), ?_⟩
  · have hm := mem_listed he
    simp [go_sem, storedEv, evst_slice, evst_ptr, evst_iface, evst_nil, evst_bool, *] at hm
    subst hm
    exact .inl ⟨_, rfl, rfl, by (first | assumption | (apply hfr <;> dsimp only <;> omega) | (apply hok; simp; done)), by show _ < (World.setCell _ _ _).heap.size; simp [World.setCell]; first | omega | exact lt_of_cell (by assumption)⟩
  clear hK K d
  try walk_nrm
  generalize ew4 : World.setCell w3 _ _ = w4
  have sz4 := sz_st ew4
  replace zu0 := fz_st zu0 ew4
  replace zu1 := fz_st zu1 ew4
  replace zu2 := fz_st zu2 ew4
  replace hu0 := cl_st hu0 ew4 (by first | (intro e; simp at e; done) | (intro e; simp at e; omega))
  replace hu1 := cl_st' hu1 ew4
  replace hu2 := cl_st hu2 ew4 (by first | (intro e; simp at e; done) | (intro e; simp at e; omega))
  replace hc0 := cl_st hc0 ew4 (by first | (intro e; simp at e; done) | (intro e; simp at e; omega))
  replace hc1 := cl_st hc1 ew4 (by first | (intro e; simp at e; done) | (intro e; simp at e; omega))
  replace hc2 := cl_st hc2 ew4 (by first | (intro e; simp at e; done) | (intro e; simp at e; omega))
  replace hc3 := cl_st hc3 ew4 (by first | (intro e; simp at e; done) | (intro e; simp at e; omega))
  replace hd0 := cl_st hd0 ew4 (by first | (intro e; simp at e; done) | (intro e; simp at e; omega))
  replace hd1 := cl_st hd1 ew4 (by first | (intro e; simp at e; done) | (intro e; simp at e; omega))
  replace hd2 := cl_st hd2 ew4 (by first | (intro e; simp at e; done) | (intro e; simp at e; omega))
  replace hd3 := cl_st hd3 ew4 (by first | (intro e; simp at e; done) | (intro e; simp at e; omega))
  replace kp := kp.stN ew4 (by first | (left; simp; done) | (right; left; simp; done) | (right; right; dsimp only; omega))
  refine F.esr ?_
  simp only [rg, Nat.reduceAdd]
  refine F.op rfl rfl (by decide) (fun d K hK => ?_)
  go_simp
  refine hK _ _ ⟨DX.still _ (fun e he => ?_), ?_⟩
  · have hm := mem_listed he
    simp [go_sem, *] at hm
    rcases hm with rfl | rfl | rfl <;> exact .inl ⟨_, rfl, rfl, by (first | assumption | (apply hfr <;> dsimp only <;> omega) | (apply hok; simp; done)), lt_of_cell (w := w4) (by assumption)⟩
  clear hK K d
  try walk_nrm
  refine F.op rfl rfl (by decide) (fun d K hK => ?_)
  go_simp
  repeat rw [setCell_at']
  refine hK _ _ ⟨DX.set3 _ (by (first | assumption | (apply hfr <;> dsimp only <;> omega) | (apply hok; simp; done))) (by (first | assumption | (apply hfr <;> dsimp only <;> omega) | (apply hok; simp; done))) (by (first | assumption | (apply hfr <;> dsimp only <;> omega) | (apply hok; simp; done))) (fun e he => ?_), ?_⟩
  · have hm := mem_listed he
    simp [go_sem, storedEv, evst_slice, evst_ptr, evst_iface, evst_nil, evst_bool, *] at hm
    rcases hm with rfl | rfl | rfl <;> exact .inl ⟨_, rfl, rfl, by (first | assumption | (apply hfr <;> dsimp only <;> omega) | (apply hok; simp; done)), by show _ < (World.setCell _ _ _).heap.size; simp [World.setCell]; first | omega | exact lt_of_cell (by assumption)⟩
  clear hK K d
  try walk_nrm
  generalize ew5 : World.setCell w4 _ _ = w5
  have sz5 := sz_st ew5
  replace zu0 := fz_st zu0 ew5
  replace zu1 := fz_st zu1 ew5
  replace zu2 := fz_st zu2 ew5
  replace hu0 := cl_st' hu0 ew5
  replace hu1 := cl_st hu1 ew5 (by first | (intro e; simp at e; done) | (intro e; simp at e; omega))
  replace hu2 := cl_st hu2 ew5 (by first | (intro e; simp at e; done) | (intro e; simp at e; omega))
  replace hc0 := cl_st hc0 ew5 (by first | (intro e; simp at e; done) | (intro e; simp at e; omega))
  replace hc1 := cl_st hc1 ew5 (by first | (intro e; simp at e; done) | (intro e; simp at e; omega))
  replace hc2 := cl_st hc2 ew5 (by first | (intro e; simp at e; done) | (intro e; simp at e; omega))
  replace hc3 := cl_st hc3 ew5 (by first | (intro e; simp at e; done) | (intro e; simp at e; omega))
  replace hd0 := cl_st hd0 ew5 (by first | (intro e; simp at e; done) | (intro e; simp at e; omega))
  replace hd1 := cl_st hd1 ew5 (by first | (intro e; simp at e; done) | (intro e; simp at e; omega))
  replace hd2 := cl_st hd2 ew5 (by first | (intro e; simp at e; done) | (intro e; simp at e; omega))
  replace hd3 := cl_st hd3 ew5 (by first | (intro e; simp at e; done) | (intro e; simp at e; omega))
  replace kp := kp.stN ew5 (by first | (left; simp; done) | (right; left; simp; done) | (right; right; dsimp only; omega))
  generalize ew6 : World.setCell w5 _ _ = w6
  have sz6 := sz_st ew6
  replace zu0 := fz_st zu0 ew6
  replace zu1 := fz_st zu1 ew6
  replace zu2 := fz_st zu2 ew6
  replace hu0 := cl_st hu0 ew6 (by first | (intro e; simp at e; done) | (intro e; simp at e; omega))
  replace hu1 := cl_st' hu1 ew6
  replace hu2 := cl_st hu2 ew6 (by first | (intro e; simp at e; done) | (intro e; simp at e; omega))
  replace hc0 := cl_st hc0 ew6 (by first | (intro e; simp at e; done) | (intro e; simp at e; omega))
  replace hc1 := cl_st hc1 ew6 (by first | (intro e; simp at e; done) | (intro e; simp at e; omega))
  replace hc2 := cl_st hc2 ew6 (by first | (intro e; simp at e; done) | (intro e; simp at e; omega))
  replace hc3 := cl_st hc3 ew6 (by first | (intro e; simp at e; done) | (intro e; simp at e; omega))
  replace hd0 := cl_st hd0 ew6 (by first | (intro e; simp at e; done) | (intro e; simp at e; omega))
  replace hd1 := cl_st hd1 ew6 (by first | (intro e; simp at e; done) | (intro e; simp at e; omega))
  replace hd2 := cl_st hd2 ew6 (by first | (intro e; simp at e; done) | (intro e; simp at e; omega))
  replace hd3 := cl_st hd3 ew6 (by first | (intro e; simp at e; done) | (intro e; simp at e; omega))
  replace kp := kp.stN ew6 (by first | (left; simp; done) | (right; left; simp; done) | (right; right; dsimp only; omega))
  generalize ew7 : World.setCell w6 _ _ = w7
  have sz7 := sz_st ew7
  replace zu0 := fz_st zu0 ew7
  replace zu1 := fz_st zu1 ew7
  replace zu2 := fz_st zu2 ew7
  replace hu0 := cl_st hu0 ew7 (by first | (intro e; simp at e; done) | (intro e; simp at e; omega))
  replace hu1 := cl_st hu1 ew7 (by first | (intro e; simp at e; done) | (intro e; simp at e; omega))
  replace hu2 := cl_st' hu2 ew7
  replace hc0 := cl_st hc0 ew7 (by first | (intro e; simp at e; done) | (intro e; simp at e; omega))
  replace hc1 := cl_st hc1 ew7 (by first | (intro e; simp at e; done) | (intro e; simp at e; omega))
  replace hc2 := cl_st hc2 ew7 (by first | (intro e; simp at e; done) | (intro e; simp at e; omega))
  replace hc3 := cl_st hc3 ew7 (by first | (intro e; simp at e; done) | (intro e; simp at e; omega))
  replace hd0 := cl_st hd0 ew7 (by first | (intro e; simp at e; done) | (intro e; simp at e; omega))
  replace hd1 := cl_st hd1 ew7 (by first | (intro e; simp at e; done) | (intro e; simp at e; omega))
  replace hd2 := cl_st hd2 ew7 (by first | (intro e; simp at e; done) | (intro e; simp at e; omega))
  replace hd3 := cl_st hd3 ew7 (by first | (intro e; simp at e; done) | (intro e; simp at e; omega))
  replace kp := kp.stN ew7 (by first | (left; simp; done) | (right; left; simp; done) | (right; right; dsimp only; omega))
  refine F.re ?_
  refine F.ctl (fun _ => stepG_ret') ?_
  refine F.unwindC rfl Tryz.func64 (by rfl) rfl ?_
  simp only [Tryz.ntmps64, List.size_toArray, List.length_cons, List.length_nil, Nat.reduceAdd, Nat.reduceSub, Array.replicate_succ, Array.replicate_zero, List.push_toArray, List.append_toArray, List.nil_append, List.cons_append]
  refine F.rr ?_
  simp only [rg, Nat.reduceAdd]
  refine F.recoverNil rfl rfl rfl rfl rfl rfl ?_
  walk_nrm
  refine F.oq rfl rfl rfl (fun _ => by simp [go_sem]) fun d K hK => ?_; go_simp; refine hK _ ?_; clear hK K d; try walk_nrm
  refine F.op rfl rfl (by decide) (fun d K hK => ?_)
  go_simp
  rw [setCell_at']
  refine hK _ _ ⟨DX.set _ (by (first | assumption | (apply hfr <;> dsimp only <;> omega) | (apply hok; simp; done))) (fun e he => ?_), ?_⟩
  · have hm := mem_listed he
    simp [go_sem, storedEv, evst_slice, evst_ptr, evst_iface, evst_nil, evst_bool, *] at hm
    subst hm
    exact .inl ⟨_, rfl, rfl, by (first | assumption | (apply hfr <;> dsimp only <;> omega) | (apply hok; simp; done)), by show _ < (World.setCell _ _ _).heap.size; simp [World.setCell]; first | omega | exact lt_of_cell (by assumption)⟩
  clear hK K d
  try walk_nrm
  generalize ew8 : World.setCell w7 _ _ = w8
  have sz8 := sz_st ew8
  replace zu0 := fz_st zu0 ew8
  replace zu1 := fz_st zu1 ew8
  replace zu2 := fz_st zu2 ew8
  replace hu0 := cl_st hu0 ew8 (by first | (intro e; simp at e; done) | (intro e; simp at e; omega))
  replace hu1 := cl_st hu1 ew8 (by first | (intro e; simp at e; done) | (intro e; simp at e; omega))
  replace hu2 := cl_st' hu2 ew8
  replace hc0 := cl_st hc0 ew8 (by first | (intro e; simp at e; done) | (intro e; simp at e; omega))
  replace hc1 := cl_st hc1 ew8 (by first | (intro e; simp at e; done) | (intro e; simp at e; omega))
  replace hc2 := cl_st hc2 ew8 (by first | (intro e; simp at e; done) | (intro e; simp at e; omega))
  replace hc3 := cl_st hc3 ew8 (by first | (intro e; simp at e; done) | (intro e; simp at e; omega))
  replace hd0 := cl_st hd0 ew8 (by first | (intro e; simp at e; done) | (intro e; simp at e; omega))
  replace hd1 := cl_st hd1 ew8 (by first | (intro e; simp at e; done) | (intro e; simp at e; omega))
  replace hd2 := cl_st hd2 ew8 (by first | (intro e; simp at e; done) | (intro e; simp at e; omega))
  replace hd3 := cl_st hd3 ew8 (by first | (intro e; simp at e; done) | (intro e; simp at e; omega))
  replace kp := kp.stN ew8 (by first | (left; simp; done) | (right; left; simp; done) | (right; right; dsimp only; omega))
  refine F.re ?_
  refine F.ctl (fun _ => stepG_end) ?_
  refine F.leaveD rfl rfl Tryz.func64 (resultsC_none (by rfl) _) rfl ?_
  refine F.leaveE (v := .agg #[.int .i64 0, .iface 168 (.pointer (some ⟨p, 0, none⟩)), .nilIface]) rfl rfl Tryz.func52 (fun d => ?_) (fun d es hes => DX.still _ (fun e he => ?_)) ?_
  · simp [results, go_sem, *]
  · have hm := hes e he
    simp [results, go_sem, *] at hm
    rcases hm with rfl | rfl | rfl <;> exact .inl ⟨_, rfl, rfl, by (first | assumption | (refine hfr _ _ ?_; dsimp only; omega)), lt_of_cell (w := w8) (by assumption)⟩
  have r := r12.fresh kp (by omega)
  have H8 : CW e w8 _ _ _ _ := H2.keep kp (by intro x hx; simp at hx; subst hx; right; right; exact ⟨by omega, b2', b1'⟩) l1 l2 l3 (by simp)
  exact hc _ _ ⟨en2, ev2, m2, q, p, H8, r, rfl, g1, g2, by omega, by omega, g3, g4, g5, g6, hc0, hc1, hc2, hc3, hd0, hd1, hd2, hd3⟩

end Go.Proofs.YtobagnjnbmgidaaGreatDoor
