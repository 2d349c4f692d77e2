/- A call through the layers, as an outcome. -/
import Derived.Test.YtobagnjnbmgidaaGreatDoorX25
import Derived.Test.YtobagnjnbmgidaaGreatDoorX30
set_option linter.unusedSimpArgs false
set_option linter.unusedVariables false
namespace Go.Proofs.YtobagnjnbmgidaaGreatDoor
open Go.Conc Go.RowKit Go.Extern
variable {Ok : Addr → Bool → Prop}

theorem evNN20 (w : World) : (binOp .eql 20 .nilIface .nilIface).events Tryz.prog w #[] = #[] := by kernel_rfl
theorem evNe20 (w : World) : (binOp .neq 20 .nilIface .nilIface).events Tryz.prog w #[] = #[] := by kernel_rfl
theorem evNe121n (w : World) : (binOp .neq 121 .nilIface .nilIface).events Tryz.prog w #[] = #[] := by kernel_rfl
theorem evNe121 (t : TypeId) (p : Value) (w : World) : (binOp .neq 121 (.iface t p) .nilIface).events Tryz.prog w #[] = #[] := by kernel_rfl

set_option maxRecDepth 100000 in
set_option maxHeartbeats 8000000 in
theorem callV_w (e : Env) (K : EnvOk e Ok) (hcl : e.cl = 0) (en ev : Value) (now nn tk : Int) (m : Nat) (X HD C TB n k : Nat) (tt : Nat → Int × Int × Int) (w0 : World) (H : CW e w0 now en ev m) (hm : m < 900) (S : BkS e Ok X HD C TB) (Q : Bk e X HD C TB n tt w0 k) (hk : k < n) (hwk : IntKind.i64.wrap ((k : Int) + 1) = k + 1) (hkd : (tt k).1 = 1) (hnn : (tt k).2.1 = nn) (htt : (tt k).2.2 = tk) (htk : (0 : Int) < tk) (hwr : IntKind.i64.wrap (now + tk) = now + tk) :
    CallsW e Ok 38 #[.iface 138 (.pointer (some ⟨X, 0, none⟩)), .pointer (some ⟨e.T, 0, none⟩)] w0 fun v w' => v = .agg #[.int .i64 (now + tk), .int .i64 1, .int .i64 nn, .slice none 0 0] ∧ ∃ en' ev', CW e w' (now + tk) en' ev' (m + 2) ∧ Ru e HD w0 en ev w' en' ev' := by
  intro Ψ0 Ψ1 W c cs hc
  have F := W.f0
  have l1 := K.lA
  have l2 := K.lT
  have l3 := K.lJ
  have hsz := H.size
  have hsX := H.sX
  have hnX := H.nX
  have hfr : ∀ (a : Addr) (wr : Bool), e.X + 1 ≤ a.block → Ok a wr := fun a wr h => K.fr a wr (by omega) (by omega)
  have t5 := evNN20
  have t6 := evNe20
  have t7 := evNe121n
  have t8 := evNe121
  rw [enter_at _ Tryz.func38 rfl]
  simp only [Tryz.ntmps38, List.size_toArray, List.length_cons, List.length_nil, Nat.reduceAdd, Nat.reduceSub, Array.replicate_succ, Array.replicate_zero, List.push_toArray, List.append_toArray, List.nil_append, List.cons_append]
  refine F.sr ?_
  simp only [rg, Nat.reduceAdd]
  refine F.op rfl rfl (by decide) (fun d K hK => ?_)
  go_simp
  rw [alloc_at']
  refine hK _ _ ⟨DX.alloc _ _ (fun e he => ?_), ?_⟩
  · have hm := mem_listed he
    simp [go_sem] at hm
  clear hK K d
  try walk_nrm
  generalize ew1 : World.alloc w0 _ = w1
  generalize hn1 : (World.heap w0).size = n1
  have sz1 := sz_al ew1 hn1
  have ho0 := cl_new (i := 0) ew1 hn1 rfl
  try simp only [List.getElem_toArray, List.getElem_cons_zero, List.getElem_cons_succ] at ho0
  have zo0 := fz_new ew1 hn1 0
  have ho1 := cl_new (i := 1) ew1 hn1 rfl
  try simp only [List.getElem_toArray, List.getElem_cons_zero, List.getElem_cons_succ] at ho1
  have zo1 := fz_new ew1 hn1 1
  have ho2 := cl_new (i := 2) ew1 hn1 rfl
  try simp only [List.getElem_toArray, List.getElem_cons_zero, List.getElem_cons_succ] at ho2
  have zo2 := fz_new ew1 hn1 2
  have ho3 := cl_new (i := 3) ew1 hn1 rfl
  try simp only [List.getElem_toArray, List.getElem_cons_zero, List.getElem_cons_succ] at ho3
  have zo3 := fz_new ew1 hn1 3
  have kp : Kp [] w0 w0 [] := Kp.refl _
  replace kp := kp.alN ew1
  refine F.esr ?_
  simp only [rg, Nat.reduceAdd]
  iterate 2 (refine F.oq rfl rfl rfl (fun _ => by simp [go_sem]) fun d K hK => ?_; go_simp; refine hK _ ?_; clear hK K d; try walk_nrm)
  have k1 : Kp [] w0 w1 := Kp.alloc ew1
  have r1 : Ru e HD w0 en ev w1 en ev := Ru.own k1 (by simp)
  have H1 : CW e w1 _ en ev _ := H.keep k1 (by simp) l1 l2 l3 (by simp)
  have b1 : n1 ∉ rowL ev := fun z => by have := (H.rowN z).2; omega
  have b2 : n1 ∉ rowL en := fun z => by have := (H.entN z).2; omega
  have Q1 := Q.ru S r1 H (k1.cell _ _ (by simp) Q.h0) ((k1.froz _ _ (by simp) Q.h0).trans Q.zh)
  refine F.enter rfl rfl (by decide) (fun _ => run_call_body rfl Tryz.func52 (by rfl) (by rfl)) (fun _ => events_call_body rfl Tryz.func52 (by rfl) (by rfl) _) ?_
  walk_nrm
  refine ansV_w e K hcl en ev now nn tk m X HD C TB n k tt w1 H1 hm S Q1 hk hwk hkd hnn htt htk hwr Ψ0 Ψ1 W _ _ (fun v w2 hp => ?_)
  obtain ⟨rfl, en2, ev2, H2, r2⟩ := hp
  have hs2 := r2.kp.size
  obtain ⟨ho0, z0, b1', b2'⟩ := r2.temp K S.lH (by omega) b1 b2 ho0
  obtain ⟨ho1, z1, _⟩ := r2.temp K S.lH (by omega) b1 b2 ho1
  obtain ⟨ho2, z2, _⟩ := r2.temp K S.lH (by omega) b1 b2 ho2
  obtain ⟨ho3, z3, _⟩ := r2.temp K S.lH (by omega) b1 b2 ho3
  replace zo0 := z0.trans zo0
  replace zo1 := z1.trans zo1
  replace zo2 := z2.trans zo2
  replace zo3 := z3.trans zo3
  clear z0 z1 z2 z3 kp
  have r12 := r1.trans r2
  have hn1' : w0.heap.size ≤ n1 ∧ n1 ≤ w0.heap.size ∧ n1 < w2.heap.size := ⟨Nat.le_of_eq hn1, Nat.le_of_eq hn1.symm, lt_of_cell ho0⟩
  clear hn1 sz1 ew1
  have kp : Kp [n1] w2 w2 := Kp.refl _
  have hT0 := H2.t0
  have hA0 := H2.a0
  rw [Frame.finish_at]
  try walk_nrm
  refine F.op rfl rfl (by decide) (fun d K hK => ?_)
  go_simp
  rw [alloc_at']
  refine hK _ _ ⟨DX.alloc _ _ (fun e he => ?_), ?_⟩
  · have hm := mem_listed he
    simp [go_sem] at hm
  clear hK K d
  try walk_nrm
  generalize ew3 : World.alloc w2 _ = w3
  generalize hn3 : (World.heap w2).size = n3
  have sz3 := sz_al ew3 hn3
  replace zo0 := fz_al zo0 ho0 ew3
  replace zo1 := fz_al zo1 ho1 ew3
  replace zo2 := fz_al zo2 ho2 ew3
  replace zo3 := fz_al zo3 ho3 ew3
  replace ho0 := cl_al ho0 ew3
  replace ho1 := cl_al ho1 ew3
  replace ho2 := cl_al ho2 ew3
  replace ho3 := cl_al ho3 ew3
  replace hT0 := cl_al hT0 ew3
  replace hA0 := cl_al hA0 ew3
  have hu0 := cl_new (i := 0) ew3 hn3 rfl
  try simp only [List.getElem_toArray, List.getElem_cons_zero, List.getElem_cons_succ] at hu0
  have zu0 := fz_new ew3 hn3 0
  have hu1 := cl_new (i := 1) ew3 hn3 rfl
  try simp only [List.getElem_toArray, List.getElem_cons_zero, List.getElem_cons_succ] at hu1
  have zu1 := fz_new ew3 hn3 1
  have hu2 := cl_new (i := 2) ew3 hn3 rfl
  try simp only [List.getElem_toArray, List.getElem_cons_zero, List.getElem_cons_succ] at hu2
  have zu2 := fz_new ew3 hn3 2
  replace kp := kp.alN ew3
  refine F.op rfl rfl (by decide) (fun d K hK => ?_)
  go_simp
  repeat rw [setCell_at']
  refine hK _ _ ⟨DX.set3 _ (by (first | assumption | exact hrb _ rfl | (apply hfr <;> dsimp only <;> omega) | (apply hok; simp; done))) (by (first | assumption | exact hrb _ rfl | (apply hfr <;> dsimp only <;> omega) | (apply hok; simp; done))) (by (first | assumption | exact hrb _ rfl | (apply hfr <;> dsimp only <;> omega) | (apply hok; simp; done))) (fun e he => ?_), ?_⟩
  · have hm := mem_listed he
    simp [go_sem, storedEv, evst_slice, evst_ptr, evst_iface, evst_nil, evst_bool, *] at hm
    rcases hm with rfl | rfl | rfl <;> exact .inl ⟨_, rfl, rfl, by (first | assumption | exact hrb _ rfl | (apply hfr <;> dsimp only <;> omega) | (apply hok; simp; done)), by simp only [size_at, size_set]; first | omega | exact lt_of_cell (by assumption)⟩
  clear hK K d
  try walk_nrm
  generalize ew4 : World.setCell w3 _ _ = w4
  have sz4 := sz_st ew4
  replace zo0 := fz_st zo0 ew4
  replace zo1 := fz_st zo1 ew4
  replace zo2 := fz_st zo2 ew4
  replace zo3 := fz_st zo3 ew4
  replace zu0 := fz_st zu0 ew4
  replace zu1 := fz_st zu1 ew4
  replace zu2 := fz_st zu2 ew4
  replace ho0 := cl_st ho0 ew4 (by first | (intro e; simp at e; done) | (intro e; simp at e; omega) | (intro e; have e1 := congrArg Addr.block e; dsimp only at e1; omega))
  replace ho1 := cl_st ho1 ew4 (by first | (intro e; simp at e; done) | (intro e; simp at e; omega) | (intro e; have e1 := congrArg Addr.block e; dsimp only at e1; omega))
  replace ho2 := cl_st ho2 ew4 (by first | (intro e; simp at e; done) | (intro e; simp at e; omega) | (intro e; have e1 := congrArg Addr.block e; dsimp only at e1; omega))
  replace ho3 := cl_st ho3 ew4 (by first | (intro e; simp at e; done) | (intro e; simp at e; omega) | (intro e; have e1 := congrArg Addr.block e; dsimp only at e1; omega))
  replace hT0 := cl_st hT0 ew4 (by first | (intro e; simp at e; done) | (intro e; simp at e; omega) | (intro e; have e1 := congrArg Addr.block e; dsimp only at e1; omega))
  replace hA0 := cl_st hA0 ew4 (by first | (intro e; simp at e; done) | (intro e; simp at e; omega) | (intro e; have e1 := congrArg Addr.block e; dsimp only at e1; omega))
  replace hu0 := cl_st' hu0 ew4
  replace hu1 := cl_st hu1 ew4 (by first | (intro e; simp at e; done) | (intro e; simp at e; omega) | (intro e; have e1 := congrArg Addr.block e; dsimp only at e1; omega))
  replace hu2 := cl_st hu2 ew4 (by first | (intro e; simp at e; done) | (intro e; simp at e; omega) | (intro e; have e1 := congrArg Addr.block e; dsimp only at e1; omega))
  replace kp := kp.stN ew4 (by first | (left; simp; done) | (right; left; simp; done) | (right; right; dsimp only; omega))
  generalize ew5 : World.setCell w4 _ _ = w5
  have sz5 := sz_st ew5
  replace zo0 := fz_st zo0 ew5
  replace zo1 := fz_st zo1 ew5
  replace zo2 := fz_st zo2 ew5
  replace zo3 := fz_st zo3 ew5
  replace zu0 := fz_st zu0 ew5
  replace zu1 := fz_st zu1 ew5
  replace zu2 := fz_st zu2 ew5
  replace ho0 := cl_st ho0 ew5 (by first | (intro e; simp at e; done) | (intro e; simp at e; omega) | (intro e; have e1 := congrArg Addr.block e; dsimp only at e1; omega))
  replace ho1 := cl_st ho1 ew5 (by first | (intro e; simp at e; done) | (intro e; simp at e; omega) | (intro e; have e1 := congrArg Addr.block e; dsimp only at e1; omega))
  replace ho2 := cl_st ho2 ew5 (by first | (intro e; simp at e; done) | (intro e; simp at e; omega) | (intro e; have e1 := congrArg Addr.block e; dsimp only at e1; omega))
  replace ho3 := cl_st ho3 ew5 (by first | (intro e; simp at e; done) | (intro e; simp at e; omega) | (intro e; have e1 := congrArg Addr.block e; dsimp only at e1; omega))
  replace hT0 := cl_st hT0 ew5 (by first | (intro e; simp at e; done) | (intro e; simp at e; omega) | (intro e; have e1 := congrArg Addr.block e; dsimp only at e1; omega))
  replace hA0 := cl_st hA0 ew5 (by first | (intro e; simp at e; done) | (intro e; simp at e; omega) | (intro e; have e1 := congrArg Addr.block e; dsimp only at e1; omega))
  replace hu0 := cl_st hu0 ew5 (by first | (intro e; simp at e; done) | (intro e; simp at e; omega) | (intro e; have e1 := congrArg Addr.block e; dsimp only at e1; omega))
  replace hu1 := cl_st' hu1 ew5
  replace hu2 := cl_st hu2 ew5 (by first | (intro e; simp at e; done) | (intro e; simp at e; omega) | (intro e; have e1 := congrArg Addr.block e; dsimp only at e1; omega))
  replace kp := kp.stN ew5 (by first | (left; simp; done) | (right; left; simp; done) | (right; right; dsimp only; omega))
  generalize ew6 : World.setCell w5 _ _ = w6
  have sz6 := sz_st ew6
  replace zo0 := fz_st zo0 ew6
  replace zo1 := fz_st zo1 ew6
  replace zo2 := fz_st zo2 ew6
  replace zo3 := fz_st zo3 ew6
  replace zu0 := fz_st zu0 ew6
  replace zu1 := fz_st zu1 ew6
  replace zu2 := fz_st zu2 ew6
  replace ho0 := cl_st ho0 ew6 (by first | (intro e; simp at e; done) | (intro e; simp at e; omega) | (intro e; have e1 := congrArg Addr.block e; dsimp only at e1; omega))
  replace ho1 := cl_st ho1 ew6 (by first | (intro e; simp at e; done) | (intro e; simp at e; omega) | (intro e; have e1 := congrArg Addr.block e; dsimp only at e1; omega))
  replace ho2 := cl_st ho2 ew6 (by first | (intro e; simp at e; done) | (intro e; simp at e; omega) | (intro e; have e1 := congrArg Addr.block e; dsimp only at e1; omega))
  replace ho3 := cl_st ho3 ew6 (by first | (intro e; simp at e; done) | (intro e; simp at e; omega) | (intro e; have e1 := congrArg Addr.block e; dsimp only at e1; omega))
  replace hT0 := cl_st hT0 ew6 (by first | (intro e; simp at e; done) | (intro e; simp at e; omega) | (intro e; have e1 := congrArg Addr.block e; dsimp only at e1; omega))
  replace hA0 := cl_st hA0 ew6 (by first | (intro e; simp at e; done) | (intro e; simp at e; omega) | (intro e; have e1 := congrArg Addr.block e; dsimp only at e1; omega))
  replace hu0 := cl_st hu0 ew6 (by first | (intro e; simp at e; done) | (intro e; simp at e; omega) | (intro e; have e1 := congrArg Addr.block e; dsimp only at e1; omega))
  replace hu1 := cl_st hu1 ew6 (by first | (intro e; simp at e; done) | (intro e; simp at e; omega) | (intro e; have e1 := congrArg Addr.block e; dsimp only at e1; omega))
  replace hu2 := cl_st' hu2 ew6
  replace kp := kp.stN ew6 (by first | (left; simp; done) | (right; left; simp; done) | (right; right; dsimp only; omega))
  refine F.es ?_
  refine F.bl ?_
  refine F.sr ?_
  simp only [rg, Nat.reduceAdd]
  refine F.oq rfl rfl rfl (fun _ => by simp [go_sem]) fun d K hK => ?_; go_simp; refine hK _ ?_; clear hK K d; try walk_nrm
  refine F.op rfl rfl (by decide) (fun d K hK => ?_)
  go_simp
  refine hK _ _ ⟨DX.still _ (fun e he => ?_), ?_⟩
  · have hm := mem_listed he
    simp [go_sem, *] at hm
    subst hm
    exact .inl ⟨_, rfl, rfl, by (first | assumption | exact hrb _ rfl | (apply hfr <;> dsimp only <;> omega) | (apply hok; simp; done)), lt_of_cell (w := w6) (by assumption)⟩
  clear hK K d
  try walk_nrm
  iterate 2 (refine F.oq rfl rfl rfl (fun _ => by first | (simp [go_sem]; done) | simp [go_sem, Instr.makeInterface, Instr.makeFunc, *]) fun d K hK => ?_; go_simp; refine hK _ ?_; clear hK K d; try walk_nrm)
  refine F.re ?_
  refine F.cf rfl ?_
  refine F.sr ?_
  simp only [rg, Nat.reduceAdd]
  refine F.oq rfl rfl rfl (fun _ => by simp [go_sem]) fun d K hK => ?_; go_simp; refine hK _ ?_; clear hK K d; try walk_nrm
  refine F.op rfl rfl (by decide) (fun d K hK => ?_)
  go_simp
  refine hK _ _ ⟨DX.still _ (fun e he => ?_), ?_⟩
  · have hm := mem_listed he
    simp [go_sem, *] at hm
    subst hm
    exact .inl ⟨_, rfl, rfl, by (first | assumption | exact hrb _ rfl | (apply hfr <;> dsimp only <;> omega) | (apply hok; simp; done)), lt_of_cell (w := w6) (by assumption)⟩
  clear hK K d
  try walk_nrm
  iterate 2 (refine F.oq rfl rfl rfl (fun _ => by first | (simp [go_sem]; done) | simp [go_sem, Instr.makeInterface, Instr.makeFunc, *]) fun d K hK => ?_; go_simp; refine hK _ ?_; clear hK K d; try walk_nrm)
  refine F.re ?_
  refine F.cf rfl ?_
  refine F.sk ?_
  refine F.ib ?_
  refine F.sq ?_
  refine F.drawA (γ := Unit) (n := 6) mixed [[], [0], [], [2], [1, 3], [0, 1, 2, 3, 4]] rfl (by kernel_rfl) (fun b g => [(29, sel (b 0) (.pointer (some ⟨e.T, 0, none⟩)) (undef)), (30, sel (b 1) (.int .i64 (now + tk)) (undef)), (31, sel (b 2) (.pointer (some ⟨n3, 0, none⟩)) (undef)), (32, sel (b 3) (.int .i64 nn) (undef)), (33, sel (b 4) (.agg #[.int .i64 (now + tk), .int .i64 1, .int .i64 nn, .slice none 0 0]) (undef))]) (fun b g w => (b 5 = false → w = w6) ∧ (b 5 = true → ( Kp [n1] w2 w ∧ w.cell? ⟨n1, 0, none⟩ = some (.int .i64 (now + tk)) ∧ w.cell? ⟨n1, 1, none⟩ = some (.int .i64 1) ∧ w.cell? ⟨n1, 2, none⟩ = some (.int .i64 nn) ∧ w.cell? ⟨n1, 3, none⟩ = some (.slice none 0 0)))) (()) (by simp only [pu, Nat.reduceAdd, Nat.reduceEqDiff, reduceIte]) (⟨fun _ => rfl, fun h => by cases h⟩) (all_cons ?_ (all_cons ?_ (all_cons ?_ (all_cons ?_ (all_cons ?_ (all_cons ?_ (all_nil))))))) ?_
  · intro b g w hI hcl hbi hdp rest hre hkk
    obtain ⟨hwf, hwt⟩ := hI
    replace hbi : b 0 = false := hbi
    have nb1 : b 1 = false := nbf (fun h => hcl 1 (by decide) h 0 (by decide)) hbi
    have nb5 : b 5 = false := nbf (fun h => hcl 5 (by decide) h 0 (by decide)) hbi
    have ewc := (hwf nb5).symm
    subst ewc
    simp only [nb1, nb5, hbi, pu, Nat.reduceAdd, Nat.reduceEqDiff, reduceIte]
    refine F.oq rfl rfl rfl (fun _ => by simp [go_sem]) fun d K hK => ?_; go_simp; refine hK _ ?_; clear hK K d; try walk_nrm
    have hk2 := hkk g _ ⟨fun _ => rfl, fun h => no nb5 h⟩
    simp only [nb1, nb5, hbi, pu, Nat.reduceAdd, Nat.reduceEqDiff, reduceIte] at hk2
    exact hk2
  · intro b g w hI hcl hbi hdp rest hre hkk
    obtain ⟨hwf, hwt⟩ := hI
    replace hbi : b 1 = false := hbi
    have d0 : b 0 = true := hdp 0 (by decide)
    have nb4 : b 4 = false := nbf (fun h => hcl 4 (by decide) h 1 (by decide)) hbi
    have nb5 : b 5 = false := nbf (fun h => hcl 5 (by decide) h 1 (by decide)) hbi
    have ewc := (hwf nb5).symm
    subst ewc
    simp only [d0, nb4, nb5, hbi, pu, Nat.reduceAdd, Nat.reduceEqDiff, reduceIte]
    refine F.enter rfl rfl (by decide) (fun _ => run_call_body rfl Tryz.func53 (by rfl) (by rfl)) (fun _ => events_call_body rfl Tryz.func53 (by rfl) (by rfl) _) ?_
    walk_nrm
    refine now_x e.T e.A _ w6 hT0 hA0 K.t0 K.a0 _ F _ _ (fun v wq hp => ?_)
    obtain ⟨rfl, hq⟩ := hp
    have hq := hq.symm
    subst hq
    rw [Frame.finish_at]
    try walk_nrm
    have hk2 := hkk g _ ⟨fun _ => rfl, fun h => no nb5 h⟩
    simp only [d0, nb4, nb5, hbi, pu, Nat.reduceAdd, Nat.reduceEqDiff, reduceIte] at hk2
    exact hk2
  · intro b g w hI hcl hbi hdp rest hre hkk
    obtain ⟨hwf, hwt⟩ := hI
    replace hbi : b 2 = false := hbi
    have nb3 : b 3 = false := nbf (fun h => hcl 3 (by decide) h 2 (by decide)) hbi
    have nb5 : b 5 = false := nbf (fun h => hcl 5 (by decide) h 2 (by decide)) hbi
    have ewc := (hwf nb5).symm
    subst ewc
    simp only [nb3, nb5, hbi, pu, Nat.reduceAdd, Nat.reduceEqDiff, reduceIte]
    refine F.oq rfl rfl rfl (fun _ => by simp [go_sem]) fun d K hK => ?_; go_simp; refine hK _ ?_; clear hK K d; try walk_nrm
    have hk2 := hkk g _ ⟨fun _ => rfl, fun h => no nb5 h⟩
    simp only [nb3, nb5, hbi, pu, Nat.reduceAdd, Nat.reduceEqDiff, reduceIte] at hk2
    exact hk2
  · intro b g w hI hcl hbi hdp rest hre hkk
    obtain ⟨hwf, hwt⟩ := hI
    replace hbi : b 3 = false := hbi
    have d2 : b 2 = true := hdp 2 (by decide)
    have nb4 : b 4 = false := nbf (fun h => hcl 4 (by decide) h 3 (by decide)) hbi
    have nb5 : b 5 = false := nbf (fun h => hcl 5 (by decide) h 3 (by decide)) hbi
    have ewc := (hwf nb5).symm
    subst ewc
    simp only [d2, nb4, nb5, hbi, pu, Nat.reduceAdd, Nat.reduceEqDiff, reduceIte]
    refine F.op rfl rfl (by decide) (fun d K hK => ?_)
    go_simp
    refine hK _ _ ⟨DX.still _ (fun e he => ?_), ?_⟩
    · have hm := mem_listed he
      simp [go_sem, *] at hm
      subst hm
      exact .inl ⟨_, rfl, rfl, by (first | assumption | exact hrb _ rfl | (apply hfr <;> dsimp only <;> omega) | (apply hok; simp; done)), lt_of_cell (w := w6) (by assumption)⟩
    clear hK K d
    try walk_nrm
    have hk2 := hkk g _ ⟨fun _ => rfl, fun h => no nb5 h⟩
    simp only [d2, nb4, nb5, hbi, pu, Nat.reduceAdd, Nat.reduceEqDiff, reduceIte] at hk2
    exact hk2
  · intro b g w hI hcl hbi hdp rest hre hkk
    obtain ⟨hwf, hwt⟩ := hI
    replace hbi : b 4 = false := hbi
    have d1 : b 1 = true := hdp 1 (by decide)
    have d3 : b 3 = true := hdp 3 (by decide)
    have d2 : b 2 = true := hcl 3 (by decide) d3 2 (by decide)
    have d0 : b 0 = true := hcl 1 (by decide) d1 0 (by decide)
    have nb5 : b 5 = false := nbf (fun h => hcl 5 (by decide) h 4 (by decide)) hbi
    have ewc := (hwf nb5).symm
    subst ewc
    simp only [d1, d3, d2, d0, nb5, hbi, pu, Nat.reduceAdd, Nat.reduceEqDiff, reduceIte]
    refine F.oq rfl rfl rfl (fun _ => by simp [go_sem]) fun d K hK => ?_; go_simp; refine hK _ ?_; clear hK K d; try walk_nrm
    have hk2 := hkk g _ ⟨fun _ => rfl, fun h => no nb5 h⟩
    simp only [d1, d3, d2, d0, nb5, hbi, pu, Nat.reduceAdd, Nat.reduceEqDiff, reduceIte] at hk2
    exact hk2
  · intro b g w hI hcl hbi hdp rest hre hkk
    obtain ⟨hwf, hwt⟩ := hI
    replace hbi : b 5 = false := hbi
    have d0 : b 0 = true := hdp 0 (by decide)
    have d1 : b 1 = true := hdp 1 (by decide)
    have d2 : b 2 = true := hdp 2 (by decide)
    have d3 : b 3 = true := hdp 3 (by decide)
    have d4 : b 4 = true := hdp 4 (by decide)
    have ewc := (hwf hbi).symm
    subst ewc
    simp only [d0, d1, d2, d3, d4, hbi, pu, Nat.reduceAdd, Nat.reduceEqDiff, reduceIte]
    refine F.op rfl rfl (by decide) (fun d K hK => ?_)
    go_simp
    repeat rw [setCell_at']
    refine hK _ _ ⟨DX.set4 _ (by (first | assumption | exact hrb _ rfl | (apply hfr <;> dsimp only <;> omega) | (apply hok; simp; done))) (by (first | assumption | exact hrb _ rfl | (apply hfr <;> dsimp only <;> omega) | (apply hok; simp; done))) (by (first | assumption | exact hrb _ rfl | (apply hfr <;> dsimp only <;> omega) | (apply hok; simp; done))) (by (first | assumption | exact hrb _ rfl | (apply hfr <;> dsimp only <;> omega) | (apply hok; simp; done))) (fun e he => ?_), ?_⟩
    · have hm := mem_listed he
      simp [go_sem, storedEv, evst_slice, evst_ptr, evst_iface, evst_nil, evst_bool, *] at hm
      rcases hm with rfl | rfl | rfl | rfl <;> exact .inl ⟨_, rfl, rfl, by (first | assumption | exact hrb _ rfl | (apply hfr <;> dsimp only <;> omega) | (apply hok; simp; done)), by simp only [size_at, size_set]; first | omega | exact lt_of_cell (by assumption)⟩
    clear hK K d
    try walk_nrm
    generalize ew7 : World.setCell w6 _ _ = w7
    have sz7 := sz_st ew7
    replace zo0 := fz_st zo0 ew7
    replace zo1 := fz_st zo1 ew7
    replace zo2 := fz_st zo2 ew7
    replace zo3 := fz_st zo3 ew7
    replace zu0 := fz_st zu0 ew7
    replace zu1 := fz_st zu1 ew7
    replace zu2 := fz_st zu2 ew7
    replace ho0 := cl_st' ho0 ew7
    replace ho1 := cl_st ho1 ew7 (by first | (intro e; simp at e; done) | (intro e; simp at e; omega) | (intro e; have e1 := congrArg Addr.block e; dsimp only at e1; omega))
    replace ho2 := cl_st ho2 ew7 (by first | (intro e; simp at e; done) | (intro e; simp at e; omega) | (intro e; have e1 := congrArg Addr.block e; dsimp only at e1; omega))
    replace ho3 := cl_st ho3 ew7 (by first | (intro e; simp at e; done) | (intro e; simp at e; omega) | (intro e; have e1 := congrArg Addr.block e; dsimp only at e1; omega))
    replace hT0 := cl_st hT0 ew7 (by first | (intro e; simp at e; done) | (intro e; simp at e; omega) | (intro e; have e1 := congrArg Addr.block e; dsimp only at e1; omega))
    replace hA0 := cl_st hA0 ew7 (by first | (intro e; simp at e; done) | (intro e; simp at e; omega) | (intro e; have e1 := congrArg Addr.block e; dsimp only at e1; omega))
    replace hu0 := cl_st hu0 ew7 (by first | (intro e; simp at e; done) | (intro e; simp at e; omega) | (intro e; have e1 := congrArg Addr.block e; dsimp only at e1; omega))
    replace hu1 := cl_st hu1 ew7 (by first | (intro e; simp at e; done) | (intro e; simp at e; omega) | (intro e; have e1 := congrArg Addr.block e; dsimp only at e1; omega))
    replace hu2 := cl_st hu2 ew7 (by first | (intro e; simp at e; done) | (intro e; simp at e; omega) | (intro e; have e1 := congrArg Addr.block e; dsimp only at e1; omega))
    replace kp := kp.stN ew7 (by first | (left; simp; done) | (right; left; simp; done) | (right; right; dsimp only; omega))
    generalize ew8 : World.setCell w7 _ _ = w8
    have sz8 := sz_st ew8
    replace zo0 := fz_st zo0 ew8
    replace zo1 := fz_st zo1 ew8
    replace zo2 := fz_st zo2 ew8
    replace zo3 := fz_st zo3 ew8
    replace zu0 := fz_st zu0 ew8
    replace zu1 := fz_st zu1 ew8
    replace zu2 := fz_st zu2 ew8
    replace ho0 := cl_st ho0 ew8 (by first | (intro e; simp at e; done) | (intro e; simp at e; omega) | (intro e; have e1 := congrArg Addr.block e; dsimp only at e1; omega))
    replace ho1 := cl_st' ho1 ew8
    replace ho2 := cl_st ho2 ew8 (by first | (intro e; simp at e; done) | (intro e; simp at e; omega) | (intro e; have e1 := congrArg Addr.block e; dsimp only at e1; omega))
    replace ho3 := cl_st ho3 ew8 (by first | (intro e; simp at e; done) | (intro e; simp at e; omega) | (intro e; have e1 := congrArg Addr.block e; dsimp only at e1; omega))
    replace hT0 := cl_st hT0 ew8 (by first | (intro e; simp at e; done) | (intro e; simp at e; omega) | (intro e; have e1 := congrArg Addr.block e; dsimp only at e1; omega))
    replace hA0 := cl_st hA0 ew8 (by first | (intro e; simp at e; done) | (intro e; simp at e; omega) | (intro e; have e1 := congrArg Addr.block e; dsimp only at e1; omega))
    replace hu0 := cl_st hu0 ew8 (by first | (intro e; simp at e; done) | (intro e; simp at e; omega) | (intro e; have e1 := congrArg Addr.block e; dsimp only at e1; omega))
    replace hu1 := cl_st hu1 ew8 (by first | (intro e; simp at e; done) | (intro e; simp at e; omega) | (intro e; have e1 := congrArg Addr.block e; dsimp only at e1; omega))
    replace hu2 := cl_st hu2 ew8 (by first | (intro e; simp at e; done) | (intro e; simp at e; omega) | (intro e; have e1 := congrArg Addr.block e; dsimp only at e1; omega))
    replace kp := kp.stN ew8 (by first | (left; simp; done) | (right; left; simp; done) | (right; right; dsimp only; omega))
    generalize ew9 : World.setCell w8 _ _ = w9
    have sz9 := sz_st ew9
    replace zo0 := fz_st zo0 ew9
    replace zo1 := fz_st zo1 ew9
    replace zo2 := fz_st zo2 ew9
    replace zo3 := fz_st zo3 ew9
    replace zu0 := fz_st zu0 ew9
    replace zu1 := fz_st zu1 ew9
    replace zu2 := fz_st zu2 ew9
    replace ho0 := cl_st ho0 ew9 (by first | (intro e; simp at e; done) | (intro e; simp at e; omega) | (intro e; have e1 := congrArg Addr.block e; dsimp only at e1; omega))
    replace ho1 := cl_st ho1 ew9 (by first | (intro e; simp at e; done) | (intro e; simp at e; omega) | (intro e; have e1 := congrArg Addr.block e; dsimp only at e1; omega))
    replace ho2 := cl_st' ho2 ew9
    replace ho3 := cl_st ho3 ew9 (by first | (intro e; simp at e; done) | (intro e; simp at e; omega) | (intro e; have e1 := congrArg Addr.block e; dsimp only at e1; omega))
    replace hT0 := cl_st hT0 ew9 (by first | (intro e; simp at e; done) | (intro e; simp at e; omega) | (intro e; have e1 := congrArg Addr.block e; dsimp only at e1; omega))
    replace hA0 := cl_st hA0 ew9 (by first | (intro e; simp at e; done) | (intro e; simp at e; omega) | (intro e; have e1 := congrArg Addr.block e; dsimp only at e1; omega))
    replace hu0 := cl_st hu0 ew9 (by first | (intro e; simp at e; done) | (intro e; simp at e; omega) | (intro e; have e1 := congrArg Addr.block e; dsimp only at e1; omega))
    replace hu1 := cl_st hu1 ew9 (by first | (intro e; simp at e; done) | (intro e; simp at e; omega) | (intro e; have e1 := congrArg Addr.block e; dsimp only at e1; omega))
    replace hu2 := cl_st hu2 ew9 (by first | (intro e; simp at e; done) | (intro e; simp at e; omega) | (intro e; have e1 := congrArg Addr.block e; dsimp only at e1; omega))
    replace kp := kp.stN ew9 (by first | (left; simp; done) | (right; left; simp; done) | (right; right; dsimp only; omega))
    generalize ew10 : World.setCell w9 _ _ = w10
    have sz10 := sz_st ew10
    replace zo0 := fz_st zo0 ew10
    replace zo1 := fz_st zo1 ew10
    replace zo2 := fz_st zo2 ew10
    replace zo3 := fz_st zo3 ew10
    replace zu0 := fz_st zu0 ew10
    replace zu1 := fz_st zu1 ew10
    replace zu2 := fz_st zu2 ew10
    replace ho0 := cl_st ho0 ew10 (by first | (intro e; simp at e; done) | (intro e; simp at e; omega) | (intro e; have e1 := congrArg Addr.block e; dsimp only at e1; omega))
    replace ho1 := cl_st ho1 ew10 (by first | (intro e; simp at e; done) | (intro e; simp at e; omega) | (intro e; have e1 := congrArg Addr.block e; dsimp only at e1; omega))
    replace ho2 := cl_st ho2 ew10 (by first | (intro e; simp at e; done) | (intro e; simp at e; omega) | (intro e; have e1 := congrArg Addr.block e; dsimp only at e1; omega))
    replace ho3 := cl_st' ho3 ew10
    replace hT0 := cl_st hT0 ew10 (by first | (intro e; simp at e; done) | (intro e; simp at e; omega) | (intro e; have e1 := congrArg Addr.block e; dsimp only at e1; omega))
    replace hA0 := cl_st hA0 ew10 (by first | (intro e; simp at e; done) | (intro e; simp at e; omega) | (intro e; have e1 := congrArg Addr.block e; dsimp only at e1; omega))
    replace hu0 := cl_st hu0 ew10 (by first | (intro e; simp at e; done) | (intro e; simp at e; omega) | (intro e; have e1 := congrArg Addr.block e; dsimp only at e1; omega))
    replace hu1 := cl_st hu1 ew10 (by first | (intro e; simp at e; done) | (intro e; simp at e; omega) | (intro e; have e1 := congrArg Addr.block e; dsimp only at e1; omega))
    replace hu2 := cl_st hu2 ew10 (by first | (intro e; simp at e; done) | (intro e; simp at e; omega) | (intro e; have e1 := congrArg Addr.block e; dsimp only at e1; omega))
    replace kp := kp.stN ew10 (by first | (left; simp; done) | (right; left; simp; done) | (right; right; dsimp only; omega))
    have hk2 := hkk g _ ⟨fun h => by simp [tick] at h, fun _ => ⟨kp, ho0, ho1, ho2, ho3⟩⟩
    simp only [d0, d1, d2, d3, d4, hbi, pu, Nat.reduceAdd, Nat.reduceEqDiff, reduceIte] at hk2
    exact hk2
  intro b g w hI hall
  obtain ⟨hwf, hwt⟩ := hI
  simp only [hall 0 (by decide), hall 1 (by decide), hall 2 (by decide), hall 3 (by decide), hall 4 (by decide), hall 5 (by decide), pu, Nat.reduceAdd, Nat.reduceEqDiff, reduceIte]
  obtain ⟨kp', ho0', ho1', ho2', ho3'⟩ := hwt (hall 5 (by decide))
  clear hwf hwt hall
  refine F.re ?_
  refine F.ctl (fun _ => stepG_ret') ?_
  refine F.leaveE (v := .agg #[.int .i64 (now + tk), .int .i64 1, .int .i64 nn, .slice none 0 0]) rfl rfl Tryz.func38 (fun d => ?_) (fun d es hes => DX.still _ (fun e he => ?_)) ?_
  · simp [results, go_sem, *]
  · have hm := hes e he
    simp [results, go_sem, *] at hm
    rcases hm with rfl | rfl | rfl | rfl <;> exact .inl ⟨_, rfl, rfl, by (first | assumption | (refine hfr _ _ ?_; dsimp only; omega)), lt_of_cell (w := w) (by assumption)⟩
  have r := r12.fresh kp' (by omega)
  have H8 : CW e w _ _ _ _ := H2.keep kp' (by intro x hx; simp at hx; subst hx; right; right; exact ⟨by omega, b2', b1'⟩) l1 l2 l3 (by simp)
  exact hc _ _ ⟨rfl, en2, ev2, H8, r⟩

end Go.Proofs.YtobagnjnbmgidaaGreatDoor
