/- A call through the retry, as an outcome. -/
import Derived.Test.YtobagnjnbmgidaaGreatDoorX26
set_option linter.unusedSimpArgs false
set_option linter.unusedVariables false
namespace Go.Proofs.YtobagnjnbmgidaaGreatDoor
open Go.Conc Go.RowKit Go.Extern
variable {Ok : Addr → Bool → Prop}

def xsC : List Value := [.int .i64 7, .int .i64 0, .int .i64 0, .int .i64 1, .int .i64 (-1), .int .i64 3]
def Ch2 (w : World) (g : Nat) : Prop := ∀ j u, xsC[j]? = some u → w.cell? ⟨g, j, none⟩ = some u
theorem Ch2.kp {L : List Nat} {C : List Addr} {w w' : World} {g : Nat} (h : Ch2 w g) (k : Kp L w w' C) (hL : g ∉ L) (hC : ∀ x ∈ C, x.block ≠ g) : Ch2 w' g :=
  fun j u hj => k.cellC _ _ hL (fun z => hC _ z rfl) (h j u hj)
theorem ch2_of {w : World} {base : Nat} {v : Value} (h : w.ownsRow base 48 3 v 2 xsC) : ∃ g cap, v = .slice (some ⟨g, 0, none⟩) 2 cap ∧ base ≤ g ∧ g < w.heap.size ∧ Ch2 w g := by
  have hcl := fun g hg => h.cells (g := g) hg
  have hlt := h.lt
  rcases h.2 with ⟨_, h2⟩ | ⟨g, cap, cur, rfl, _⟩
  · omega
  · have hb : (Value.slice (some ⟨g, 0, none⟩) 2 cap).ownBlock = some g := rfl
    exact ⟨g, cap, rfl, (hlt g hb).1, (hlt g hb).2, fun j u hj => by
      have e : (⟨g, 0, none⟩ : Addr).add j = ⟨g, j, none⟩ := by unfold Addr.add; split <;> simp_all
      have := hcl g hb j u hj
      rw [e] at this
      exact this⟩

set_option maxRecDepth 100000 in
set_option maxHeartbeats 8000000 in
theorem callR_w (e : Env) (K : EnvOk e Ok) (hcl : e.cl = 0) (en ev : Value) (X B HD C TB : Nat) (w0 : World) (hN0 : 0 < e.N) (oG : Ok ⟨0, 0, none⟩ false) (d1 : 0 ≠ e.J ∧ 0 ≠ HD ∧ 0 ≠ e.A ∧ 0 ≠ e.T) (hg : w0.cell? ⟨0, 0, none⟩ = some (.iface 217 (.agg #[.pointer (some ⟨1, 121, none⟩)]))) (H : CW e w0 0 en ev 0) (S : BkS e Ok B HD C TB) (Q : Bk e B HD C TB 3 turns3 w0 0) (hR : X < e.N) (hR1 : X ≠ e.J) (hR2 : X ≠ HD) (hR3 : X ≠ e.A) (hR4 : X ≠ e.T) (Y : Rt e X B w0) (oR : ∀ i, Ok ⟨X, i, none⟩ false) :
    CallsW e Ok 38 #[.iface 141 (.pointer (some ⟨X, 0, none⟩)), .pointer (some ⟨e.T, 0, none⟩)] w0 fun v w' => ∃ g cap, v = .agg #[.int .i64 28, .int .i64 2, .int .i64 0, .slice (some ⟨g, 0, none⟩) 2 cap] ∧ w0.heap.size ≤ g ∧ g < w'.heap.size ∧ Ch2 w' g ∧ ∃ en' ev' m, CW e w' 28 en' ev' m ∧ Ru e HD w0 en ev w' en' ev' := by
  intro Ψ0 Ψ1 W c cs hc
  have F := W.f0
  have l1 := K.lA
  have l2 := K.lT
  have l3 := K.lJ
  have hsz := H.size
  have hsX := H.sX
  have hnX := H.nX
  have hfr : ∀ (a : Addr) (wr : Bool), e.X + 1 ≤ a.block → Ok a wr := fun a wr h => K.fr a wr (by omega) (by omega)
  have t5 := evNN20
  have t6 := evNe20
  have t7 := evNe121n
  have t8 := evNe121
  rw [enter_at _ Tryz.func38 rfl]
  simp only [Tryz.ntmps38, List.size_toArray, List.length_cons, List.length_nil, Nat.reduceAdd, Nat.reduceSub, Array.replicate_succ, Array.replicate_zero, List.push_toArray, List.append_toArray, List.nil_append, List.cons_append]
  refine F.sr ?_
  simp only [rg, Nat.reduceAdd]
  refine F.op rfl rfl (by decide) (fun d K hK => ?_)
  go_simp
  rw [alloc_at']
  refine hK _ _ ⟨DX.alloc _ _ (fun e he => ?_), ?_⟩
  · have hm := mem_listed he
    simp [go_sem] at hm
  clear hK K d
  try walk_nrm
  generalize ew1 : World.alloc w0 _ = w1
  generalize hn1 : (World.heap w0).size = n1
  have sz1 := sz_al ew1 hn1
  have ho0 := cl_new (i := 0) ew1 hn1 rfl
  try simp only [List.getElem_toArray, List.getElem_cons_zero, List.getElem_cons_succ] at ho0
  have zo0 := fz_new ew1 hn1 0
  have ho1 := cl_new (i := 1) ew1 hn1 rfl
  try simp only [List.getElem_toArray, List.getElem_cons_zero, List.getElem_cons_succ] at ho1
  have zo1 := fz_new ew1 hn1 1
  have ho2 := cl_new (i := 2) ew1 hn1 rfl
  try simp only [List.getElem_toArray, List.getElem_cons_zero, List.getElem_cons_succ] at ho2
  have zo2 := fz_new ew1 hn1 2
  have ho3 := cl_new (i := 3) ew1 hn1 rfl
  try simp only [List.getElem_toArray, List.getElem_cons_zero, List.getElem_cons_succ] at ho3
  have zo3 := fz_new ew1 hn1 3
  have kp : Kp [] w0 w0 [] := Kp.refl _
  replace kp := kp.alN ew1
  refine F.esr ?_
  simp only [rg, Nat.reduceAdd]
  iterate 2 (refine F.oq rfl rfl rfl (fun _ => by simp [go_sem]) fun d K hK => ?_; go_simp; refine hK _ ?_; clear hK K d; try walk_nrm)
  have k1 : Kp [] w0 w1 := Kp.alloc ew1
  have r1 : Ru e HD w0 en ev w1 en ev := Ru.own k1 (by simp)
  have H1 : CW e w1 _ en ev _ := H.keep k1 (by simp) l1 l2 l3 (by simp)
  have b1 : n1 ∉ rowL ev := fun z => by have := (H.rowN z).2; omega
  have b2 : n1 ∉ rowL en := fun z => by have := (H.entN z).2; omega
  have Q1 := Q.ru S r1 H (k1.cell _ _ (by simp) Q.h0) ((k1.froz _ _ (by simp) Q.h0).trans Q.zh)
  have X1 := Y.ru r1 H hR hR1 hR2 hR3 hR4
  have hg1 := k1.cell _ _ (by simp) hg
  refine F.enter rfl rfl (by decide) (fun _ => run_call_body rfl Tryz.func52 (by rfl) (by rfl)) (fun _ => events_call_body rfl Tryz.func52 (by rfl) (by rfl) _) ?_
  walk_nrm
  refine ansR_w e K hcl en ev X B HD C TB w1 H1 S Q1 hR hR1 hR2 hR3 hR4 X1 oR Ψ0 Ψ1 W _ _ (fun v w2 hp => ?_)
  obtain ⟨en2, ev2, m2, q, p, H2, r2, rfl, g1, g2, g3, g4, g5, g6, g7, g8, hc0, hc1, hc2, hc3, hd0, hd1, hd2, hd3⟩ := hp
  have hpn : n1 < p ∧ n1 < q := ⟨by omega, by omega⟩
  have hpw : p < w2.heap.size ∧ q < w2.heap.size := ⟨lt_of_cell hc0, lt_of_cell hd0⟩
  have hg := r2.stat H1 hN0 d1.1 d1.2.1 d1.2.2.1 d1.2.2.2 hg1
  have hs2 := r2.kp.size
  obtain ⟨ho0, z0, b1', b2'⟩ := r2.temp K S.lH (by omega) b1 b2 ho0
  obtain ⟨ho1, z1, _⟩ := r2.temp K S.lH (by omega) b1 b2 ho1
  obtain ⟨ho2, z2, _⟩ := r2.temp K S.lH (by omega) b1 b2 ho2
  obtain ⟨ho3, z3, _⟩ := r2.temp K S.lH (by omega) b1 b2 ho3
  replace zo0 := z0.trans zo0
  replace zo1 := z1.trans zo1
  replace zo2 := z2.trans zo2
  replace zo3 := z3.trans zo3
  clear z0 z1 z2 z3 kp
  have r12 := r1.trans r2
  have hn1' : w0.heap.size ≤ n1 ∧ n1 ≤ w0.heap.size ∧ n1 < w2.heap.size := ⟨Nat.le_of_eq hn1, Nat.le_of_eq hn1.symm, lt_of_cell ho0⟩
  clear hn1 sz1 ew1
  have kp : Kp [n1] w2 w2 := Kp.refl _
  have hT0 := H2.t0
  have hA0 := H2.a0
  rw [Frame.finish_at]
  try walk_nrm
  refine F.op rfl rfl (by decide) (fun d K hK => ?_)
  go_simp
  rw [alloc_at']
  refine hK _ _ ⟨DX.alloc _ _ (fun e he => ?_), ?_⟩
  · have hm := mem_listed he
    simp [go_sem] at hm
  clear hK K d
  try walk_nrm
  generalize ew3 : World.alloc w2 _ = w3
  generalize hn3 : (World.heap w2).size = n3
  have sz3 := sz_al ew3 hn3
  replace zo0 := fz_al zo0 ho0 ew3
  replace zo1 := fz_al zo1 ho1 ew3
  replace zo2 := fz_al zo2 ho2 ew3
  replace zo3 := fz_al zo3 ho3 ew3
  replace ho0 := cl_al ho0 ew3
  replace ho1 := cl_al ho1 ew3
  replace ho2 := cl_al ho2 ew3
  replace ho3 := cl_al ho3 ew3
  replace hT0 := cl_al hT0 ew3
  replace hA0 := cl_al hA0 ew3
  replace hg := cl_al hg ew3
  replace hc0 := cl_al hc0 ew3
  replace hc1 := cl_al hc1 ew3
  replace hc2 := cl_al hc2 ew3
  replace hc3 := cl_al hc3 ew3
  replace hd0 := cl_al hd0 ew3
  replace hd1 := cl_al hd1 ew3
  replace hd2 := cl_al hd2 ew3
  replace hd3 := cl_al hd3 ew3
  have hu0 := cl_new (i := 0) ew3 hn3 rfl
  try simp only [List.getElem_toArray, List.getElem_cons_zero, List.getElem_cons_succ] at hu0
  have zu0 := fz_new ew3 hn3 0
  have hu1 := cl_new (i := 1) ew3 hn3 rfl
  try simp only [List.getElem_toArray, List.getElem_cons_zero, List.getElem_cons_succ] at hu1
  have zu1 := fz_new ew3 hn3 1
  have hu2 := cl_new (i := 2) ew3 hn3 rfl
  try simp only [List.getElem_toArray, List.getElem_cons_zero, List.getElem_cons_succ] at hu2
  have zu2 := fz_new ew3 hn3 2
  replace kp := kp.alN ew3
  refine F.op rfl rfl (by decide) (fun d K hK => ?_)
  go_simp
  repeat rw [setCell_at']
  refine hK _ _ ⟨DX.set3 _ (by (first | assumption | exact hrb _ rfl | (apply hfr <;> dsimp only <;> omega) | (apply hok; simp; done))) (by (first | assumption | exact hrb _ rfl | (apply hfr <;> dsimp only <;> omega) | (apply hok; simp; done))) (by (first | assumption | exact hrb _ rfl | (apply hfr <;> dsimp only <;> omega) | (apply hok; simp; done))) (fun e he => ?_), ?_⟩
  · have hm := mem_listed he
    simp [go_sem, storedEv, evst_slice, evst_ptr, evst_iface, evst_nil, evst_bool, *] at hm
    rcases hm with rfl | rfl | rfl <;> exact .inl ⟨_, rfl, rfl, by (first | assumption | exact hrb _ rfl | (apply hfr <;> dsimp only <;> omega) | (apply hok; simp; done)), by simp only [size_at, size_set]; first | omega | exact lt_of_cell (by assumption)⟩
  clear hK K d
  try walk_nrm
  generalize ew4 : World.setCell w3 _ _ = w4
  have sz4 := sz_st ew4
  replace zo0 := fz_st zo0 ew4
  replace zo1 := fz_st zo1 ew4
  replace zo2 := fz_st zo2 ew4
  replace zo3 := fz_st zo3 ew4
  replace zu0 := fz_st zu0 ew4
  replace zu1 := fz_st zu1 ew4
  replace zu2 := fz_st zu2 ew4
  replace ho0 := cl_st ho0 ew4 (by first | (intro e; simp at e; done) | (intro e; simp at e; omega) | (intro e; have e1 := congrArg Addr.block e; dsimp only at e1; omega))
  replace ho1 := cl_st ho1 ew4 (by first | (intro e; simp at e; done) | (intro e; simp at e; omega) | (intro e; have e1 := congrArg Addr.block e; dsimp only at e1; omega))
  replace ho2 := cl_st ho2 ew4 (by first | (intro e; simp at e; done) | (intro e; simp at e; omega) | (intro e; have e1 := congrArg Addr.block e; dsimp only at e1; omega))
  replace ho3 := cl_st ho3 ew4 (by first | (intro e; simp at e; done) | (intro e; simp at e; omega) | (intro e; have e1 := congrArg Addr.block e; dsimp only at e1; omega))
  replace hT0 := cl_st hT0 ew4 (by first | (intro e; simp at e; done) | (intro e; simp at e; omega) | (intro e; have e1 := congrArg Addr.block e; dsimp only at e1; omega))
  replace hA0 := cl_st hA0 ew4 (by first | (intro e; simp at e; done) | (intro e; simp at e; omega) | (intro e; have e1 := congrArg Addr.block e; dsimp only at e1; omega))
  replace hg := cl_st hg ew4 (by first | (intro e; simp at e; done) | (intro e; simp at e; omega) | (intro e; have e1 := congrArg Addr.block e; dsimp only at e1; omega))
  replace hc0 := cl_st hc0 ew4 (by first | (intro e; simp at e; done) | (intro e; simp at e; omega) | (intro e; have e1 := congrArg Addr.block e; dsimp only at e1; omega))
  replace hc1 := cl_st hc1 ew4 (by first | (intro e; simp at e; done) | (intro e; simp at e; omega) | (intro e; have e1 := congrArg Addr.block e; dsimp only at e1; omega))
  replace hc2 := cl_st hc2 ew4 (by first | (intro e; simp at e; done) | (intro e; simp at e; omega) | (intro e; have e1 := congrArg Addr.block e; dsimp only at e1; omega))
  replace hc3 := cl_st hc3 ew4 (by first | (intro e; simp at e; done) | (intro e; simp at e; omega) | (intro e; have e1 := congrArg Addr.block e; dsimp only at e1; omega))
  replace hd0 := cl_st hd0 ew4 (by first | (intro e; simp at e; done) | (intro e; simp at e; omega) | (intro e; have e1 := congrArg Addr.block e; dsimp only at e1; omega))
  replace hd1 := cl_st hd1 ew4 (by first | (intro e; simp at e; done) | (intro e; simp at e; omega) | (intro e; have e1 := congrArg Addr.block e; dsimp only at e1; omega))
  replace hd2 := cl_st hd2 ew4 (by first | (intro e; simp at e; done) | (intro e; simp at e; omega) | (intro e; have e1 := congrArg Addr.block e; dsimp only at e1; omega))
  replace hd3 := cl_st hd3 ew4 (by first | (intro e; simp at e; done) | (intro e; simp at e; omega) | (intro e; have e1 := congrArg Addr.block e; dsimp only at e1; omega))
  replace hu0 := cl_st' hu0 ew4
  replace hu1 := cl_st hu1 ew4 (by first | (intro e; simp at e; done) | (intro e; simp at e; omega) | (intro e; have e1 := congrArg Addr.block e; dsimp only at e1; omega))
  replace hu2 := cl_st hu2 ew4 (by first | (intro e; simp at e; done) | (intro e; simp at e; omega) | (intro e; have e1 := congrArg Addr.block e; dsimp only at e1; omega))
  replace kp := kp.stN ew4 (by first | (left; simp; done) | (right; left; simp; done) | (right; right; dsimp only; omega))
  generalize ew5 : World.setCell w4 _ _ = w5
  have sz5 := sz_st ew5
  replace zo0 := fz_st zo0 ew5
  replace zo1 := fz_st zo1 ew5
  replace zo2 := fz_st zo2 ew5
  replace zo3 := fz_st zo3 ew5
  replace zu0 := fz_st zu0 ew5
  replace zu1 := fz_st zu1 ew5
  replace zu2 := fz_st zu2 ew5
  replace ho0 := cl_st ho0 ew5 (by first | (intro e; simp at e; done) | (intro e; simp at e; omega) | (intro e; have e1 := congrArg Addr.block e; dsimp only at e1; omega))
  replace ho1 := cl_st ho1 ew5 (by first | (intro e; simp at e; done) | (intro e; simp at e; omega) | (intro e; have e1 := congrArg Addr.block e; dsimp only at e1; omega))
  replace ho2 := cl_st ho2 ew5 (by first | (intro e; simp at e; done) | (intro e; simp at e; omega) | (intro e; have e1 := congrArg Addr.block e; dsimp only at e1; omega))
  replace ho3 := cl_st ho3 ew5 (by first | (intro e; simp at e; done) | (intro e; simp at e; omega) | (intro e; have e1 := congrArg Addr.block e; dsimp only at e1; omega))
  replace hT0 := cl_st hT0 ew5 (by first | (intro e; simp at e; done) | (intro e; simp at e; omega) | (intro e; have e1 := congrArg Addr.block e; dsimp only at e1; omega))
  replace hA0 := cl_st hA0 ew5 (by first | (intro e; simp at e; done) | (intro e; simp at e; omega) | (intro e; have e1 := congrArg Addr.block e; dsimp only at e1; omega))
  replace hg := cl_st hg ew5 (by first | (intro e; simp at e; done) | (intro e; simp at e; omega) | (intro e; have e1 := congrArg Addr.block e; dsimp only at e1; omega))
  replace hc0 := cl_st hc0 ew5 (by first | (intro e; simp at e; done) | (intro e; simp at e; omega) | (intro e; have e1 := congrArg Addr.block e; dsimp only at e1; omega))
  replace hc1 := cl_st hc1 ew5 (by first | (intro e; simp at e; done) | (intro e; simp at e; omega) | (intro e; have e1 := congrArg Addr.block e; dsimp only at e1; omega))
  replace hc2 := cl_st hc2 ew5 (by first | (intro e; simp at e; done) | (intro e; simp at e; omega) | (intro e; have e1 := congrArg Addr.block e; dsimp only at e1; omega))
  replace hc3 := cl_st hc3 ew5 (by first | (intro e; simp at e; done) | (intro e; simp at e; omega) | (intro e; have e1 := congrArg Addr.block e; dsimp only at e1; omega))
  replace hd0 := cl_st hd0 ew5 (by first | (intro e; simp at e; done) | (intro e; simp at e; omega) | (intro e; have e1 := congrArg Addr.block e; dsimp only at e1; omega))
  replace hd1 := cl_st hd1 ew5 (by first | (intro e; simp at e; done) | (intro e; simp at e; omega) | (intro e; have e1 := congrArg Addr.block e; dsimp only at e1; omega))
  replace hd2 := cl_st hd2 ew5 (by first | (intro e; simp at e; done) | (intro e; simp at e; omega) | (intro e; have e1 := congrArg Addr.block e; dsimp only at e1; omega))
  replace hd3 := cl_st hd3 ew5 (by first | (intro e; simp at e; done) | (intro e; simp at e; omega) | (intro e; have e1 := congrArg Addr.block e; dsimp only at e1; omega))
  replace hu0 := cl_st hu0 ew5 (by first | (intro e; simp at e; done) | (intro e; simp at e; omega) | (intro e; have e1 := congrArg Addr.block e; dsimp only at e1; omega))
  replace hu1 := cl_st' hu1 ew5
  replace hu2 := cl_st hu2 ew5 (by first | (intro e; simp at e; done) | (intro e; simp at e; omega) | (intro e; have e1 := congrArg Addr.block e; dsimp only at e1; omega))
  replace kp := kp.stN ew5 (by first | (left; simp; done) | (right; left; simp; done) | (right; right; dsimp only; omega))
  generalize ew6 : World.setCell w5 _ _ = w6
  have sz6 := sz_st ew6
  replace zo0 := fz_st zo0 ew6
  replace zo1 := fz_st zo1 ew6
  replace zo2 := fz_st zo2 ew6
  replace zo3 := fz_st zo3 ew6
  replace zu0 := fz_st zu0 ew6
  replace zu1 := fz_st zu1 ew6
  replace zu2 := fz_st zu2 ew6
  replace ho0 := cl_st ho0 ew6 (by first | (intro e; simp at e; done) | (intro e; simp at e; omega) | (intro e; have e1 := congrArg Addr.block e; dsimp only at e1; omega))
  replace ho1 := cl_st ho1 ew6 (by first | (intro e; simp at e; done) | (intro e; simp at e; omega) | (intro e; have e1 := congrArg Addr.block e; dsimp only at e1; omega))
  replace ho2 := cl_st ho2 ew6 (by first | (intro e; simp at e; done) | (intro e; simp at e; omega) | (intro e; have e1 := congrArg Addr.block e; dsimp only at e1; omega))
  replace ho3 := cl_st ho3 ew6 (by first | (intro e; simp at e; done) | (intro e; simp at e; omega) | (intro e; have e1 := congrArg Addr.block e; dsimp only at e1; omega))
  replace hT0 := cl_st hT0 ew6 (by first | (intro e; simp at e; done) | (intro e; simp at e; omega) | (intro e; have e1 := congrArg Addr.block e; dsimp only at e1; omega))
  replace hA0 := cl_st hA0 ew6 (by first | (intro e; simp at e; done) | (intro e; simp at e; omega) | (intro e; have e1 := congrArg Addr.block e; dsimp only at e1; omega))
  replace hg := cl_st hg ew6 (by first | (intro e; simp at e; done) | (intro e; simp at e; omega) | (intro e; have e1 := congrArg Addr.block e; dsimp only at e1; omega))
  replace hc0 := cl_st hc0 ew6 (by first | (intro e; simp at e; done) | (intro e; simp at e; omega) | (intro e; have e1 := congrArg Addr.block e; dsimp only at e1; omega))
  replace hc1 := cl_st hc1 ew6 (by first | (intro e; simp at e; done) | (intro e; simp at e; omega) | (intro e; have e1 := congrArg Addr.block e; dsimp only at e1; omega))
  replace hc2 := cl_st hc2 ew6 (by first | (intro e; simp at e; done) | (intro e; simp at e; omega) | (intro e; have e1 := congrArg Addr.block e; dsimp only at e1; omega))
  replace hc3 := cl_st hc3 ew6 (by first | (intro e; simp at e; done) | (intro e; simp at e; omega) | (intro e; have e1 := congrArg Addr.block e; dsimp only at e1; omega))
  replace hd0 := cl_st hd0 ew6 (by first | (intro e; simp at e; done) | (intro e; simp at e; omega) | (intro e; have e1 := congrArg Addr.block e; dsimp only at e1; omega))
  replace hd1 := cl_st hd1 ew6 (by first | (intro e; simp at e; done) | (intro e; simp at e; omega) | (intro e; have e1 := congrArg Addr.block e; dsimp only at e1; omega))
  replace hd2 := cl_st hd2 ew6 (by first | (intro e; simp at e; done) | (intro e; simp at e; omega) | (intro e; have e1 := congrArg Addr.block e; dsimp only at e1; omega))
  replace hd3 := cl_st hd3 ew6 (by first | (intro e; simp at e; done) | (intro e; simp at e; omega) | (intro e; have e1 := congrArg Addr.block e; dsimp only at e1; omega))
  replace hu0 := cl_st hu0 ew6 (by first | (intro e; simp at e; done) | (intro e; simp at e; omega) | (intro e; have e1 := congrArg Addr.block e; dsimp only at e1; omega))
  replace hu1 := cl_st hu1 ew6 (by first | (intro e; simp at e; done) | (intro e; simp at e; omega) | (intro e; have e1 := congrArg Addr.block e; dsimp only at e1; omega))
  replace hu2 := cl_st' hu2 ew6
  replace kp := kp.stN ew6 (by first | (left; simp; done) | (right; left; simp; done) | (right; right; dsimp only; omega))
  refine F.es ?_
  refine F.bl ?_
  refine F.sr ?_
  simp only [rg, Nat.reduceAdd]
  refine F.oq rfl rfl rfl (fun _ => by simp [go_sem]) fun d K hK => ?_; go_simp; refine hK _ ?_; clear hK K d; try walk_nrm
  refine F.op rfl rfl (by decide) (fun d K hK => ?_)
  go_simp
  refine hK _ _ ⟨DX.still _ (fun e he => ?_), ?_⟩
  · have hm := mem_listed he
    simp [go_sem, *] at hm
    subst hm
    exact .inl ⟨_, rfl, rfl, by (first | assumption | exact hrb _ rfl | (apply hfr <;> dsimp only <;> omega) | (apply hok; simp; done)), lt_of_cell (w := w6) (by assumption)⟩
  clear hK K d
  try walk_nrm
  iterate 2 (refine F.oq rfl rfl rfl (fun _ => by first | (simp [go_sem]; done) | simp [go_sem, Instr.makeInterface, Instr.makeFunc, *]) fun d K hK => ?_; go_simp; refine hK _ ?_; clear hK K d; try walk_nrm)
  refine F.re ?_
  refine F.cf rfl ?_
  refine F.sr ?_
  simp only [rg, Nat.reduceAdd]
  refine F.oq rfl rfl rfl (fun _ => by simp [go_sem]) fun d K hK => ?_; go_simp; refine hK _ ?_; clear hK K d; try walk_nrm
  refine F.op rfl rfl (by decide) (fun d K hK => ?_)
  go_simp
  refine hK _ _ ⟨DX.still _ (fun e he => ?_), ?_⟩
  · have hm := mem_listed he
    simp [go_sem, *] at hm
    subst hm
    exact .inl ⟨_, rfl, rfl, by (first | assumption | exact hrb _ rfl | (apply hfr <;> dsimp only <;> omega) | (apply hok; simp; done)), lt_of_cell (w := w6) (by assumption)⟩
  clear hK K d
  try walk_nrm
  iterate 2 (refine F.oq rfl rfl rfl (fun _ => by first | (simp [go_sem]; done) | simp [go_sem, Instr.makeInterface, Instr.makeFunc, *]) fun d K hK => ?_; go_simp; refine hK _ ?_; clear hK K d; try walk_nrm)
  refine F.re ?_
  refine F.ct rfl ?_
  refine F.sq ?_
  have hn3' : w2.heap.size ≤ n3 ∧ n3 ≤ w2.heap.size ∧ n3 < w6.heap.size := ⟨Nat.le_of_eq hn3, Nat.le_of_eq hn3.symm, lt_of_cell hu0⟩
  clear hu0 hu2 zu0 zu1 zu2 hn3 sz3 sz4 sz5 sz6 ew3 ew4 ew5 ew6
  refine F.drawA (γ := Nat × Nat) (n := 7) mixed [[], [0], [], [2], [1, 3], [1, 4], [0, 1, 2, 3, 4, 5]] rfl (by kernel_rfl) (fun b g => [(23, sel (b 0) (.pointer (some ⟨e.T, 0, none⟩)) (undef)), (24, sel (b 1) (.int .i64 28) (undef)), (25, sel (b 2) (.pointer (some ⟨n3, 1, none⟩)) (undef)), (26, sel (b 3) (.iface 168 (.pointer (some ⟨p, 0, none⟩))) (undef)), (27, sel (b 4) (.slice (some ⟨g.1, 0, none⟩) 2 g.2) (undef)), (28, sel (b 5) (.agg #[.int .i64 28, .int .i64 2, .int .i64 0, .slice (some ⟨g.1, 0, none⟩) 2 g.2]) (undef))]) (fun b g w => (b 6 = false → ((Kp [n1] w2 w) ∧ (w.cell? ⟨n1, 0, none⟩ = some (.int .i64 0)) ∧ (w.cell? ⟨n1, 1, none⟩ = some (.int .i64 0)) ∧ (w.cell? ⟨n1, 2, none⟩ = some (.int .i64 0)) ∧ (w.cell? ⟨n1, 3, none⟩ = some (.slice none 0 0)) ∧ (w.cell? ⟨n3, 1, none⟩ = some (.iface 168 (.pointer (some ⟨p, 0, none⟩)))) ∧ (w.cell? ⟨e.T, 0, none⟩ = some (.pointer (some ⟨e.A, 0, none⟩))) ∧ (w.cell? ⟨e.A, 0, none⟩ = some (.int .i64 28)) ∧ (w.cell? ⟨0, 0, none⟩ = some (.iface 217 (.agg #[.pointer (some ⟨1, 121, none⟩)]))) ∧ (w.cell? ⟨p, 0, none⟩ = some (.int .i64 7)) ∧ (w.cell? ⟨p, 1, none⟩ = some (.int .i64 0)) ∧ (w.cell? ⟨p, 2, none⟩ = some (.int .i64 0)) ∧ (w.cell? ⟨p, 3, none⟩ = some (.iface 168 (.pointer (some ⟨q, 0, none⟩)))) ∧ (w.cell? ⟨q, 0, none⟩ = some (.int .i64 1)) ∧ (w.cell? ⟨q, 1, none⟩ = some (.int .i64 (-1))) ∧ (w.cell? ⟨q, 2, none⟩ = some (.int .i64 3)) ∧ (w.cell? ⟨q, 3, none⟩ = some .nilIface) ∧ (w.frozen? ⟨n1, 0, none⟩ = false) ∧ (w.frozen? ⟨n1, 1, none⟩ = false) ∧ (w.frozen? ⟨n1, 2, none⟩ = false) ∧ (w.frozen? ⟨n1, 3, none⟩ = false) ∧ (b 4 = true → n3 < g.1 ∧ g.1 < w.heap.size ∧ Ch2 w g.1))) ∧ (b 6 = true → ( Kp [n1] w2 w ∧ w.cell? ⟨n1, 0, none⟩ = some (.int .i64 28) ∧ w.cell? ⟨n1, 1, none⟩ = some (.int .i64 2) ∧ w.cell? ⟨n1, 2, none⟩ = some (.int .i64 0) ∧ w.cell? ⟨n1, 3, none⟩ = some (.slice (some ⟨g.1, 0, none⟩) 2 g.2) ∧ n3 < g.1 ∧ g.1 < w.heap.size ∧ Ch2 w g.1))) ((0, 0)) (by simp only [pu, Nat.reduceAdd, Nat.reduceEqDiff, reduceIte]) (⟨fun _ => ⟨kp, ho0, ho1, ho2, ho3, hu1, hT0, hA0, hg, hc0, hc1, hc2, hc3, hd0, hd1, hd2, hd3, zo0, zo1, zo2, zo3, fun h => (by cases h)⟩, fun h => by cases h⟩) (all_cons ?_ (all_cons ?_ (all_cons ?_ (all_cons ?_ (all_cons ?_ (all_cons ?_ (all_cons ?_ (all_nil)))))))) ?_
  · intro b g w hI hcl hbi hdp rest hre hkk
    obtain ⟨hwf, hwt⟩ := hI
    replace hbi : b 0 = false := hbi
    have nb1 : b 1 = false := nbf (fun h => hcl 1 (by decide) h 0 (by decide)) hbi
    have nb6 : b 6 = false := nbf (fun h => hcl 6 (by decide) h 0 (by decide)) hbi
    obtain ⟨kp, ho0, ho1, ho2, ho3, hu1, hT0, hA0, hg, hc0, hc1, hc2, hc3, hd0, hd1, hd2, hd3, zo0, zo1, zo2, zo3, hch⟩ := hwf nb6
    clear hwf hwt
    simp only [nb1, nb6, hbi, pu, Nat.reduceAdd, Nat.reduceEqDiff, reduceIte]
    refine F.oq rfl rfl rfl (fun _ => by simp [go_sem]) fun d K hK => ?_; go_simp; refine hK _ ?_; clear hK K d; try walk_nrm
    have hk2 := hkk g _ ⟨fun _ => ⟨kp, ho0, ho1, ho2, ho3, hu1, hT0, hA0, hg, hc0, hc1, hc2, hc3, hd0, hd1, hd2, hd3, zo0, zo1, zo2, zo3, hch⟩, fun h => no nb6 h⟩
    simp only [nb1, nb6, hbi, pu, Nat.reduceAdd, Nat.reduceEqDiff, reduceIte] at hk2
    exact hk2
  · intro b g w hI hcl hbi hdp rest hre hkk
    obtain ⟨hwf, hwt⟩ := hI
    replace hbi : b 1 = false := hbi
    have d0 : b 0 = true := hdp 0 (by decide)
    have nb4 : b 4 = false := nbf (fun h => hcl 4 (by decide) h 1 (by decide)) hbi
    have nb5 : b 5 = false := nbf (fun h => hcl 5 (by decide) h 1 (by decide)) hbi
    have nb6 : b 6 = false := nbf (fun h => hcl 6 (by decide) h 1 (by decide)) hbi
    obtain ⟨kp, ho0, ho1, ho2, ho3, hu1, hT0, hA0, hg, hc0, hc1, hc2, hc3, hd0, hd1, hd2, hd3, zo0, zo1, zo2, zo3, hch⟩ := hwf nb6
    clear hwf hwt
    simp only [d0, nb4, nb5, nb6, hbi, pu, Nat.reduceAdd, Nat.reduceEqDiff, reduceIte]
    refine F.enter rfl rfl (by decide) (fun _ => run_call_body rfl Tryz.func53 (by rfl) (by rfl)) (fun _ => events_call_body rfl Tryz.func53 (by rfl) (by rfl) _) ?_
    walk_nrm
    refine now_x e.T e.A _ w hT0 hA0 K.t0 K.a0 _ F _ _ (fun v wq hp => ?_)
    obtain ⟨rfl, hq⟩ := hp
    have hq := hq.symm
    subst hq
    rw [Frame.finish_at]
    try walk_nrm
    have hk2 := hkk g _ ⟨fun _ => ⟨kp, ho0, ho1, ho2, ho3, hu1, hT0, hA0, hg, hc0, hc1, hc2, hc3, hd0, hd1, hd2, hd3, zo0, zo1, zo2, zo3, hch⟩, fun h => no nb6 h⟩
    simp only [d0, nb4, nb5, nb6, hbi, pu, Nat.reduceAdd, Nat.reduceEqDiff, reduceIte] at hk2
    exact hk2
  · intro b g w hI hcl hbi hdp rest hre hkk
    obtain ⟨hwf, hwt⟩ := hI
    replace hbi : b 2 = false := hbi
    have nb3 : b 3 = false := nbf (fun h => hcl 3 (by decide) h 2 (by decide)) hbi
    have nb6 : b 6 = false := nbf (fun h => hcl 6 (by decide) h 2 (by decide)) hbi
    obtain ⟨kp, ho0, ho1, ho2, ho3, hu1, hT0, hA0, hg, hc0, hc1, hc2, hc3, hd0, hd1, hd2, hd3, zo0, zo1, zo2, zo3, hch⟩ := hwf nb6
    clear hwf hwt
    simp only [nb3, nb6, hbi, pu, Nat.reduceAdd, Nat.reduceEqDiff, reduceIte]
    refine F.oq rfl rfl rfl (fun _ => by simp [go_sem]) fun d K hK => ?_; go_simp; refine hK _ ?_; clear hK K d; try walk_nrm
    have hk2 := hkk g _ ⟨fun _ => ⟨kp, ho0, ho1, ho2, ho3, hu1, hT0, hA0, hg, hc0, hc1, hc2, hc3, hd0, hd1, hd2, hd3, zo0, zo1, zo2, zo3, hch⟩, fun h => no nb6 h⟩
    simp only [nb3, nb6, hbi, pu, Nat.reduceAdd, Nat.reduceEqDiff, reduceIte] at hk2
    exact hk2
  · intro b g w hI hcl hbi hdp rest hre hkk
    obtain ⟨hwf, hwt⟩ := hI
    replace hbi : b 3 = false := hbi
    have d2 : b 2 = true := hdp 2 (by decide)
    have nb4 : b 4 = false := nbf (fun h => hcl 4 (by decide) h 3 (by decide)) hbi
    have nb6 : b 6 = false := nbf (fun h => hcl 6 (by decide) h 3 (by decide)) hbi
    obtain ⟨kp, ho0, ho1, ho2, ho3, hu1, hT0, hA0, hg, hc0, hc1, hc2, hc3, hd0, hd1, hd2, hd3, zo0, zo1, zo2, zo3, hch⟩ := hwf nb6
    clear hwf hwt
    simp only [d2, nb4, nb6, hbi, pu, Nat.reduceAdd, Nat.reduceEqDiff, reduceIte]
    refine F.op rfl rfl (by decide) (fun d K hK => ?_)
    go_simp
    refine hK _ _ ⟨DX.still _ (fun e he => ?_), ?_⟩
    · have hm := mem_listed he
      simp [go_sem, *] at hm
      subst hm
      exact .inl ⟨_, rfl, rfl, by (first | assumption | exact hrb _ rfl | (apply hfr <;> dsimp only <;> omega) | (apply hok; simp; done)), lt_of_cell (w := w) (by assumption)⟩
    clear hK K d
    try walk_nrm
    have hk2 := hkk g _ ⟨fun _ => ⟨kp, ho0, ho1, ho2, ho3, hu1, hT0, hA0, hg, hc0, hc1, hc2, hc3, hd0, hd1, hd2, hd3, zo0, zo1, zo2, zo3, hch⟩, fun h => no nb6 h⟩
    simp only [d2, nb4, nb6, hbi, pu, Nat.reduceAdd, Nat.reduceEqDiff, reduceIte] at hk2
    exact hk2
  · intro b g w hI hcl hbi hdp rest hre hkk
    obtain ⟨hwf, hwt⟩ := hI
    replace hbi : b 4 = false := hbi
    have d1 : b 1 = true := hdp 1 (by decide)
    have d3 : b 3 = true := hdp 3 (by decide)
    have d2 : b 2 = true := hcl 3 (by decide) d3 2 (by decide)
    have d0 : b 0 = true := hcl 1 (by decide) d1 0 (by decide)
    have nb5 : b 5 = false := nbf (fun h => hcl 5 (by decide) h 4 (by decide)) hbi
    have nb6 : b 6 = false := nbf (fun h => hcl 6 (by decide) h 4 (by decide)) hbi
    obtain ⟨kp, ho0, ho1, ho2, ho3, hu1, hT0, hA0, hg, hc0, hc1, hc2, hc3, hd0, hd1, hd2, hd3, zo0, zo1, zo2, zo3, hch⟩ := hwf nb6
    clear hwf hwt
    simp only [d1, d3, d2, d0, nb5, nb6, hbi, pu, Nat.reduceAdd, Nat.reduceEqDiff, reduceIte]
    have hsw := kp.size
    refine F.enter rfl rfl (by decide) (fun _ => run_call_body rfl Tryz.func55 (by rfl) (by rfl)) (fun _ => events_call_body rfl Tryz.func55 (by rfl) (by rfl) _) ?_
    walk_nrm
    refine chain_x (e.X + 1) p q w (by omega) (by omega) (by omega) (by omega) hg oG hc0 hc1 hc2 hc3 hd0 hd1 hd2 hd3 hfr _ F _ _ (fun v wq hp => ?_)
    obtain ⟨kq, hrow⟩ := hp
    obtain ⟨gg, cap, rfl, f1, f2, f3⟩ := ch2_of hrow
    have hun : n3 < w.heap.size := lt_of_cell hu1
    rw [Frame.finish_at]
    try walk_nrm
    have hk2 := hkk (gg, cap) _ ⟨fun _ => ⟨kp.callM kq (by simp), kq.cell _ _ (by simp) ho0, kq.cell _ _ (by simp) ho1, kq.cell _ _ (by simp) ho2, kq.cell _ _ (by simp) ho3, kq.cell _ _ (by simp) hu1, kq.cell _ _ (by simp) hT0, kq.cell _ _ (by simp) hA0, kq.cell _ _ (by simp) hg, kq.cell _ _ (by simp) hc0, kq.cell _ _ (by simp) hc1, kq.cell _ _ (by simp) hc2, kq.cell _ _ (by simp) hc3, kq.cell _ _ (by simp) hd0, kq.cell _ _ (by simp) hd1, kq.cell _ _ (by simp) hd2, kq.cell _ _ (by simp) hd3, (kq.froz _ _ (by simp) ho0).trans zo0, (kq.froz _ _ (by simp) ho1).trans zo1, (kq.froz _ _ (by simp) ho2).trans zo2, (kq.froz _ _ (by simp) ho3).trans zo3, fun _ => ⟨by omega, f2, f3⟩⟩, fun h => no nb6 h⟩
    simp only [d1, d3, d2, d0, nb5, nb6, hbi, pu, Nat.reduceAdd, Nat.reduceEqDiff, reduceIte] at hk2
    exact hk2
  · intro b g w hI hcl hbi hdp rest hre hkk
    obtain ⟨hwf, hwt⟩ := hI
    replace hbi : b 5 = false := hbi
    have d1 : b 1 = true := hdp 1 (by decide)
    have d4 : b 4 = true := hdp 4 (by decide)
    have d3 : b 3 = true := hcl 4 (by decide) d4 3 (by decide)
    have d2 : b 2 = true := hcl 3 (by decide) d3 2 (by decide)
    have d0 : b 0 = true := hcl 1 (by decide) d1 0 (by decide)
    have nb6 : b 6 = false := nbf (fun h => hcl 6 (by decide) h 5 (by decide)) hbi
    obtain ⟨kp, ho0, ho1, ho2, ho3, hu1, hT0, hA0, hg, hc0, hc1, hc2, hc3, hd0, hd1, hd2, hd3, zo0, zo1, zo2, zo3, hch⟩ := hwf nb6
    clear hwf hwt
    simp only [d1, d4, d3, d2, d0, nb6, hbi, pu, Nat.reduceAdd, Nat.reduceEqDiff, reduceIte]
    refine F.oq rfl rfl rfl (fun _ => by simp [go_sem]) fun d K hK => ?_; go_simp; refine hK _ ?_; clear hK K d; try walk_nrm
    have hk2 := hkk g _ ⟨fun _ => ⟨kp, ho0, ho1, ho2, ho3, hu1, hT0, hA0, hg, hc0, hc1, hc2, hc3, hd0, hd1, hd2, hd3, zo0, zo1, zo2, zo3, hch⟩, fun h => no nb6 h⟩
    simp only [d1, d4, d3, d2, d0, nb6, hbi, pu, Nat.reduceAdd, Nat.reduceEqDiff, reduceIte] at hk2
    exact hk2
  · intro b g w hI hcl hbi hdp rest hre hkk
    obtain ⟨hwf, hwt⟩ := hI
    replace hbi : b 6 = false := hbi
    have d0 : b 0 = true := hdp 0 (by decide)
    have d1 : b 1 = true := hdp 1 (by decide)
    have d2 : b 2 = true := hdp 2 (by decide)
    have d3 : b 3 = true := hdp 3 (by decide)
    have d4 : b 4 = true := hdp 4 (by decide)
    have d5 : b 5 = true := hdp 5 (by decide)
    obtain ⟨kp, ho0, ho1, ho2, ho3, hu1, hT0, hA0, hg, hc0, hc1, hc2, hc3, hd0, hd1, hd2, hd3, zo0, zo1, zo2, zo3, hch⟩ := hwf hbi
    clear hwf hwt
    simp only [d0, d1, d2, d3, d4, d5, hbi, pu, Nat.reduceAdd, Nat.reduceEqDiff, reduceIte]
    obtain ⟨f1, f2, f3⟩ := hch d4
    have kb : Kp [n1] w w := Kp.refl _
    clear hch
    refine F.op rfl rfl (by decide) (fun d K hK => ?_)
    go_simp
    repeat rw [setCell_at']
    refine hK _ _ ⟨DX.set4 _ (by (first | assumption | exact hrb _ rfl | (apply hfr <;> dsimp only <;> omega) | (apply hok; simp; done))) (by (first | assumption | exact hrb _ rfl | (apply hfr <;> dsimp only <;> omega) | (apply hok; simp; done))) (by (first | assumption | exact hrb _ rfl | (apply hfr <;> dsimp only <;> omega) | (apply hok; simp; done))) (by (first | assumption | exact hrb _ rfl | (apply hfr <;> dsimp only <;> omega) | (apply hok; simp; done))) (fun e he => ?_), ?_⟩
    · have hm := mem_listed he
      simp [go_sem, storedEv, evst_slice, evst_ptr, evst_iface, evst_nil, evst_bool, *] at hm
      rcases hm with rfl | rfl | rfl | rfl <;> exact .inl ⟨_, rfl, rfl, by (first | assumption | exact hrb _ rfl | (apply hfr <;> dsimp only <;> omega) | (apply hok; simp; done)), by simp only [size_at, size_set]; first | omega | exact lt_of_cell (by assumption)⟩
    clear hK K d
    try walk_nrm
    generalize ew7 : World.setCell w _ _ = w7
    have sz7 := sz_st ew7
    replace zo0 := fz_st zo0 ew7
    replace zo1 := fz_st zo1 ew7
    replace zo2 := fz_st zo2 ew7
    replace zo3 := fz_st zo3 ew7
    replace ho0 := cl_st' ho0 ew7
    replace ho1 := cl_st ho1 ew7 (by first | (intro e; simp at e; done) | (intro e; simp at e; omega) | (intro e; have e1 := congrArg Addr.block e; dsimp only at e1; omega))
    replace ho2 := cl_st ho2 ew7 (by first | (intro e; simp at e; done) | (intro e; simp at e; omega) | (intro e; have e1 := congrArg Addr.block e; dsimp only at e1; omega))
    replace ho3 := cl_st ho3 ew7 (by first | (intro e; simp at e; done) | (intro e; simp at e; omega) | (intro e; have e1 := congrArg Addr.block e; dsimp only at e1; omega))
    replace hu1 := cl_st hu1 ew7 (by first | (intro e; simp at e; done) | (intro e; simp at e; omega) | (intro e; have e1 := congrArg Addr.block e; dsimp only at e1; omega))
    replace hT0 := cl_st hT0 ew7 (by first | (intro e; simp at e; done) | (intro e; simp at e; omega) | (intro e; have e1 := congrArg Addr.block e; dsimp only at e1; omega))
    replace hA0 := cl_st hA0 ew7 (by first | (intro e; simp at e; done) | (intro e; simp at e; omega) | (intro e; have e1 := congrArg Addr.block e; dsimp only at e1; omega))
    replace hg := cl_st hg ew7 (by first | (intro e; simp at e; done) | (intro e; simp at e; omega) | (intro e; have e1 := congrArg Addr.block e; dsimp only at e1; omega))
    replace hc0 := cl_st hc0 ew7 (by first | (intro e; simp at e; done) | (intro e; simp at e; omega) | (intro e; have e1 := congrArg Addr.block e; dsimp only at e1; omega))
    replace hc1 := cl_st hc1 ew7 (by first | (intro e; simp at e; done) | (intro e; simp at e; omega) | (intro e; have e1 := congrArg Addr.block e; dsimp only at e1; omega))
    replace hc2 := cl_st hc2 ew7 (by first | (intro e; simp at e; done) | (intro e; simp at e; omega) | (intro e; have e1 := congrArg Addr.block e; dsimp only at e1; omega))
    replace hc3 := cl_st hc3 ew7 (by first | (intro e; simp at e; done) | (intro e; simp at e; omega) | (intro e; have e1 := congrArg Addr.block e; dsimp only at e1; omega))
    replace hd0 := cl_st hd0 ew7 (by first | (intro e; simp at e; done) | (intro e; simp at e; omega) | (intro e; have e1 := congrArg Addr.block e; dsimp only at e1; omega))
    replace hd1 := cl_st hd1 ew7 (by first | (intro e; simp at e; done) | (intro e; simp at e; omega) | (intro e; have e1 := congrArg Addr.block e; dsimp only at e1; omega))
    replace hd2 := cl_st hd2 ew7 (by first | (intro e; simp at e; done) | (intro e; simp at e; omega) | (intro e; have e1 := congrArg Addr.block e; dsimp only at e1; omega))
    replace hd3 := cl_st hd3 ew7 (by first | (intro e; simp at e; done) | (intro e; simp at e; omega) | (intro e; have e1 := congrArg Addr.block e; dsimp only at e1; omega))
    replace kp := kp.stN ew7 (by first | (left; simp; done) | (right; left; simp; done) | (right; right; dsimp only; omega))
    generalize ew8 : World.setCell w7 _ _ = w8
    have sz8 := sz_st ew8
    replace zo0 := fz_st zo0 ew8
    replace zo1 := fz_st zo1 ew8
    replace zo2 := fz_st zo2 ew8
    replace zo3 := fz_st zo3 ew8
    replace ho0 := cl_st ho0 ew8 (by first | (intro e; simp at e; done) | (intro e; simp at e; omega) | (intro e; have e1 := congrArg Addr.block e; dsimp only at e1; omega))
    replace ho1 := cl_st' ho1 ew8
    replace ho2 := cl_st ho2 ew8 (by first | (intro e; simp at e; done) | (intro e; simp at e; omega) | (intro e; have e1 := congrArg Addr.block e; dsimp only at e1; omega))
    replace ho3 := cl_st ho3 ew8 (by first | (intro e; simp at e; done) | (intro e; simp at e; omega) | (intro e; have e1 := congrArg Addr.block e; dsimp only at e1; omega))
    replace hu1 := cl_st hu1 ew8 (by first | (intro e; simp at e; done) | (intro e; simp at e; omega) | (intro e; have e1 := congrArg Addr.block e; dsimp only at e1; omega))
    replace hT0 := cl_st hT0 ew8 (by first | (intro e; simp at e; done) | (intro e; simp at e; omega) | (intro e; have e1 := congrArg Addr.block e; dsimp only at e1; omega))
    replace hA0 := cl_st hA0 ew8 (by first | (intro e; simp at e; done) | (intro e; simp at e; omega) | (intro e; have e1 := congrArg Addr.block e; dsimp only at e1; omega))
    replace hg := cl_st hg ew8 (by first | (intro e; simp at e; done) | (intro e; simp at e; omega) | (intro e; have e1 := congrArg Addr.block e; dsimp only at e1; omega))
    replace hc0 := cl_st hc0 ew8 (by first | (intro e; simp at e; done) | (intro e; simp at e; omega) | (intro e; have e1 := congrArg Addr.block e; dsimp only at e1; omega))
    replace hc1 := cl_st hc1 ew8 (by first | (intro e; simp at e; done) | (intro e; simp at e; omega) | (intro e; have e1 := congrArg Addr.block e; dsimp only at e1; omega))
    replace hc2 := cl_st hc2 ew8 (by first | (intro e; simp at e; done) | (intro e; simp at e; omega) | (intro e; have e1 := congrArg Addr.block e; dsimp only at e1; omega))
    replace hc3 := cl_st hc3 ew8 (by first | (intro e; simp at e; done) | (intro e; simp at e; omega) | (intro e; have e1 := congrArg Addr.block e; dsimp only at e1; omega))
    replace hd0 := cl_st hd0 ew8 (by first | (intro e; simp at e; done) | (intro e; simp at e; omega) | (intro e; have e1 := congrArg Addr.block e; dsimp only at e1; omega))
    replace hd1 := cl_st hd1 ew8 (by first | (intro e; simp at e; done) | (intro e; simp at e; omega) | (intro e; have e1 := congrArg Addr.block e; dsimp only at e1; omega))
    replace hd2 := cl_st hd2 ew8 (by first | (intro e; simp at e; done) | (intro e; simp at e; omega) | (intro e; have e1 := congrArg Addr.block e; dsimp only at e1; omega))
    replace hd3 := cl_st hd3 ew8 (by first | (intro e; simp at e; done) | (intro e; simp at e; omega) | (intro e; have e1 := congrArg Addr.block e; dsimp only at e1; omega))
    replace kp := kp.stN ew8 (by first | (left; simp; done) | (right; left; simp; done) | (right; right; dsimp only; omega))
    generalize ew9 : World.setCell w8 _ _ = w9
    have sz9 := sz_st ew9
    replace zo0 := fz_st zo0 ew9
    replace zo1 := fz_st zo1 ew9
    replace zo2 := fz_st zo2 ew9
    replace zo3 := fz_st zo3 ew9
    replace ho0 := cl_st ho0 ew9 (by first | (intro e; simp at e; done) | (intro e; simp at e; omega) | (intro e; have e1 := congrArg Addr.block e; dsimp only at e1; omega))
    replace ho1 := cl_st ho1 ew9 (by first | (intro e; simp at e; done) | (intro e; simp at e; omega) | (intro e; have e1 := congrArg Addr.block e; dsimp only at e1; omega))
    replace ho2 := cl_st' ho2 ew9
    replace ho3 := cl_st ho3 ew9 (by first | (intro e; simp at e; done) | (intro e; simp at e; omega) | (intro e; have e1 := congrArg Addr.block e; dsimp only at e1; omega))
    replace hu1 := cl_st hu1 ew9 (by first | (intro e; simp at e; done) | (intro e; simp at e; omega) | (intro e; have e1 := congrArg Addr.block e; dsimp only at e1; omega))
    replace hT0 := cl_st hT0 ew9 (by first | (intro e; simp at e; done) | (intro e; simp at e; omega) | (intro e; have e1 := congrArg Addr.block e; dsimp only at e1; omega))
    replace hA0 := cl_st hA0 ew9 (by first | (intro e; simp at e; done) | (intro e; simp at e; omega) | (intro e; have e1 := congrArg Addr.block e; dsimp only at e1; omega))
    replace hg := cl_st hg ew9 (by first | (intro e; simp at e; done) | (intro e; simp at e; omega) | (intro e; have e1 := congrArg Addr.block e; dsimp only at e1; omega))
    replace hc0 := cl_st hc0 ew9 (by first | (intro e; simp at e; done) | (intro e; simp at e; omega) | (intro e; have e1 := congrArg Addr.block e; dsimp only at e1; omega))
    replace hc1 := cl_st hc1 ew9 (by first | (intro e; simp at e; done) | (intro e; simp at e; omega) | (intro e; have e1 := congrArg Addr.block e; dsimp only at e1; omega))
    replace hc2 := cl_st hc2 ew9 (by first | (intro e; simp at e; done) | (intro e; simp at e; omega) | (intro e; have e1 := congrArg Addr.block e; dsimp only at e1; omega))
    replace hc3 := cl_st hc3 ew9 (by first | (intro e; simp at e; done) | (intro e; simp at e; omega) | (intro e; have e1 := congrArg Addr.block e; dsimp only at e1; omega))
    replace hd0 := cl_st hd0 ew9 (by first | (intro e; simp at e; done) | (intro e; simp at e; omega) | (intro e; have e1 := congrArg Addr.block e; dsimp only at e1; omega))
    replace hd1 := cl_st hd1 ew9 (by first | (intro e; simp at e; done) | (intro e; simp at e; omega) | (intro e; have e1 := congrArg Addr.block e; dsimp only at e1; omega))
    replace hd2 := cl_st hd2 ew9 (by first | (intro e; simp at e; done) | (intro e; simp at e; omega) | (intro e; have e1 := congrArg Addr.block e; dsimp only at e1; omega))
    replace hd3 := cl_st hd3 ew9 (by first | (intro e; simp at e; done) | (intro e; simp at e; omega) | (intro e; have e1 := congrArg Addr.block e; dsimp only at e1; omega))
    replace kp := kp.stN ew9 (by first | (left; simp; done) | (right; left; simp; done) | (right; right; dsimp only; omega))
    generalize ew10 : World.setCell w9 _ _ = w10
    have sz10 := sz_st ew10
    replace zo0 := fz_st zo0 ew10
    replace zo1 := fz_st zo1 ew10
    replace zo2 := fz_st zo2 ew10
    replace zo3 := fz_st zo3 ew10
    replace ho0 := cl_st ho0 ew10 (by first | (intro e; simp at e; done) | (intro e; simp at e; omega) | (intro e; have e1 := congrArg Addr.block e; dsimp only at e1; omega))
    replace ho1 := cl_st ho1 ew10 (by first | (intro e; simp at e; done) | (intro e; simp at e; omega) | (intro e; have e1 := congrArg Addr.block e; dsimp only at e1; omega))
    replace ho2 := cl_st ho2 ew10 (by first | (intro e; simp at e; done) | (intro e; simp at e; omega) | (intro e; have e1 := congrArg Addr.block e; dsimp only at e1; omega))
    replace ho3 := cl_st' ho3 ew10
    replace hu1 := cl_st hu1 ew10 (by first | (intro e; simp at e; done) | (intro e; simp at e; omega) | (intro e; have e1 := congrArg Addr.block e; dsimp only at e1; omega))
    replace hT0 := cl_st hT0 ew10 (by first | (intro e; simp at e; done) | (intro e; simp at e; omega) | (intro e; have e1 := congrArg Addr.block e; dsimp only at e1; omega))
    replace hA0 := cl_st hA0 ew10 (by first | (intro e; simp at e; done) | (intro e; simp at e; omega) | (intro e; have e1 := congrArg Addr.block e; dsimp only at e1; omega))
    replace hg := cl_st hg ew10 (by first | (intro e; simp at e; done) | (intro e; simp at e; omega) | (intro e; have e1 := congrArg Addr.block e; dsimp only at e1; omega))
    replace hc0 := cl_st hc0 ew10 (by first | (intro e; simp at e; done) | (intro e; simp at e; omega) | (intro e; have e1 := congrArg Addr.block e; dsimp only at e1; omega))
    replace hc1 := cl_st hc1 ew10 (by first | (intro e; simp at e; done) | (intro e; simp at e; omega) | (intro e; have e1 := congrArg Addr.block e; dsimp only at e1; omega))
    replace hc2 := cl_st hc2 ew10 (by first | (intro e; simp at e; done) | (intro e; simp at e; omega) | (intro e; have e1 := congrArg Addr.block e; dsimp only at e1; omega))
    replace hc3 := cl_st hc3 ew10 (by first | (intro e; simp at e; done) | (intro e; simp at e; omega) | (intro e; have e1 := congrArg Addr.block e; dsimp only at e1; omega))
    replace hd0 := cl_st hd0 ew10 (by first | (intro e; simp at e; done) | (intro e; simp at e; omega) | (intro e; have e1 := congrArg Addr.block e; dsimp only at e1; omega))
    replace hd1 := cl_st hd1 ew10 (by first | (intro e; simp at e; done) | (intro e; simp at e; omega) | (intro e; have e1 := congrArg Addr.block e; dsimp only at e1; omega))
    replace hd2 := cl_st hd2 ew10 (by first | (intro e; simp at e; done) | (intro e; simp at e; omega) | (intro e; have e1 := congrArg Addr.block e; dsimp only at e1; omega))
    replace hd3 := cl_st hd3 ew10 (by first | (intro e; simp at e; done) | (intro e; simp at e; omega) | (intro e; have e1 := congrArg Addr.block e; dsimp only at e1; omega))
    replace kp := kp.stN ew10 (by first | (left; simp; done) | (right; left; simp; done) | (right; right; dsimp only; omega))
    have kq : Kp [n1] w w10 := (((Kp.refl w).stN ew7 (by left; simp)).stN ew8 (by left; simp) |>.stN ew9 (by left; simp)).stN ew10 (by left; simp)
    have hk2 := hkk g _ ⟨fun h => by simp [tick] at h, fun _ => ⟨kp, ho0, ho1, ho2, ho3, f1, Nat.lt_of_lt_of_le f2 kq.size, f3.kp kq (by simp; omega) (by simp)⟩⟩
    simp only [d0, d1, d2, d3, d4, d5, hbi, pu, Nat.reduceAdd, Nat.reduceEqDiff, reduceIte] at hk2
    exact hk2
  intro b g w hI hall
  obtain ⟨hwf, hwt⟩ := hI
  simp only [hall 0 (by decide), hall 1 (by decide), hall 2 (by decide), hall 3 (by decide), hall 4 (by decide), hall 5 (by decide), hall 6 (by decide), pu, Nat.reduceAdd, Nat.reduceEqDiff, reduceIte]
  obtain ⟨kp', ho0', ho1', ho2', ho3', f1, f2, f3⟩ := hwt (hall 6 (by decide))
  clear hwf hwt hall
  obtain ⟨gg, cap⟩ := g
  dsimp only at ho3' f1 f2 f3 ⊢
  have hN0' := hN0
  clear ho0 ho1 ho2 ho3 hu1 hT0 hA0 hg hc0 hc1 hc2 hc3 hd0 hd1 hd2 hd3 zo0 zo1 zo2 zo3 kp
  refine F.re ?_
  refine F.ctl (fun _ => stepG_ret') ?_
  refine F.leaveE (v := .agg #[.int .i64 28, .int .i64 2, .int .i64 0, .slice (some ⟨gg, 0, none⟩) 2 cap]) rfl rfl Tryz.func38 (fun d => ?_) (fun d es hes => DX.still _ (fun e he => ?_)) ?_
  · simp [results, go_sem, *]
  · have hm := hes e he
    simp [results, go_sem, *] at hm
    rcases hm with rfl | rfl | rfl | rfl <;> exact .inl ⟨_, rfl, rfl, by (first | assumption | (refine hfr _ _ ?_; dsimp only; omega)), lt_of_cell (w := w) (by assumption)⟩
  have r := r12.fresh kp' (by omega)
  have H8 : CW e w _ _ _ _ := H2.keep kp' (by intro x hx; simp at hx; subst hx; right; right; exact ⟨by omega, b2', b1'⟩) l1 l2 l3 (by simp)
  exact hc _ _ ⟨gg, cap, rfl, by omega, f2, f3, en2, ev2, m2, H8, r⟩

end Go.Proofs.YtobagnjnbmgidaaGreatDoor
