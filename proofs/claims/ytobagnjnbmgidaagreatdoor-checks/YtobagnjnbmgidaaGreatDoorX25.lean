/- The links of an error. -/
import Derived.Test.YtobagnjnbmgidaaGreatDoorX24
set_option linter.unusedSimpArgs false
set_option linter.unusedVariables false
namespace Go.Proofs.YtobagnjnbmgidaaGreatDoor
open Go.Conc Go.RowKit Go.Extern
variable {Ok : Addr → Bool → Prop} {main : Bool}

set_option maxRecDepth 100000 in
set_option maxHeartbeats 8000000 in
theorem chain_x (N p q : Nat) (w0 : World) (hN : N ≤ w0.heap.size) (hN0 : 0 < N) (lp : N ≤ p) (lq : N ≤ q) (hg : w0.cell? ⟨0, 0, none⟩ = some (.iface 217 (.agg #[.pointer (some ⟨1, 121, none⟩)]))) (oG : Ok ⟨0, 0, none⟩ false)
    (hc0 : w0.cell? ⟨p, 0, none⟩ = some (.int .i64 7)) (hc1 : w0.cell? ⟨p, 1, none⟩ = some (.int .i64 0)) (hc2 : w0.cell? ⟨p, 2, none⟩ = some (.int .i64 0)) (hc3 : w0.cell? ⟨p, 3, none⟩ = some (.iface 168 (.pointer (some ⟨q, 0, none⟩))))
    (hd0 : w0.cell? ⟨q, 0, none⟩ = some (.int .i64 1)) (hd1 : w0.cell? ⟨q, 1, none⟩ = some (.int .i64 (-1))) (hd2 : w0.cell? ⟨q, 2, none⟩ = some (.int .i64 3)) (hd3 : w0.cell? ⟨q, 3, none⟩ = some .nilIface) (hfr : ∀ a wr, N ≤ a.block → Ok a wr) :
    CallsX Tryz.prog main (DX Ok) 55 #[.iface 168 (.pointer (some ⟨p, 0, none⟩))] w0 fun v w' => Kp [] w0 w' ∧ w'.ownsRow w0.heap.size 48 3 v 2 [.int .i64 7, .int .i64 0, .int .i64 0, .int .i64 1, .int .i64 (-1), .int .i64 3] := by
  intro Ψ F c cs hc
  have sp : p < w0.heap.size := lt_of_cell hc0
  have sq : q < w0.heap.size := lt_of_cell hd0
  obtain ⟨inf, z, i1, i2, i3, i4, i5⟩ := inf48
  rw [enter_at _ Tryz.func55 rfl]
  simp only [Tryz.ntmps55, List.size_toArray, List.length_cons, List.length_nil, Nat.reduceAdd, Nat.reduceSub, Array.replicate_succ, Array.replicate_zero, List.push_toArray, List.append_toArray, List.nil_append, List.cons_append]
  refine F.sr ?_
  simp only [rg, Nat.reduceAdd]
  refine F.oq rfl rfl rfl (fun _ => by simp [go_sem]) fun d K hK => ?_; go_simp; refine hK _ ?_; clear hK K d; try walk_nrm
  refine F.esr ?_
  simp only [rg, Nat.reduceAdd]
  refine F.oq rfl rfl rfl (fun _ => by simp [go_sem]) fun d K hK => ?_; go_simp; refine hK _ ?_; clear hK K d; try walk_nrm
  refine F.esr ?_
  simp only [rg, Nat.reduceAdd]
  refine F.op rfl rfl (by decide) (fun d K hK => ?_)
  go_simp
  rw [alloc_at']
  refine hK _ _ ⟨DX.alloc _ _ (fun e he => ?_), ?_⟩
  · have hm := mem_listed he
    simp [go_sem] at hm
  clear hK K d
  try walk_nrm
  generalize ew1 : World.alloc w0 _ = w1
  generalize hn1 : (World.heap w0).size = n1
  have sz1 := sz_al ew1 hn1
  replace hg := cl_al hg ew1
  replace hc0 := cl_al hc0 ew1
  replace hc1 := cl_al hc1 ew1
  replace hc2 := cl_al hc2 ew1
  replace hc3 := cl_al hc3 ew1
  replace hd0 := cl_al hd0 ew1
  replace hd1 := cl_al hd1 ew1
  replace hd2 := cl_al hd2 ew1
  replace hd3 := cl_al hd3 ew1
  have hl0 := cl_new (i := 0) ew1 hn1 rfl
  try simp only [List.getElem_toArray, List.getElem_cons_zero, List.getElem_cons_succ] at hl0
  have zl0 := fz_new ew1 hn1 0
  have kp : Kp [] w0 w0 [] := Kp.refl _
  replace kp := kp.alN ew1
  refine F.es ?_
  refine F.bl ?_
  refine F.ctl (fun _ => stepG_loop) ?_
  have hB : w0.heap.size ≤ n1 ∧ n1 ≤ w0.heap.size := ⟨Nat.le_of_eq hn1, Nat.le_of_eq hn1.symm⟩
  have hrow : w1.ownsRow w0.heap.size 48 3 (.slice none 0 0) 0 [] := ⟨rfl, .inl ⟨rfl, rfl⟩⟩
  have sz1' : n1 + 1 ≤ w1.heap.size := Nat.le_of_eq sz1.symm
  clear sz1 hn1
  refine F.sq ?_
  refine F.sr ?_
  simp only [rg, Nat.reduceAdd]
  iterate 2 (refine F.oq rfl rfl rfl (fun _ => by first | (simp [go_sem]; done) | simp [go_sem, Instr.makeInterface, Instr.makeFunc, *]) fun d K hK => ?_; go_simp; refine hK _ ?_; clear hK K d; try walk_nrm)
  have sw2 := kp.size
  refine F.enter rfl rfl (by decide) (fun _ => run_call_body rfl Tryz.func65 (by rfl) (by rfl)) (fun _ => events_call_body rfl Tryz.func65 (by rfl) (by rfl) _) ?_
  walk_nrm
  refine errAs_x ⟨p, 0, none⟩ ⟨n1, 0, none⟩ _ w1 hg hl0 zl0 oG (hfr _ _ (by dsimp only; omega)) (fun a wr h => hfr a wr (by omega)) _ F _ _ (fun v w2a hp => ?_)
  obtain ⟨rfl, kq, hl', zl'⟩ := hp
  have hrn : ∀ g ∈ rowL (.slice none 0 0), g ∉ ([] : List Nat) ∧ ∀ x ∈ [(⟨n1, 0, none⟩ : Addr)], x.block ≠ g := fun g hg => ⟨by simp, fun x hx e => (by simp [rowL, Value.ownBlock] at hg)⟩
  replace hrow := kq.row hrow hrn
  clear hl0 zl0
  replace hg := Kp.cellC kq _ _ (by simp only [List.mem_cons, List.not_mem_nil, or_false, not_or]; first | omega | simp_all | (refine ⟨?_, ?_⟩ <;> first | omega | assumption) | assumption) (by first | (simp; done) | (simp; omega)) hg
  replace hc0 := Kp.cellC kq _ _ (by simp only [List.mem_cons, List.not_mem_nil, or_false, not_or]; first | omega | simp_all | (refine ⟨?_, ?_⟩ <;> first | omega | assumption) | assumption) (by first | (simp; done) | (simp; omega)) hc0
  replace hc1 := Kp.cellC kq _ _ (by simp only [List.mem_cons, List.not_mem_nil, or_false, not_or]; first | omega | simp_all | (refine ⟨?_, ?_⟩ <;> first | omega | assumption) | assumption) (by first | (simp; done) | (simp; omega)) hc1
  replace hc2 := Kp.cellC kq _ _ (by simp only [List.mem_cons, List.not_mem_nil, or_false, not_or]; first | omega | simp_all | (refine ⟨?_, ?_⟩ <;> first | omega | assumption) | assumption) (by first | (simp; done) | (simp; omega)) hc2
  replace hc3 := Kp.cellC kq _ _ (by simp only [List.mem_cons, List.not_mem_nil, or_false, not_or]; first | omega | simp_all | (refine ⟨?_, ?_⟩ <;> first | omega | assumption) | assumption) (by first | (simp; done) | (simp; omega)) hc3
  replace hd0 := Kp.cellC kq _ _ (by simp only [List.mem_cons, List.not_mem_nil, or_false, not_or]; first | omega | simp_all | (refine ⟨?_, ?_⟩ <;> first | omega | assumption) | assumption) (by first | (simp; done) | (simp; omega)) hd0
  replace hd1 := Kp.cellC kq _ _ (by simp only [List.mem_cons, List.not_mem_nil, or_false, not_or]; first | omega | simp_all | (refine ⟨?_, ?_⟩ <;> first | omega | assumption) | assumption) (by first | (simp; done) | (simp; omega)) hd1
  replace hd2 := Kp.cellC kq _ _ (by simp only [List.mem_cons, List.not_mem_nil, or_false, not_or]; first | omega | simp_all | (refine ⟨?_, ?_⟩ <;> first | omega | assumption) | assumption) (by first | (simp; done) | (simp; omega)) hd2
  replace hd3 := Kp.cellC kq _ _ (by simp only [List.mem_cons, List.not_mem_nil, or_false, not_or]; first | omega | simp_all | (refine ⟨?_, ?_⟩ <;> first | omega | assumption) | assumption) (by first | (simp; done) | (simp; omega)) hd3
  replace kp := kp.callN (kq) (by intro x hx; first | (exact absurd hx List.not_mem_nil) | (simp at hx; first | (left; simp [hx]; done) | (right; omega) | (rcases hx with rfl | hx <;> first | (left; simp; done) | (left; simp [hx]; done) | (right; omega)))) (by intro x hx; simp at hx; try (subst hx); first | (left; simp; done) | (right; left; simp; done) | (right; right; dsimp only; omega))
  have hl0 := hl'
  have zl0 := zl'
  clear kq hl' zl' hrn
  rw [Frame.finish_at]
  try walk_nrm
  refine F.re ?_
  refine F.ct rfl ?_
  refine F.sk ?_
  refine F.bl ?_
  refine F.sq ?_
  have sz2' : n1 + 1 ≤ w2a.heap.size := lt_of_cell hl0
  refine F.drawA (γ := Nat × Value) (n := 17) mixed [[], [], [1], [2], [3], [], [5], [6], [7], [], [9], [10], [11], [4, 8, 12], [13], [0, 14], [0, 1, 2, 3, 4, 5, 6, 7, 8, 9, 10, 11, 12, 13, 14, 15]] rfl (by kernel_rfl) (fun b g => [(8, sel (b 0) (.slice none 0 0) (undef)), (9, sel (b 1) (.pointer (some ⟨p, 0, none⟩)) (undef)), (10, sel (b 2) (.pointer (some ⟨p, 0, none⟩)) (undef)), (11, sel (b 3) (.pointer (some ⟨p, 0, none⟩)) (undef)), (12, sel (b 4) (.int .i64 7) (undef)), (13, sel (b 5) (.pointer (some ⟨p, 0, none⟩)) (undef)), (14, sel (b 6) (.pointer (some ⟨p, 0, none⟩)) (undef)), (15, sel (b 7) (.pointer (some ⟨p, 1, none⟩)) (undef)), (16, sel (b 8) (.int .i64 0) (undef)), (17, sel (b 9) (.pointer (some ⟨p, 0, none⟩)) (undef)), (18, sel (b 10) (.pointer (some ⟨p, 0, none⟩)) (undef)), (19, sel (b 11) (.pointer (some ⟨p, 2, none⟩)) (undef)), (20, sel (b 12) (.int .i64 0) (undef)), (21, sel (b 13) (.agg #[.int .i64 7, .int .i64 0, .int .i64 0]) (undef)), (22, sel (b 14) (.slice (some ⟨g.1, 0, none⟩) 1 1) (undef)), (23, sel (b 15) (g.2) (undef)), (3, sel (b 16) (g.2) (.slice none 0 0))]) (fun b g w => (b 16 = false → ((Kp [] w0 w) ∧ (w.cell? ⟨0, 0, none⟩ = some (.iface 217 (.agg #[.pointer (some ⟨1, 121, none⟩)]))) ∧ (w.cell? ⟨p, 0, none⟩ = some (.int .i64 7)) ∧ (w.cell? ⟨p, 1, none⟩ = some (.int .i64 0)) ∧ (w.cell? ⟨p, 2, none⟩ = some (.int .i64 0)) ∧ (w.cell? ⟨p, 3, none⟩ = some (.iface 168 (.pointer (some ⟨q, 0, none⟩)))) ∧ (w.cell? ⟨q, 0, none⟩ = some (.int .i64 1)) ∧ (w.cell? ⟨q, 1, none⟩ = some (.int .i64 (-1))) ∧ (w.cell? ⟨q, 2, none⟩ = some (.int .i64 3)) ∧ (w.cell? ⟨q, 3, none⟩ = some (.nilIface)) ∧ (w.cell? ⟨n1, 0, none⟩ = some (.pointer (some ⟨p, 0, none⟩))) ∧ (w.frozen? ⟨n1, 0, none⟩ = false) ∧ (b 15 = false → w.ownsRow w0.heap.size 48 3 (.slice none 0 0) 0 []) ∧ (b 14 = true → b 15 = false → n1 < g.1 ∧ g.1 < w.heap.size ∧ w.cell? ⟨g.1, 0, none⟩ = some (.int .i64 7) ∧ w.cell? ⟨g.1, 1, none⟩ = some (.int .i64 0) ∧ w.cell? ⟨g.1, 2, none⟩ = some (.int .i64 0)) ∧ (b 15 = true → w.ownsRow w0.heap.size 48 3 g.2 1 [.int .i64 7, .int .i64 0, .int .i64 0] ∧ n1 ∉ rowL g.2))) ∧ (b 16 = true → ( Kp [] w0 w ∧ w.cell? ⟨0, 0, none⟩ = some (.iface 217 (.agg #[.pointer (some ⟨1, 121, none⟩)])) ∧ w.cell? ⟨p, 0, none⟩ = some (.int .i64 7) ∧ w.cell? ⟨p, 1, none⟩ = some (.int .i64 0) ∧ w.cell? ⟨p, 2, none⟩ = some (.int .i64 0) ∧ w.cell? ⟨p, 3, none⟩ = some (.iface 168 (.pointer (some ⟨q, 0, none⟩))) ∧ w.cell? ⟨q, 0, none⟩ = some (.int .i64 1) ∧ w.cell? ⟨q, 1, none⟩ = some (.int .i64 (-1)) ∧ w.cell? ⟨q, 2, none⟩ = some (.int .i64 3) ∧ w.cell? ⟨q, 3, none⟩ = some (.nilIface) ∧ w.cell? ⟨n1, 0, none⟩ = some (.pointer (some ⟨p, 0, none⟩)) ∧ w.frozen? ⟨n1, 0, none⟩ = false ∧ w.ownsRow w0.heap.size 48 3 g.2 1 [.int .i64 7, .int .i64 0, .int .i64 0] ∧ n1 ∉ rowL g.2))) ((0, undef)) (by simp only [pu, Nat.reduceAdd, Nat.reduceEqDiff, reduceIte]) (⟨fun _ => ⟨kp, hg, hc0, hc1, hc2, hc3, hd0, hd1, hd2, hd3, hl0, zl0, fun _ => hrow, fun h => (by cases h), fun h => (by cases h)⟩, fun h => by cases h⟩) (all_cons ?_ (all_cons ?_ (all_cons ?_ (all_cons ?_ (all_cons ?_ (all_cons ?_ (all_cons ?_ (all_cons ?_ (all_cons ?_ (all_cons ?_ (all_cons ?_ (all_cons ?_ (all_cons ?_ (all_cons ?_ (all_cons ?_ (all_cons ?_ (all_cons ?_ (all_nil)))))))))))))))))) ?_
  · intro b g w hI hcl hbi hdp rest hre hkk
    obtain ⟨hwf, hwt⟩ := hI
    replace hbi : b 0 = false := hbi
    have nb15 : b 15 = false := nbf (fun h => hcl 15 (by decide) h 0 (by decide)) hbi
    have nb16 : b 16 = false := nbf (fun h => hcl 16 (by decide) h 0 (by decide)) hbi
    obtain ⟨kp, hg, hc0, hc1, hc2, hc3, hd0, hd1, hd2, hd3, hl0, zl0, hro, hnb, hrr⟩ := hwf nb16
    clear hwf hwt
    simp only [nb15, nb16, hbi, pu, Nat.reduceAdd, Nat.reduceEqDiff, reduceIte]
    refine F.oq rfl rfl rfl (fun _ => by simp [go_sem]) fun d K hK => ?_; go_simp; refine hK _ ?_; clear hK K d; try walk_nrm
    have hk2 := hkk g _ ⟨fun _ => ⟨kp, hg, hc0, hc1, hc2, hc3, hd0, hd1, hd2, hd3, hl0, zl0, hro, hnb, hrr⟩, fun h => no nb16 h⟩
    simp only [nb15, nb16, hbi, pu, Nat.reduceAdd, Nat.reduceEqDiff, reduceIte] at hk2
    exact hk2
  · intro b g w hI hcl hbi hdp rest hre hkk
    obtain ⟨hwf, hwt⟩ := hI
    replace hbi : b 1 = false := hbi
    have nb2 : b 2 = false := nbf (fun h => hcl 2 (by decide) h 1 (by decide)) hbi
    have nb16 : b 16 = false := nbf (fun h => hcl 16 (by decide) h 1 (by decide)) hbi
    obtain ⟨kp, hg, hc0, hc1, hc2, hc3, hd0, hd1, hd2, hd3, hl0, zl0, hro, hnb, hrr⟩ := hwf nb16
    clear hwf hwt
    simp only [nb2, nb16, hbi, pu, Nat.reduceAdd, Nat.reduceEqDiff, reduceIte]
    refine F.op rfl rfl (by decide) (fun d K hK => ?_)
    go_simp
    refine hK _ _ ⟨DX.still _ (fun e he => ?_), ?_⟩
    · have hm := mem_listed he
      simp [go_sem, *] at hm
      subst hm
      exact .inl ⟨_, rfl, rfl, by (first | assumption | (apply hfr <;> dsimp only <;> omega) | (apply hok; simp; done)), lt_of_cell (w := w) (by assumption)⟩
    clear hK K d
    try walk_nrm
    have hk2 := hkk g _ ⟨fun _ => ⟨kp, hg, hc0, hc1, hc2, hc3, hd0, hd1, hd2, hd3, hl0, zl0, hro, hnb, hrr⟩, fun h => no nb16 h⟩
    simp only [nb2, nb16, hbi, pu, Nat.reduceAdd, Nat.reduceEqDiff, reduceIte] at hk2
    exact hk2
  · intro b g w hI hcl hbi hdp rest hre hkk
    obtain ⟨hwf, hwt⟩ := hI
    replace hbi : b 2 = false := hbi
    have d1 : b 1 = true := hdp 1 (by decide)
    have nb3 : b 3 = false := nbf (fun h => hcl 3 (by decide) h 2 (by decide)) hbi
    have nb16 : b 16 = false := nbf (fun h => hcl 16 (by decide) h 2 (by decide)) hbi
    obtain ⟨kp, hg, hc0, hc1, hc2, hc3, hd0, hd1, hd2, hd3, hl0, zl0, hro, hnb, hrr⟩ := hwf nb16
    clear hwf hwt
    simp only [d1, nb3, nb16, hbi, pu, Nat.reduceAdd, Nat.reduceEqDiff, reduceIte]
    refine F.oq rfl rfl rfl (fun _ => by simp [go_sem]) fun d K hK => ?_; go_simp; refine hK _ ?_; clear hK K d; try walk_nrm
    have hk2 := hkk g _ ⟨fun _ => ⟨kp, hg, hc0, hc1, hc2, hc3, hd0, hd1, hd2, hd3, hl0, zl0, hro, hnb, hrr⟩, fun h => no nb16 h⟩
    simp only [d1, nb3, nb16, hbi, pu, Nat.reduceAdd, Nat.reduceEqDiff, reduceIte] at hk2
    exact hk2
  · intro b g w hI hcl hbi hdp rest hre hkk
    obtain ⟨hwf, hwt⟩ := hI
    replace hbi : b 3 = false := hbi
    have d2 : b 2 = true := hdp 2 (by decide)
    have d1 : b 1 = true := hcl 2 (by decide) d2 1 (by decide)
    have nb4 : b 4 = false := nbf (fun h => hcl 4 (by decide) h 3 (by decide)) hbi
    have nb16 : b 16 = false := nbf (fun h => hcl 16 (by decide) h 3 (by decide)) hbi
    obtain ⟨kp, hg, hc0, hc1, hc2, hc3, hd0, hd1, hd2, hd3, hl0, zl0, hro, hnb, hrr⟩ := hwf nb16
    clear hwf hwt
    simp only [d2, d1, nb4, nb16, hbi, pu, Nat.reduceAdd, Nat.reduceEqDiff, reduceIte]
    refine F.oq rfl rfl rfl (fun _ => by simp [go_sem]) fun d K hK => ?_; go_simp; refine hK _ ?_; clear hK K d; try walk_nrm
    have hk2 := hkk g _ ⟨fun _ => ⟨kp, hg, hc0, hc1, hc2, hc3, hd0, hd1, hd2, hd3, hl0, zl0, hro, hnb, hrr⟩, fun h => no nb16 h⟩
    simp only [d2, d1, nb4, nb16, hbi, pu, Nat.reduceAdd, Nat.reduceEqDiff, reduceIte] at hk2
    exact hk2
  · intro b g w hI hcl hbi hdp rest hre hkk
    obtain ⟨hwf, hwt⟩ := hI
    replace hbi : b 4 = false := hbi
    have d3 : b 3 = true := hdp 3 (by decide)
    have d2 : b 2 = true := hcl 3 (by decide) d3 2 (by decide)
    have d1 : b 1 = true := hcl 2 (by decide) d2 1 (by decide)
    have nb13 : b 13 = false := nbf (fun h => hcl 13 (by decide) h 4 (by decide)) hbi
    have nb16 : b 16 = false := nbf (fun h => hcl 16 (by decide) h 4 (by decide)) hbi
    obtain ⟨kp, hg, hc0, hc1, hc2, hc3, hd0, hd1, hd2, hd3, hl0, zl0, hro, hnb, hrr⟩ := hwf nb16
    clear hwf hwt
    simp only [d3, d2, d1, nb13, nb16, hbi, pu, Nat.reduceAdd, Nat.reduceEqDiff, reduceIte]
    refine F.op rfl rfl (by decide) (fun d K hK => ?_)
    go_simp
    refine hK _ _ ⟨DX.still _ (fun e he => ?_), ?_⟩
    · have hm := mem_listed he
      simp [go_sem, *] at hm
      subst hm
      exact .inl ⟨_, rfl, rfl, by (first | assumption | (apply hfr <;> dsimp only <;> omega) | (apply hok; simp; done)), lt_of_cell (w := w) (by assumption)⟩
    clear hK K d
    try walk_nrm
    have hk2 := hkk g _ ⟨fun _ => ⟨kp, hg, hc0, hc1, hc2, hc3, hd0, hd1, hd2, hd3, hl0, zl0, hro, hnb, hrr⟩, fun h => no nb16 h⟩
    simp only [d3, d2, d1, nb13, nb16, hbi, pu, Nat.reduceAdd, Nat.reduceEqDiff, reduceIte] at hk2
    exact hk2
  · intro b g w hI hcl hbi hdp rest hre hkk
    obtain ⟨hwf, hwt⟩ := hI
    replace hbi : b 5 = false := hbi
    have nb6 : b 6 = false := nbf (fun h => hcl 6 (by decide) h 5 (by decide)) hbi
    have nb16 : b 16 = false := nbf (fun h => hcl 16 (by decide) h 5 (by decide)) hbi
    obtain ⟨kp, hg, hc0, hc1, hc2, hc3, hd0, hd1, hd2, hd3, hl0, zl0, hro, hnb, hrr⟩ := hwf nb16
    clear hwf hwt
    simp only [nb6, nb16, hbi, pu, Nat.reduceAdd, Nat.reduceEqDiff, reduceIte]
    refine F.op rfl rfl (by decide) (fun d K hK => ?_)
    go_simp
    refine hK _ _ ⟨DX.still _ (fun e he => ?_), ?_⟩
    · have hm := mem_listed he
      simp [go_sem, *] at hm
      subst hm
      exact .inl ⟨_, rfl, rfl, by (first | assumption | (apply hfr <;> dsimp only <;> omega) | (apply hok; simp; done)), lt_of_cell (w := w) (by assumption)⟩
    clear hK K d
    try walk_nrm
    have hk2 := hkk g _ ⟨fun _ => ⟨kp, hg, hc0, hc1, hc2, hc3, hd0, hd1, hd2, hd3, hl0, zl0, hro, hnb, hrr⟩, fun h => no nb16 h⟩
    simp only [nb6, nb16, hbi, pu, Nat.reduceAdd, Nat.reduceEqDiff, reduceIte] at hk2
    exact hk2
  · intro b g w hI hcl hbi hdp rest hre hkk
    obtain ⟨hwf, hwt⟩ := hI
    replace hbi : b 6 = false := hbi
    have d5 : b 5 = true := hdp 5 (by decide)
    have nb7 : b 7 = false := nbf (fun h => hcl 7 (by decide) h 6 (by decide)) hbi
    have nb16 : b 16 = false := nbf (fun h => hcl 16 (by decide) h 6 (by decide)) hbi
    obtain ⟨kp, hg, hc0, hc1, hc2, hc3, hd0, hd1, hd2, hd3, hl0, zl0, hro, hnb, hrr⟩ := hwf nb16
    clear hwf hwt
    simp only [d5, nb7, nb16, hbi, pu, Nat.reduceAdd, Nat.reduceEqDiff, reduceIte]
    refine F.oq rfl rfl rfl (fun _ => by simp [go_sem]) fun d K hK => ?_; go_simp; refine hK _ ?_; clear hK K d; try walk_nrm
    have hk2 := hkk g _ ⟨fun _ => ⟨kp, hg, hc0, hc1, hc2, hc3, hd0, hd1, hd2, hd3, hl0, zl0, hro, hnb, hrr⟩, fun h => no nb16 h⟩
    simp only [d5, nb7, nb16, hbi, pu, Nat.reduceAdd, Nat.reduceEqDiff, reduceIte] at hk2
    exact hk2
  · intro b g w hI hcl hbi hdp rest hre hkk
    obtain ⟨hwf, hwt⟩ := hI
    replace hbi : b 7 = false := hbi
    have d6 : b 6 = true := hdp 6 (by decide)
    have d5 : b 5 = true := hcl 6 (by decide) d6 5 (by decide)
    have nb8 : b 8 = false := nbf (fun h => hcl 8 (by decide) h 7 (by decide)) hbi
    have nb16 : b 16 = false := nbf (fun h => hcl 16 (by decide) h 7 (by decide)) hbi
    obtain ⟨kp, hg, hc0, hc1, hc2, hc3, hd0, hd1, hd2, hd3, hl0, zl0, hro, hnb, hrr⟩ := hwf nb16
    clear hwf hwt
    simp only [d6, d5, nb8, nb16, hbi, pu, Nat.reduceAdd, Nat.reduceEqDiff, reduceIte]
    refine F.oq rfl rfl rfl (fun _ => by simp [go_sem]) fun d K hK => ?_; go_simp; refine hK _ ?_; clear hK K d; try walk_nrm
    have hk2 := hkk g _ ⟨fun _ => ⟨kp, hg, hc0, hc1, hc2, hc3, hd0, hd1, hd2, hd3, hl0, zl0, hro, hnb, hrr⟩, fun h => no nb16 h⟩
    simp only [d6, d5, nb8, nb16, hbi, pu, Nat.reduceAdd, Nat.reduceEqDiff, reduceIte] at hk2
    exact hk2
  · intro b g w hI hcl hbi hdp rest hre hkk
    obtain ⟨hwf, hwt⟩ := hI
    replace hbi : b 8 = false := hbi
    have d7 : b 7 = true := hdp 7 (by decide)
    have d6 : b 6 = true := hcl 7 (by decide) d7 6 (by decide)
    have d5 : b 5 = true := hcl 6 (by decide) d6 5 (by decide)
    have nb13 : b 13 = false := nbf (fun h => hcl 13 (by decide) h 8 (by decide)) hbi
    have nb16 : b 16 = false := nbf (fun h => hcl 16 (by decide) h 8 (by decide)) hbi
    obtain ⟨kp, hg, hc0, hc1, hc2, hc3, hd0, hd1, hd2, hd3, hl0, zl0, hro, hnb, hrr⟩ := hwf nb16
    clear hwf hwt
    simp only [d7, d6, d5, nb13, nb16, hbi, pu, Nat.reduceAdd, Nat.reduceEqDiff, reduceIte]
    refine F.op rfl rfl (by decide) (fun d K hK => ?_)
    go_simp
    refine hK _ _ ⟨DX.still _ (fun e he => ?_), ?_⟩
    · have hm := mem_listed he
      simp [go_sem, *] at hm
      subst hm
      exact .inl ⟨_, rfl, rfl, by (first | assumption | (apply hfr <;> dsimp only <;> omega) | (apply hok; simp; done)), lt_of_cell (w := w) (by assumption)⟩
    clear hK K d
    try walk_nrm
    have hk2 := hkk g _ ⟨fun _ => ⟨kp, hg, hc0, hc1, hc2, hc3, hd0, hd1, hd2, hd3, hl0, zl0, hro, hnb, hrr⟩, fun h => no nb16 h⟩
    simp only [d7, d6, d5, nb13, nb16, hbi, pu, Nat.reduceAdd, Nat.reduceEqDiff, reduceIte] at hk2
    exact hk2
  · intro b g w hI hcl hbi hdp rest hre hkk
    obtain ⟨hwf, hwt⟩ := hI
    replace hbi : b 9 = false := hbi
    have nb10 : b 10 = false := nbf (fun h => hcl 10 (by decide) h 9 (by decide)) hbi
    have nb16 : b 16 = false := nbf (fun h => hcl 16 (by decide) h 9 (by decide)) hbi
    obtain ⟨kp, hg, hc0, hc1, hc2, hc3, hd0, hd1, hd2, hd3, hl0, zl0, hro, hnb, hrr⟩ := hwf nb16
    clear hwf hwt
    simp only [nb10, nb16, hbi, pu, Nat.reduceAdd, Nat.reduceEqDiff, reduceIte]
    refine F.op rfl rfl (by decide) (fun d K hK => ?_)
    go_simp
    refine hK _ _ ⟨DX.still _ (fun e he => ?_), ?_⟩
    · have hm := mem_listed he
      simp [go_sem, *] at hm
      subst hm
      exact .inl ⟨_, rfl, rfl, by (first | assumption | (apply hfr <;> dsimp only <;> omega) | (apply hok; simp; done)), lt_of_cell (w := w) (by assumption)⟩
    clear hK K d
    try walk_nrm
    have hk2 := hkk g _ ⟨fun _ => ⟨kp, hg, hc0, hc1, hc2, hc3, hd0, hd1, hd2, hd3, hl0, zl0, hro, hnb, hrr⟩, fun h => no nb16 h⟩
    simp only [nb10, nb16, hbi, pu, Nat.reduceAdd, Nat.reduceEqDiff, reduceIte] at hk2
    exact hk2
  · intro b g w hI hcl hbi hdp rest hre hkk
    obtain ⟨hwf, hwt⟩ := hI
    replace hbi : b 10 = false := hbi
    have d9 : b 9 = true := hdp 9 (by decide)
    have nb11 : b 11 = false := nbf (fun h => hcl 11 (by decide) h 10 (by decide)) hbi
    have nb16 : b 16 = false := nbf (fun h => hcl 16 (by decide) h 10 (by decide)) hbi
    obtain ⟨kp, hg, hc0, hc1, hc2, hc3, hd0, hd1, hd2, hd3, hl0, zl0, hro, hnb, hrr⟩ := hwf nb16
    clear hwf hwt
    simp only [d9, nb11, nb16, hbi, pu, Nat.reduceAdd, Nat.reduceEqDiff, reduceIte]
    refine F.oq rfl rfl rfl (fun _ => by simp [go_sem]) fun d K hK => ?_; go_simp; refine hK _ ?_; clear hK K d; try walk_nrm
    have hk2 := hkk g _ ⟨fun _ => ⟨kp, hg, hc0, hc1, hc2, hc3, hd0, hd1, hd2, hd3, hl0, zl0, hro, hnb, hrr⟩, fun h => no nb16 h⟩
    simp only [d9, nb11, nb16, hbi, pu, Nat.reduceAdd, Nat.reduceEqDiff, reduceIte] at hk2
    exact hk2
  · intro b g w hI hcl hbi hdp rest hre hkk
    obtain ⟨hwf, hwt⟩ := hI
    replace hbi : b 11 = false := hbi
    have d10 : b 10 = true := hdp 10 (by decide)
    have d9 : b 9 = true := hcl 10 (by decide) d10 9 (by decide)
    have nb12 : b 12 = false := nbf (fun h => hcl 12 (by decide) h 11 (by decide)) hbi
    have nb16 : b 16 = false := nbf (fun h => hcl 16 (by decide) h 11 (by decide)) hbi
    obtain ⟨kp, hg, hc0, hc1, hc2, hc3, hd0, hd1, hd2, hd3, hl0, zl0, hro, hnb, hrr⟩ := hwf nb16
    clear hwf hwt
    simp only [d10, d9, nb12, nb16, hbi, pu, Nat.reduceAdd, Nat.reduceEqDiff, reduceIte]
    refine F.oq rfl rfl rfl (fun _ => by simp [go_sem]) fun d K hK => ?_; go_simp; refine hK _ ?_; clear hK K d; try walk_nrm
    have hk2 := hkk g _ ⟨fun _ => ⟨kp, hg, hc0, hc1, hc2, hc3, hd0, hd1, hd2, hd3, hl0, zl0, hro, hnb, hrr⟩, fun h => no nb16 h⟩
    simp only [d10, d9, nb12, nb16, hbi, pu, Nat.reduceAdd, Nat.reduceEqDiff, reduceIte] at hk2
    exact hk2
  · intro b g w hI hcl hbi hdp rest hre hkk
    obtain ⟨hwf, hwt⟩ := hI
    replace hbi : b 12 = false := hbi
    have d11 : b 11 = true := hdp 11 (by decide)
    have d10 : b 10 = true := hcl 11 (by decide) d11 10 (by decide)
    have d9 : b 9 = true := hcl 10 (by decide) d10 9 (by decide)
    have nb13 : b 13 = false := nbf (fun h => hcl 13 (by decide) h 12 (by decide)) hbi
    have nb16 : b 16 = false := nbf (fun h => hcl 16 (by decide) h 12 (by decide)) hbi
    obtain ⟨kp, hg, hc0, hc1, hc2, hc3, hd0, hd1, hd2, hd3, hl0, zl0, hro, hnb, hrr⟩ := hwf nb16
    clear hwf hwt
    simp only [d11, d10, d9, nb13, nb16, hbi, pu, Nat.reduceAdd, Nat.reduceEqDiff, reduceIte]
    refine F.op rfl rfl (by decide) (fun d K hK => ?_)
    go_simp
    refine hK _ _ ⟨DX.still _ (fun e he => ?_), ?_⟩
    · have hm := mem_listed he
      simp [go_sem, *] at hm
      subst hm
      exact .inl ⟨_, rfl, rfl, by (first | assumption | (apply hfr <;> dsimp only <;> omega) | (apply hok; simp; done)), lt_of_cell (w := w) (by assumption)⟩
    clear hK K d
    try walk_nrm
    have hk2 := hkk g _ ⟨fun _ => ⟨kp, hg, hc0, hc1, hc2, hc3, hd0, hd1, hd2, hd3, hl0, zl0, hro, hnb, hrr⟩, fun h => no nb16 h⟩
    simp only [d11, d10, d9, nb13, nb16, hbi, pu, Nat.reduceAdd, Nat.reduceEqDiff, reduceIte] at hk2
    exact hk2
  · intro b g w hI hcl hbi hdp rest hre hkk
    obtain ⟨hwf, hwt⟩ := hI
    replace hbi : b 13 = false := hbi
    have d4 : b 4 = true := hdp 4 (by decide)
    have d8 : b 8 = true := hdp 8 (by decide)
    have d12 : b 12 = true := hdp 12 (by decide)
    have d11 : b 11 = true := hcl 12 (by decide) d12 11 (by decide)
    have d10 : b 10 = true := hcl 11 (by decide) d11 10 (by decide)
    have d9 : b 9 = true := hcl 10 (by decide) d10 9 (by decide)
    have d7 : b 7 = true := hcl 8 (by decide) d8 7 (by decide)
    have d6 : b 6 = true := hcl 7 (by decide) d7 6 (by decide)
    have d5 : b 5 = true := hcl 6 (by decide) d6 5 (by decide)
    have d3 : b 3 = true := hcl 4 (by decide) d4 3 (by decide)
    have d2 : b 2 = true := hcl 3 (by decide) d3 2 (by decide)
    have d1 : b 1 = true := hcl 2 (by decide) d2 1 (by decide)
    have nb14 : b 14 = false := nbf (fun h => hcl 14 (by decide) h 13 (by decide)) hbi
    have nb16 : b 16 = false := nbf (fun h => hcl 16 (by decide) h 13 (by decide)) hbi
    obtain ⟨kp, hg, hc0, hc1, hc2, hc3, hd0, hd1, hd2, hd3, hl0, zl0, hro, hnb, hrr⟩ := hwf nb16
    clear hwf hwt
    simp only [d4, d8, d12, d11, d10, d9, d7, d6, d5, d3, d2, d1, nb14, nb16, hbi, pu, Nat.reduceAdd, Nat.reduceEqDiff, reduceIte]
    refine F.oq rfl rfl rfl (fun _ => by simp [go_sem]) fun d K hK => ?_; go_simp; refine hK _ ?_; clear hK K d; try walk_nrm
    have hk2 := hkk g _ ⟨fun _ => ⟨kp, hg, hc0, hc1, hc2, hc3, hd0, hd1, hd2, hd3, hl0, zl0, hro, hnb, hrr⟩, fun h => no nb16 h⟩
    simp only [d4, d8, d12, d11, d10, d9, d7, d6, d5, d3, d2, d1, nb14, nb16, hbi, pu, Nat.reduceAdd, Nat.reduceEqDiff, reduceIte] at hk2
    exact hk2
  · intro b g w hI hcl hbi hdp rest hre hkk
    obtain ⟨hwf, hwt⟩ := hI
    replace hbi : b 14 = false := hbi
    have d13 : b 13 = true := hdp 13 (by decide)
    have d4 : b 4 = true := hcl 13 (by decide) d13 4 (by decide)
    have d8 : b 8 = true := hcl 13 (by decide) d13 8 (by decide)
    have d12 : b 12 = true := hcl 13 (by decide) d13 12 (by decide)
    have d11 : b 11 = true := hcl 12 (by decide) d12 11 (by decide)
    have d10 : b 10 = true := hcl 11 (by decide) d11 10 (by decide)
    have d9 : b 9 = true := hcl 10 (by decide) d10 9 (by decide)
    have d7 : b 7 = true := hcl 8 (by decide) d8 7 (by decide)
    have d6 : b 6 = true := hcl 7 (by decide) d7 6 (by decide)
    have d5 : b 5 = true := hcl 6 (by decide) d6 5 (by decide)
    have d3 : b 3 = true := hcl 4 (by decide) d4 3 (by decide)
    have d2 : b 2 = true := hcl 3 (by decide) d3 2 (by decide)
    have d1 : b 1 = true := hcl 2 (by decide) d2 1 (by decide)
    have nb15 : b 15 = false := nbf (fun h => hcl 15 (by decide) h 14 (by decide)) hbi
    have nb16 : b 16 = false := nbf (fun h => hcl 16 (by decide) h 14 (by decide)) hbi
    obtain ⟨kp, hg, hc0, hc1, hc2, hc3, hd0, hd1, hd2, hd3, hl0, zl0, hro, hnb, hrr⟩ := hwf nb16
    clear hwf hwt
    simp only [d13, d4, d8, d12, d11, d10, d9, d7, d6, d5, d3, d2, d1, nb15, nb16, hbi, pu, Nat.reduceAdd, Nat.reduceEqDiff, reduceIte]
    have hge : n1 < w.heap.size := lt_of_cell hl0
    refine F.op rfl rfl (by decide) (fun d K hK => ?_)
    go_simp
    rw [alloc_at']
    refine hK _ _ ⟨DX.alloc _ _ (fun e he => ?_), ?_⟩
    · have hm := mem_listed he
      simp [go_sem] at hm
    clear hK K d
    try walk_nrm
    generalize ew2 : World.alloc w _ = w2
    generalize hn2 : (World.heap w).size = n2
    have sz2 := sz_al ew2 hn2
    replace zl0 := fz_al zl0 hl0 ew2
    replace hg := cl_al hg ew2
    replace hc0 := cl_al hc0 ew2
    replace hc1 := cl_al hc1 ew2
    replace hc2 := cl_al hc2 ew2
    replace hc3 := cl_al hc3 ew2
    replace hd0 := cl_al hd0 ew2
    replace hd1 := cl_al hd1 ew2
    replace hd2 := cl_al hd2 ew2
    replace hd3 := cl_al hd3 ew2
    replace hl0 := cl_al hl0 ew2
    have he0 := cl_new (i := 0) ew2 hn2 rfl
    try simp only [List.getElem_toArray, List.getElem_cons_zero, List.getElem_cons_succ] at he0
    have ze0 := fz_new ew2 hn2 0
    have he1 := cl_new (i := 1) ew2 hn2 rfl
    try simp only [List.getElem_toArray, List.getElem_cons_zero, List.getElem_cons_succ] at he1
    have ze1 := fz_new ew2 hn2 1
    have he2 := cl_new (i := 2) ew2 hn2 rfl
    try simp only [List.getElem_toArray, List.getElem_cons_zero, List.getElem_cons_succ] at he2
    have ze2 := fz_new ew2 hn2 2
    replace kp := kp.alN ew2
    have hk2 := hkk (n2, g.2) _ ⟨fun _ => ⟨kp, hg, hc0, hc1, hc2, hc3, hd0, hd1, hd2, hd3, hl0, zl0, fun h => ownsRow_al (hro h) ew2, fun _ _ => ⟨by omega, by omega, he0, he1, he2⟩, fun h => no nb15 h⟩, fun h => no nb16 h⟩
    simp only [d13, d4, d8, d12, d11, d10, d9, d7, d6, d5, d3, d2, d1, nb15, nb16, hbi, pu, Nat.reduceAdd, Nat.reduceEqDiff, reduceIte] at hk2
    exact hk2
  · intro b g w hI hcl hbi hdp rest hre hkk
    obtain ⟨hwf, hwt⟩ := hI
    replace hbi : b 15 = false := hbi
    have d0 : b 0 = true := hdp 0 (by decide)
    have d14 : b 14 = true := hdp 14 (by decide)
    have d13 : b 13 = true := hcl 14 (by decide) d14 13 (by decide)
    have d4 : b 4 = true := hcl 13 (by decide) d13 4 (by decide)
    have d8 : b 8 = true := hcl 13 (by decide) d13 8 (by decide)
    have d12 : b 12 = true := hcl 13 (by decide) d13 12 (by decide)
    have d11 : b 11 = true := hcl 12 (by decide) d12 11 (by decide)
    have d10 : b 10 = true := hcl 11 (by decide) d11 10 (by decide)
    have d9 : b 9 = true := hcl 10 (by decide) d10 9 (by decide)
    have d7 : b 7 = true := hcl 8 (by decide) d8 7 (by decide)
    have d6 : b 6 = true := hcl 7 (by decide) d7 6 (by decide)
    have d5 : b 5 = true := hcl 6 (by decide) d6 5 (by decide)
    have d3 : b 3 = true := hcl 4 (by decide) d4 3 (by decide)
    have d2 : b 2 = true := hcl 3 (by decide) d3 2 (by decide)
    have d1 : b 1 = true := hcl 2 (by decide) d2 1 (by decide)
    have nb16 : b 16 = false := nbf (fun h => hcl 16 (by decide) h 15 (by decide)) hbi
    obtain ⟨kp, hg, hc0, hc1, hc2, hc3, hd0, hd1, hd2, hd3, hl0, zl0, hro, hnb, hrr⟩ := hwf nb16
    clear hwf hwt
    simp only [d0, d14, d13, d4, d8, d12, d11, d10, d9, d7, d6, d5, d3, d2, d1, nb16, hbi, pu, Nat.reduceAdd, Nat.reduceEqDiff, reduceIte]
    obtain ⟨f1, f2, f3, f4, f5⟩ := hnb d14 hbi
    have hge := kp.size
    refine F.append rfl rfl (by decide) (.tmp 8) (.tmp 22) 44 48 rfl inf z w0.heap.size 3 24 und44 i1 i2 i3 i4 i5 (by decide) (v := .slice none 0 0) (n := 0) (nb := g.1) (xs := []) (news := [.int .i64 7, .int .i64 0, .int .i64 0]) rfl rfl (hro hbi) rfl ?_ (by simp [Value.oneCell']) (by simp [maxLen]) (by omega) (by omega) f2 (fun ad wr h => hfr ad wr (by have := (row_ge (hro hbi) (mem_rowL.2 h.symm)).1; omega)) (fun ad h => hfr ad false (by omega)) ?_
    · intro j u hu
      match j, hu with
      | 0, hu => simp at hu; subst hu; exact f3
      | 1, hu => simp at hu; subst hu; exact f4
      | 2, hu => simp at hu; subst hu; exact f5
      | j + 3, hu => simp at hu
    intro v' w' hr hgr hbk
    try walk_nrm
    have kg := Kp.grown hgr
    have hlt : n1 < w.heap.size := lt_of_cell hl0
    have hnot : ∀ x, x ∈ rowL (.slice none 0 0) → w0.heap.size ≤ x ∧ x ≠ n1 := fun x hx => ⟨(row_ge (hro hbi) hx).1, fun e => by subst e; simp [rowL, Value.ownBlock] at hx⟩
    have r0 : (0 : Nat) ∉ rowL (.slice none 0 0) := fun z => by have := (hnot _ z).1; omega
    have rp : p ∉ rowL (.slice none 0 0) := fun z => by have := (hnot _ z).1; omega
    have rq : q ∉ rowL (.slice none 0 0) := fun z => by have := (hnot _ z).1; omega
    have rn : n1 ∉ rowL (.slice none 0 0) := fun z => (hnot _ z).2 rfl
    have hk2 := hkk (g.1, v') _ ⟨fun _ => ⟨kp.callM kg (fun x hx => .inr (hnot x hx).1), kg.cell _ _ r0 hg, kg.cell _ _ rp hc0, kg.cell _ _ rp hc1, kg.cell _ _ rp hc2, kg.cell _ _ rp hc3, kg.cell _ _ rq hd0, kg.cell _ _ rq hd1, kg.cell _ _ rq hd2, kg.cell _ _ rq hd3, kg.cell _ _ rn hl0, (kg.froz _ _ rn hl0).trans zl0, fun h => (by simp [tick] at h), fun _ h => (by simp [tick] at h), fun _ => ⟨hr, fun hx => (by rw [mem_rowL] at hx; rcases hbk with y | y; exact rn (mem_rowL.2 (y ▸ hx)); rw [y] at hx; cases hx; omega)⟩⟩, fun h => no nb16 h⟩
    simp only [d0, d14, d13, d4, d8, d12, d11, d10, d9, d7, d6, d5, d3, d2, d1, nb16, hbi, pu, Nat.reduceAdd, Nat.reduceEqDiff, reduceIte] at hk2
    exact hk2
  · intro b g w hI hcl hbi hdp rest hre hkk
    obtain ⟨hwf, hwt⟩ := hI
    replace hbi : b 16 = false := hbi
    have d0 : b 0 = true := hdp 0 (by decide)
    have d1 : b 1 = true := hdp 1 (by decide)
    have d2 : b 2 = true := hdp 2 (by decide)
    have d3 : b 3 = true := hdp 3 (by decide)
    have d4 : b 4 = true := hdp 4 (by decide)
    have d5 : b 5 = true := hdp 5 (by decide)
    have d6 : b 6 = true := hdp 6 (by decide)
    have d7 : b 7 = true := hdp 7 (by decide)
    have d8 : b 8 = true := hdp 8 (by decide)
    have d9 : b 9 = true := hdp 9 (by decide)
    have d10 : b 10 = true := hdp 10 (by decide)
    have d11 : b 11 = true := hdp 11 (by decide)
    have d12 : b 12 = true := hdp 12 (by decide)
    have d13 : b 13 = true := hdp 13 (by decide)
    have d14 : b 14 = true := hdp 14 (by decide)
    have d15 : b 15 = true := hdp 15 (by decide)
    obtain ⟨kp, hg, hc0, hc1, hc2, hc3, hd0, hd1, hd2, hd3, hl0, zl0, hro, hnb, hrr⟩ := hwf hbi
    clear hwf hwt
    simp only [d0, d1, d2, d3, d4, d5, d6, d7, d8, d9, d10, d11, d12, d13, d14, d15, hbi, pu, Nat.reduceAdd, Nat.reduceEqDiff, reduceIte]
    refine F.oq rfl rfl rfl (fun _ => by simp [go_sem]) fun d K hK => ?_; go_simp; refine hK _ ?_; clear hK K d; try walk_nrm
    have hk2 := hkk g _ ⟨fun h => by simp [tick] at h, fun _ => ⟨kp, hg, hc0, hc1, hc2, hc3, hd0, hd1, hd2, hd3, hl0, zl0, hrr d15⟩⟩
    simp only [d0, d1, d2, d3, d4, d5, d6, d7, d8, d9, d10, d11, d12, d13, d14, d15, hbi, pu, Nat.reduceAdd, Nat.reduceEqDiff, reduceIte] at hk2
    exact hk2
  intro b g w hI hall
  obtain ⟨hwf, hwt⟩ := hI
  simp only [hall 0 (by decide), hall 1 (by decide), hall 2 (by decide), hall 3 (by decide), hall 4 (by decide), hall 5 (by decide), hall 6 (by decide), hall 7 (by decide), hall 8 (by decide), hall 9 (by decide), hall 10 (by decide), hall 11 (by decide), hall 12 (by decide), hall 13 (by decide), hall 14 (by decide), hall 15 (by decide), hall 16 (by decide), pu, Nat.reduceAdd, Nat.reduceEqDiff, reduceIte]
  obtain ⟨kp', hg', hc0', hc1', hc2', hc3', hd0', hd1', hd2', hd3', hl0', zl0', hrow', hnr'⟩ := hwt (hall 16 (by decide))
  clear kp hg hc0 hc1 hc2 hc3 hd0 hd1 hd2 hd3 hl0 zl0 hrow hwf hwt
  obtain ⟨x2, ex2⟩ : ∃ x, x = w := ⟨w, rfl⟩
  subst ex2
  obtain ⟨v2, ev2⟩ : ∃ y, y = g.2 := ⟨g.2, rfl⟩
  obtain ⟨m2, em2⟩ : ∃ y, y = g.1 := ⟨g.1, rfl⟩
  simp only [← ev2, ← em2] at hrow' hnr' ⊢
  clear ev2 em2 hall
  have kp := kp'
  have hrow := hrow'
  have hnr := hnr'
  have zl0 := zl0'
  have hg := hg'
  have hc0 := hc0'
  have hc1 := hc1'
  have hc2 := hc2'
  have hc3 := hc3'
  have hd0 := hd0'
  have hd1 := hd1'
  have hd2 := hd2'
  have hd3 := hd3'
  have hl0 := hl0'
  clear kp' hrow' hnr' zl0' hg' hc0' hc1' hc2' hc3' hd0' hd1' hd2' hd3' hl0'
  refine F.er ?_
  simp only [rg, Nat.reduceAdd]
  refine F.op rfl rfl (by decide) (fun d K hK => ?_)
  go_simp
  refine hK _ _ ⟨DX.still _ (fun e he => ?_), ?_⟩
  · have hm := mem_listed he
    simp [go_sem, *] at hm
    subst hm
    exact .inl ⟨_, rfl, rfl, by (first | assumption | (apply hfr <;> dsimp only <;> omega) | (apply hok; simp; done)), lt_of_cell (w := x2) (by assumption)⟩
  clear hK K d
  try walk_nrm
  iterate 2 (refine F.oq rfl rfl rfl (fun _ => by simp [go_sem]) fun d K hK => ?_; go_simp; refine hK _ ?_; clear hK K d; try walk_nrm)
  refine F.op rfl rfl (by decide) (fun d K hK => ?_)
  go_simp
  refine hK _ _ ⟨DX.still _ (fun e he => ?_), ?_⟩
  · have hm := mem_listed he
    simp [go_sem, *] at hm
    subst hm
    exact .inl ⟨_, rfl, rfl, by (first | assumption | (apply hfr <;> dsimp only <;> omega) | (apply hok; simp; done)), lt_of_cell (w := x2) (by assumption)⟩
  clear hK K d
  try walk_nrm
  refine F.oq rfl rfl rfl (fun _ => by simp [go_sem]) fun d K hK => ?_; go_simp; refine hK _ ?_; clear hK K d; try walk_nrm
  refine F.re ?_
  refine F.ib ?_
  refine F.ctl (fun _ => stepG_inLoop) ?_
  refine F.sq ?_
  refine F.sr ?_
  simp only [rg, Nat.reduceAdd]
  iterate 2 (refine F.oq rfl rfl rfl (fun _ => by first | (simp [go_sem]; done) | simp [go_sem, Instr.makeInterface, Instr.makeFunc, *]) fun d K hK => ?_; go_simp; refine hK _ ?_; clear hK K d; try walk_nrm)
  have sw3 := kp.size
  refine F.enter rfl rfl (by decide) (fun _ => run_call_body rfl Tryz.func65 (by rfl) (by rfl)) (fun _ => events_call_body rfl Tryz.func65 (by rfl) (by rfl) _) ?_
  walk_nrm
  refine errAs_x ⟨q, 0, none⟩ ⟨n1, 0, none⟩ _ x2 hg hl0 zl0 oG (hfr _ _ (by dsimp only; omega)) (fun a wr h => hfr a wr (by omega)) _ F _ _ (fun v w3a hp => ?_)
  obtain ⟨rfl, kq, hl', zl'⟩ := hp
  have hrn : ∀ g ∈ rowL (v2), g ∉ ([] : List Nat) ∧ ∀ x ∈ [(⟨n1, 0, none⟩ : Addr)], x.block ≠ g := fun g hg => ⟨by simp, fun x hx e => (hnr (by simp at hx; subst hx; have e2 : n1 = g := e; rw [e2]; exact hg))⟩
  replace hrow := kq.row hrow hrn
  clear hl0 zl0
  replace hg := Kp.cellC kq _ _ (by simp only [List.mem_cons, List.not_mem_nil, or_false, not_or]; first | omega | simp_all | (refine ⟨?_, ?_⟩ <;> first | omega | assumption) | assumption) (by first | (simp; done) | (simp; omega)) hg
  replace hc0 := Kp.cellC kq _ _ (by simp only [List.mem_cons, List.not_mem_nil, or_false, not_or]; first | omega | simp_all | (refine ⟨?_, ?_⟩ <;> first | omega | assumption) | assumption) (by first | (simp; done) | (simp; omega)) hc0
  replace hc1 := Kp.cellC kq _ _ (by simp only [List.mem_cons, List.not_mem_nil, or_false, not_or]; first | omega | simp_all | (refine ⟨?_, ?_⟩ <;> first | omega | assumption) | assumption) (by first | (simp; done) | (simp; omega)) hc1
  replace hc2 := Kp.cellC kq _ _ (by simp only [List.mem_cons, List.not_mem_nil, or_false, not_or]; first | omega | simp_all | (refine ⟨?_, ?_⟩ <;> first | omega | assumption) | assumption) (by first | (simp; done) | (simp; omega)) hc2
  replace hc3 := Kp.cellC kq _ _ (by simp only [List.mem_cons, List.not_mem_nil, or_false, not_or]; first | omega | simp_all | (refine ⟨?_, ?_⟩ <;> first | omega | assumption) | assumption) (by first | (simp; done) | (simp; omega)) hc3
  replace hd0 := Kp.cellC kq _ _ (by simp only [List.mem_cons, List.not_mem_nil, or_false, not_or]; first | omega | simp_all | (refine ⟨?_, ?_⟩ <;> first | omega | assumption) | assumption) (by first | (simp; done) | (simp; omega)) hd0
  replace hd1 := Kp.cellC kq _ _ (by simp only [List.mem_cons, List.not_mem_nil, or_false, not_or]; first | omega | simp_all | (refine ⟨?_, ?_⟩ <;> first | omega | assumption) | assumption) (by first | (simp; done) | (simp; omega)) hd1
  replace hd2 := Kp.cellC kq _ _ (by simp only [List.mem_cons, List.not_mem_nil, or_false, not_or]; first | omega | simp_all | (refine ⟨?_, ?_⟩ <;> first | omega | assumption) | assumption) (by first | (simp; done) | (simp; omega)) hd2
  replace hd3 := Kp.cellC kq _ _ (by simp only [List.mem_cons, List.not_mem_nil, or_false, not_or]; first | omega | simp_all | (refine ⟨?_, ?_⟩ <;> first | omega | assumption) | assumption) (by first | (simp; done) | (simp; omega)) hd3
  replace kp := kp.callN (kq) (by intro x hx; first | (exact absurd hx List.not_mem_nil) | (simp at hx; first | (left; simp [hx]; done) | (right; omega) | (rcases hx with rfl | hx <;> first | (left; simp; done) | (left; simp [hx]; done) | (right; omega)))) (by intro x hx; simp at hx; try (subst hx); first | (left; simp; done) | (right; left; simp; done) | (right; right; dsimp only; omega))
  have hl0 := hl'
  have zl0 := zl'
  clear kq hl' zl' hrn
  rw [Frame.finish_at]
  try walk_nrm
  refine F.re ?_
  refine F.ct rfl ?_
  refine F.sk ?_
  refine F.bl ?_
  refine F.sq ?_
  have sz3' : n1 + 1 ≤ w3a.heap.size := lt_of_cell hl0
  refine F.drawA (γ := Nat × Value) (n := 17) mixed [[], [], [1], [2], [3], [], [5], [6], [7], [], [9], [10], [11], [4, 8, 12], [13], [0, 14], [0, 1, 2, 3, 4, 5, 6, 7, 8, 9, 10, 11, 12, 13, 14, 15]] rfl (by kernel_rfl) (fun b g => [(8, sel (b 0) (v2) (.slice none 0 0)), (9, sel (b 1) (.pointer (some ⟨q, 0, none⟩)) (.pointer (some ⟨p, 0, none⟩))), (10, sel (b 2) (.pointer (some ⟨q, 0, none⟩)) (.pointer (some ⟨p, 0, none⟩))), (11, sel (b 3) (.pointer (some ⟨q, 0, none⟩)) (.pointer (some ⟨p, 0, none⟩))), (12, sel (b 4) (.int .i64 1) (.int .i64 7)), (13, sel (b 5) (.pointer (some ⟨q, 0, none⟩)) (.pointer (some ⟨p, 0, none⟩))), (14, sel (b 6) (.pointer (some ⟨q, 0, none⟩)) (.pointer (some ⟨p, 0, none⟩))), (15, sel (b 7) (.pointer (some ⟨q, 1, none⟩)) (.pointer (some ⟨p, 1, none⟩))), (16, sel (b 8) (.int .i64 (-1)) (.int .i64 0)), (17, sel (b 9) (.pointer (some ⟨q, 0, none⟩)) (.pointer (some ⟨p, 0, none⟩))), (18, sel (b 10) (.pointer (some ⟨q, 0, none⟩)) (.pointer (some ⟨p, 0, none⟩))), (19, sel (b 11) (.pointer (some ⟨q, 2, none⟩)) (.pointer (some ⟨p, 2, none⟩))), (20, sel (b 12) (.int .i64 3) (.int .i64 0)), (21, sel (b 13) (.agg #[.int .i64 1, .int .i64 (-1), .int .i64 3]) (.agg #[.int .i64 7, .int .i64 0, .int .i64 0])), (22, sel (b 14) (.slice (some ⟨g.1, 0, none⟩) 1 1) (.slice (some ⟨m2, 0, none⟩) 1 1)), (23, sel (b 15) (g.2) (v2)), (3, sel (b 16) (g.2) (v2))]) (fun b g w => (b 16 = false → ((Kp [] w0 w) ∧ (w.cell? ⟨0, 0, none⟩ = some (.iface 217 (.agg #[.pointer (some ⟨1, 121, none⟩)]))) ∧ (w.cell? ⟨p, 0, none⟩ = some (.int .i64 7)) ∧ (w.cell? ⟨p, 1, none⟩ = some (.int .i64 0)) ∧ (w.cell? ⟨p, 2, none⟩ = some (.int .i64 0)) ∧ (w.cell? ⟨p, 3, none⟩ = some (.iface 168 (.pointer (some ⟨q, 0, none⟩)))) ∧ (w.cell? ⟨q, 0, none⟩ = some (.int .i64 1)) ∧ (w.cell? ⟨q, 1, none⟩ = some (.int .i64 (-1))) ∧ (w.cell? ⟨q, 2, none⟩ = some (.int .i64 3)) ∧ (w.cell? ⟨q, 3, none⟩ = some (.nilIface)) ∧ (w.cell? ⟨n1, 0, none⟩ = some (.pointer (some ⟨q, 0, none⟩))) ∧ (w.frozen? ⟨n1, 0, none⟩ = false) ∧ (b 15 = false → w.ownsRow w0.heap.size 48 3 (v2) 1 [.int .i64 7, .int .i64 0, .int .i64 0]) ∧ (b 14 = true → b 15 = false → n1 < g.1 ∧ g.1 < w.heap.size ∧ w.cell? ⟨g.1, 0, none⟩ = some (.int .i64 1) ∧ w.cell? ⟨g.1, 1, none⟩ = some (.int .i64 (-1)) ∧ w.cell? ⟨g.1, 2, none⟩ = some (.int .i64 3)) ∧ (b 15 = true → w.ownsRow w0.heap.size 48 3 g.2 2 [.int .i64 7, .int .i64 0, .int .i64 0, .int .i64 1, .int .i64 (-1), .int .i64 3] ∧ n1 ∉ rowL g.2))) ∧ (b 16 = true → ( Kp [] w0 w ∧ w.cell? ⟨0, 0, none⟩ = some (.iface 217 (.agg #[.pointer (some ⟨1, 121, none⟩)])) ∧ w.cell? ⟨p, 0, none⟩ = some (.int .i64 7) ∧ w.cell? ⟨p, 1, none⟩ = some (.int .i64 0) ∧ w.cell? ⟨p, 2, none⟩ = some (.int .i64 0) ∧ w.cell? ⟨p, 3, none⟩ = some (.iface 168 (.pointer (some ⟨q, 0, none⟩))) ∧ w.cell? ⟨q, 0, none⟩ = some (.int .i64 1) ∧ w.cell? ⟨q, 1, none⟩ = some (.int .i64 (-1)) ∧ w.cell? ⟨q, 2, none⟩ = some (.int .i64 3) ∧ w.cell? ⟨q, 3, none⟩ = some (.nilIface) ∧ w.cell? ⟨n1, 0, none⟩ = some (.pointer (some ⟨q, 0, none⟩)) ∧ w.frozen? ⟨n1, 0, none⟩ = false ∧ w.ownsRow w0.heap.size 48 3 g.2 2 [.int .i64 7, .int .i64 0, .int .i64 0, .int .i64 1, .int .i64 (-1), .int .i64 3] ∧ n1 ∉ rowL g.2))) ((0, undef)) (by simp only [pu, Nat.reduceAdd, Nat.reduceEqDiff, reduceIte]) (⟨fun _ => ⟨kp, hg, hc0, hc1, hc2, hc3, hd0, hd1, hd2, hd3, hl0, zl0, fun _ => hrow, fun h => (by cases h), fun h => (by cases h)⟩, fun h => by cases h⟩) (all_cons ?_ (all_cons ?_ (all_cons ?_ (all_cons ?_ (all_cons ?_ (all_cons ?_ (all_cons ?_ (all_cons ?_ (all_cons ?_ (all_cons ?_ (all_cons ?_ (all_cons ?_ (all_cons ?_ (all_cons ?_ (all_cons ?_ (all_cons ?_ (all_cons ?_ (all_nil)))))))))))))))))) ?_
  · intro b g w hI hcl hbi hdp rest hre hkk
    obtain ⟨hwf, hwt⟩ := hI
    replace hbi : b 0 = false := hbi
    have nb15 : b 15 = false := nbf (fun h => hcl 15 (by decide) h 0 (by decide)) hbi
    have nb16 : b 16 = false := nbf (fun h => hcl 16 (by decide) h 0 (by decide)) hbi
    obtain ⟨kp, hg, hc0, hc1, hc2, hc3, hd0, hd1, hd2, hd3, hl0, zl0, hro, hnb, hrr⟩ := hwf nb16
    clear hwf hwt
    simp only [nb15, nb16, hbi, pu, Nat.reduceAdd, Nat.reduceEqDiff, reduceIte]
    refine F.oq rfl rfl rfl (fun _ => by simp [go_sem]) fun d K hK => ?_; go_simp; refine hK _ ?_; clear hK K d; try walk_nrm
    have hk2 := hkk g _ ⟨fun _ => ⟨kp, hg, hc0, hc1, hc2, hc3, hd0, hd1, hd2, hd3, hl0, zl0, hro, hnb, hrr⟩, fun h => no nb16 h⟩
    simp only [nb15, nb16, hbi, pu, Nat.reduceAdd, Nat.reduceEqDiff, reduceIte] at hk2
    exact hk2
  · intro b g w hI hcl hbi hdp rest hre hkk
    obtain ⟨hwf, hwt⟩ := hI
    replace hbi : b 1 = false := hbi
    have nb2 : b 2 = false := nbf (fun h => hcl 2 (by decide) h 1 (by decide)) hbi
    have nb16 : b 16 = false := nbf (fun h => hcl 16 (by decide) h 1 (by decide)) hbi
    obtain ⟨kp, hg, hc0, hc1, hc2, hc3, hd0, hd1, hd2, hd3, hl0, zl0, hro, hnb, hrr⟩ := hwf nb16
    clear hwf hwt
    simp only [nb2, nb16, hbi, pu, Nat.reduceAdd, Nat.reduceEqDiff, reduceIte]
    refine F.op rfl rfl (by decide) (fun d K hK => ?_)
    go_simp
    refine hK _ _ ⟨DX.still _ (fun e he => ?_), ?_⟩
    · have hm := mem_listed he
      simp [go_sem, *] at hm
      subst hm
      exact .inl ⟨_, rfl, rfl, by (first | assumption | (apply hfr <;> dsimp only <;> omega) | (apply hok; simp; done)), lt_of_cell (w := w) (by assumption)⟩
    clear hK K d
    try walk_nrm
    have hk2 := hkk g _ ⟨fun _ => ⟨kp, hg, hc0, hc1, hc2, hc3, hd0, hd1, hd2, hd3, hl0, zl0, hro, hnb, hrr⟩, fun h => no nb16 h⟩
    simp only [nb2, nb16, hbi, pu, Nat.reduceAdd, Nat.reduceEqDiff, reduceIte] at hk2
    exact hk2
  · intro b g w hI hcl hbi hdp rest hre hkk
    obtain ⟨hwf, hwt⟩ := hI
    replace hbi : b 2 = false := hbi
    have d1 : b 1 = true := hdp 1 (by decide)
    have nb3 : b 3 = false := nbf (fun h => hcl 3 (by decide) h 2 (by decide)) hbi
    have nb16 : b 16 = false := nbf (fun h => hcl 16 (by decide) h 2 (by decide)) hbi
    obtain ⟨kp, hg, hc0, hc1, hc2, hc3, hd0, hd1, hd2, hd3, hl0, zl0, hro, hnb, hrr⟩ := hwf nb16
    clear hwf hwt
    simp only [d1, nb3, nb16, hbi, pu, Nat.reduceAdd, Nat.reduceEqDiff, reduceIte]
    refine F.oq rfl rfl rfl (fun _ => by simp [go_sem]) fun d K hK => ?_; go_simp; refine hK _ ?_; clear hK K d; try walk_nrm
    have hk2 := hkk g _ ⟨fun _ => ⟨kp, hg, hc0, hc1, hc2, hc3, hd0, hd1, hd2, hd3, hl0, zl0, hro, hnb, hrr⟩, fun h => no nb16 h⟩
    simp only [d1, nb3, nb16, hbi, pu, Nat.reduceAdd, Nat.reduceEqDiff, reduceIte] at hk2
    exact hk2
  · intro b g w hI hcl hbi hdp rest hre hkk
    obtain ⟨hwf, hwt⟩ := hI
    replace hbi : b 3 = false := hbi
    have d2 : b 2 = true := hdp 2 (by decide)
    have d1 : b 1 = true := hcl 2 (by decide) d2 1 (by decide)
    have nb4 : b 4 = false := nbf (fun h => hcl 4 (by decide) h 3 (by decide)) hbi
    have nb16 : b 16 = false := nbf (fun h => hcl 16 (by decide) h 3 (by decide)) hbi
    obtain ⟨kp, hg, hc0, hc1, hc2, hc3, hd0, hd1, hd2, hd3, hl0, zl0, hro, hnb, hrr⟩ := hwf nb16
    clear hwf hwt
    simp only [d2, d1, nb4, nb16, hbi, pu, Nat.reduceAdd, Nat.reduceEqDiff, reduceIte]
    refine F.oq rfl rfl rfl (fun _ => by simp [go_sem]) fun d K hK => ?_; go_simp; refine hK _ ?_; clear hK K d; try walk_nrm
    have hk2 := hkk g _ ⟨fun _ => ⟨kp, hg, hc0, hc1, hc2, hc3, hd0, hd1, hd2, hd3, hl0, zl0, hro, hnb, hrr⟩, fun h => no nb16 h⟩
    simp only [d2, d1, nb4, nb16, hbi, pu, Nat.reduceAdd, Nat.reduceEqDiff, reduceIte] at hk2
    exact hk2
  · intro b g w hI hcl hbi hdp rest hre hkk
    obtain ⟨hwf, hwt⟩ := hI
    replace hbi : b 4 = false := hbi
    have d3 : b 3 = true := hdp 3 (by decide)
    have d2 : b 2 = true := hcl 3 (by decide) d3 2 (by decide)
    have d1 : b 1 = true := hcl 2 (by decide) d2 1 (by decide)
    have nb13 : b 13 = false := nbf (fun h => hcl 13 (by decide) h 4 (by decide)) hbi
    have nb16 : b 16 = false := nbf (fun h => hcl 16 (by decide) h 4 (by decide)) hbi
    obtain ⟨kp, hg, hc0, hc1, hc2, hc3, hd0, hd1, hd2, hd3, hl0, zl0, hro, hnb, hrr⟩ := hwf nb16
    clear hwf hwt
    simp only [d3, d2, d1, nb13, nb16, hbi, pu, Nat.reduceAdd, Nat.reduceEqDiff, reduceIte]
    refine F.op rfl rfl (by decide) (fun d K hK => ?_)
    go_simp
    refine hK _ _ ⟨DX.still _ (fun e he => ?_), ?_⟩
    · have hm := mem_listed he
      simp [go_sem, *] at hm
      subst hm
      exact .inl ⟨_, rfl, rfl, by (first | assumption | (apply hfr <;> dsimp only <;> omega) | (apply hok; simp; done)), lt_of_cell (w := w) (by assumption)⟩
    clear hK K d
    try walk_nrm
    have hk2 := hkk g _ ⟨fun _ => ⟨kp, hg, hc0, hc1, hc2, hc3, hd0, hd1, hd2, hd3, hl0, zl0, hro, hnb, hrr⟩, fun h => no nb16 h⟩
    simp only [d3, d2, d1, nb13, nb16, hbi, pu, Nat.reduceAdd, Nat.reduceEqDiff, reduceIte] at hk2
    exact hk2
  · intro b g w hI hcl hbi hdp rest hre hkk
    obtain ⟨hwf, hwt⟩ := hI
    replace hbi : b 5 = false := hbi
    have nb6 : b 6 = false := nbf (fun h => hcl 6 (by decide) h 5 (by decide)) hbi
    have nb16 : b 16 = false := nbf (fun h => hcl 16 (by decide) h 5 (by decide)) hbi
    obtain ⟨kp, hg, hc0, hc1, hc2, hc3, hd0, hd1, hd2, hd3, hl0, zl0, hro, hnb, hrr⟩ := hwf nb16
    clear hwf hwt
    simp only [nb6, nb16, hbi, pu, Nat.reduceAdd, Nat.reduceEqDiff, reduceIte]
    refine F.op rfl rfl (by decide) (fun d K hK => ?_)
    go_simp
    refine hK _ _ ⟨DX.still _ (fun e he => ?_), ?_⟩
    · have hm := mem_listed he
      simp [go_sem, *] at hm
      subst hm
      exact .inl ⟨_, rfl, rfl, by (first | assumption | (apply hfr <;> dsimp only <;> omega) | (apply hok; simp; done)), lt_of_cell (w := w) (by assumption)⟩
    clear hK K d
    try walk_nrm
    have hk2 := hkk g _ ⟨fun _ => ⟨kp, hg, hc0, hc1, hc2, hc3, hd0, hd1, hd2, hd3, hl0, zl0, hro, hnb, hrr⟩, fun h => no nb16 h⟩
    simp only [nb6, nb16, hbi, pu, Nat.reduceAdd, Nat.reduceEqDiff, reduceIte] at hk2
    exact hk2
  · intro b g w hI hcl hbi hdp rest hre hkk
    obtain ⟨hwf, hwt⟩ := hI
    replace hbi : b 6 = false := hbi
    have d5 : b 5 = true := hdp 5 (by decide)
    have nb7 : b 7 = false := nbf (fun h => hcl 7 (by decide) h 6 (by decide)) hbi
    have nb16 : b 16 = false := nbf (fun h => hcl 16 (by decide) h 6 (by decide)) hbi
    obtain ⟨kp, hg, hc0, hc1, hc2, hc3, hd0, hd1, hd2, hd3, hl0, zl0, hro, hnb, hrr⟩ := hwf nb16
    clear hwf hwt
    simp only [d5, nb7, nb16, hbi, pu, Nat.reduceAdd, Nat.reduceEqDiff, reduceIte]
    refine F.oq rfl rfl rfl (fun _ => by simp [go_sem]) fun d K hK => ?_; go_simp; refine hK _ ?_; clear hK K d; try walk_nrm
    have hk2 := hkk g _ ⟨fun _ => ⟨kp, hg, hc0, hc1, hc2, hc3, hd0, hd1, hd2, hd3, hl0, zl0, hro, hnb, hrr⟩, fun h => no nb16 h⟩
    simp only [d5, nb7, nb16, hbi, pu, Nat.reduceAdd, Nat.reduceEqDiff, reduceIte] at hk2
    exact hk2
  · intro b g w hI hcl hbi hdp rest hre hkk
    obtain ⟨hwf, hwt⟩ := hI
    replace hbi : b 7 = false := hbi
    have d6 : b 6 = true := hdp 6 (by decide)
    have d5 : b 5 = true := hcl 6 (by decide) d6 5 (by decide)
    have nb8 : b 8 = false := nbf (fun h => hcl 8 (by decide) h 7 (by decide)) hbi
    have nb16 : b 16 = false := nbf (fun h => hcl 16 (by decide) h 7 (by decide)) hbi
    obtain ⟨kp, hg, hc0, hc1, hc2, hc3, hd0, hd1, hd2, hd3, hl0, zl0, hro, hnb, hrr⟩ := hwf nb16
    clear hwf hwt
    simp only [d6, d5, nb8, nb16, hbi, pu, Nat.reduceAdd, Nat.reduceEqDiff, reduceIte]
    refine F.oq rfl rfl rfl (fun _ => by simp [go_sem]) fun d K hK => ?_; go_simp; refine hK _ ?_; clear hK K d; try walk_nrm
    have hk2 := hkk g _ ⟨fun _ => ⟨kp, hg, hc0, hc1, hc2, hc3, hd0, hd1, hd2, hd3, hl0, zl0, hro, hnb, hrr⟩, fun h => no nb16 h⟩
    simp only [d6, d5, nb8, nb16, hbi, pu, Nat.reduceAdd, Nat.reduceEqDiff, reduceIte] at hk2
    exact hk2
  · intro b g w hI hcl hbi hdp rest hre hkk
    obtain ⟨hwf, hwt⟩ := hI
    replace hbi : b 8 = false := hbi
    have d7 : b 7 = true := hdp 7 (by decide)
    have d6 : b 6 = true := hcl 7 (by decide) d7 6 (by decide)
    have d5 : b 5 = true := hcl 6 (by decide) d6 5 (by decide)
    have nb13 : b 13 = false := nbf (fun h => hcl 13 (by decide) h 8 (by decide)) hbi
    have nb16 : b 16 = false := nbf (fun h => hcl 16 (by decide) h 8 (by decide)) hbi
    obtain ⟨kp, hg, hc0, hc1, hc2, hc3, hd0, hd1, hd2, hd3, hl0, zl0, hro, hnb, hrr⟩ := hwf nb16
    clear hwf hwt
    simp only [d7, d6, d5, nb13, nb16, hbi, pu, Nat.reduceAdd, Nat.reduceEqDiff, reduceIte]
    refine F.op rfl rfl (by decide) (fun d K hK => ?_)
    go_simp
    refine hK _ _ ⟨DX.still _ (fun e he => ?_), ?_⟩
    · have hm := mem_listed he
      simp [go_sem, *] at hm
      subst hm
      exact .inl ⟨_, rfl, rfl, by (first | assumption | (apply hfr <;> dsimp only <;> omega) | (apply hok; simp; done)), lt_of_cell (w := w) (by assumption)⟩
    clear hK K d
    try walk_nrm
    have hk2 := hkk g _ ⟨fun _ => ⟨kp, hg, hc0, hc1, hc2, hc3, hd0, hd1, hd2, hd3, hl0, zl0, hro, hnb, hrr⟩, fun h => no nb16 h⟩
    simp only [d7, d6, d5, nb13, nb16, hbi, pu, Nat.reduceAdd, Nat.reduceEqDiff, reduceIte] at hk2
    exact hk2
  · intro b g w hI hcl hbi hdp rest hre hkk
    obtain ⟨hwf, hwt⟩ := hI
    replace hbi : b 9 = false := hbi
    have nb10 : b 10 = false := nbf (fun h => hcl 10 (by decide) h 9 (by decide)) hbi
    have nb16 : b 16 = false := nbf (fun h => hcl 16 (by decide) h 9 (by decide)) hbi
    obtain ⟨kp, hg, hc0, hc1, hc2, hc3, hd0, hd1, hd2, hd3, hl0, zl0, hro, hnb, hrr⟩ := hwf nb16
    clear hwf hwt
    simp only [nb10, nb16, hbi, pu, Nat.reduceAdd, Nat.reduceEqDiff, reduceIte]
    refine F.op rfl rfl (by decide) (fun d K hK => ?_)
    go_simp
    refine hK _ _ ⟨DX.still _ (fun e he => ?_), ?_⟩
    · have hm := mem_listed he
      simp [go_sem, *] at hm
      subst hm
      exact .inl ⟨_, rfl, rfl, by (first | assumption | (apply hfr <;> dsimp only <;> omega) | (apply hok; simp; done)), lt_of_cell (w := w) (by assumption)⟩
    clear hK K d
    try walk_nrm
    have hk2 := hkk g _ ⟨fun _ => ⟨kp, hg, hc0, hc1, hc2, hc3, hd0, hd1, hd2, hd3, hl0, zl0, hro, hnb, hrr⟩, fun h => no nb16 h⟩
    simp only [nb10, nb16, hbi, pu, Nat.reduceAdd, Nat.reduceEqDiff, reduceIte] at hk2
    exact hk2
  · intro b g w hI hcl hbi hdp rest hre hkk
    obtain ⟨hwf, hwt⟩ := hI
    replace hbi : b 10 = false := hbi
    have d9 : b 9 = true := hdp 9 (by decide)
    have nb11 : b 11 = false := nbf (fun h => hcl 11 (by decide) h 10 (by decide)) hbi
    have nb16 : b 16 = false := nbf (fun h => hcl 16 (by decide) h 10 (by decide)) hbi
    obtain ⟨kp, hg, hc0, hc1, hc2, hc3, hd0, hd1, hd2, hd3, hl0, zl0, hro, hnb, hrr⟩ := hwf nb16
    clear hwf hwt
    simp only [d9, nb11, nb16, hbi, pu, Nat.reduceAdd, Nat.reduceEqDiff, reduceIte]
    refine F.oq rfl rfl rfl (fun _ => by simp [go_sem]) fun d K hK => ?_; go_simp; refine hK _ ?_; clear hK K d; try walk_nrm
    have hk2 := hkk g _ ⟨fun _ => ⟨kp, hg, hc0, hc1, hc2, hc3, hd0, hd1, hd2, hd3, hl0, zl0, hro, hnb, hrr⟩, fun h => no nb16 h⟩
    simp only [d9, nb11, nb16, hbi, pu, Nat.reduceAdd, Nat.reduceEqDiff, reduceIte] at hk2
    exact hk2
  · intro b g w hI hcl hbi hdp rest hre hkk
    obtain ⟨hwf, hwt⟩ := hI
    replace hbi : b 11 = false := hbi
    have d10 : b 10 = true := hdp 10 (by decide)
    have d9 : b 9 = true := hcl 10 (by decide) d10 9 (by decide)
    have nb12 : b 12 = false := nbf (fun h => hcl 12 (by decide) h 11 (by decide)) hbi
    have nb16 : b 16 = false := nbf (fun h => hcl 16 (by decide) h 11 (by decide)) hbi
    obtain ⟨kp, hg, hc0, hc1, hc2, hc3, hd0, hd1, hd2, hd3, hl0, zl0, hro, hnb, hrr⟩ := hwf nb16
    clear hwf hwt
    simp only [d10, d9, nb12, nb16, hbi, pu, Nat.reduceAdd, Nat.reduceEqDiff, reduceIte]
    refine F.oq rfl rfl rfl (fun _ => by simp [go_sem]) fun d K hK => ?_; go_simp; refine hK _ ?_; clear hK K d; try walk_nrm
    have hk2 := hkk g _ ⟨fun _ => ⟨kp, hg, hc0, hc1, hc2, hc3, hd0, hd1, hd2, hd3, hl0, zl0, hro, hnb, hrr⟩, fun h => no nb16 h⟩
    simp only [d10, d9, nb12, nb16, hbi, pu, Nat.reduceAdd, Nat.reduceEqDiff, reduceIte] at hk2
    exact hk2
  · intro b g w hI hcl hbi hdp rest hre hkk
    obtain ⟨hwf, hwt⟩ := hI
    replace hbi : b 12 = false := hbi
    have d11 : b 11 = true := hdp 11 (by decide)
    have d10 : b 10 = true := hcl 11 (by decide) d11 10 (by decide)
    have d9 : b 9 = true := hcl 10 (by decide) d10 9 (by decide)
    have nb13 : b 13 = false := nbf (fun h => hcl 13 (by decide) h 12 (by decide)) hbi
    have nb16 : b 16 = false := nbf (fun h => hcl 16 (by decide) h 12 (by decide)) hbi
    obtain ⟨kp, hg, hc0, hc1, hc2, hc3, hd0, hd1, hd2, hd3, hl0, zl0, hro, hnb, hrr⟩ := hwf nb16
    clear hwf hwt
    simp only [d11, d10, d9, nb13, nb16, hbi, pu, Nat.reduceAdd, Nat.reduceEqDiff, reduceIte]
    refine F.op rfl rfl (by decide) (fun d K hK => ?_)
    go_simp
    refine hK _ _ ⟨DX.still _ (fun e he => ?_), ?_⟩
    · have hm := mem_listed he
      simp [go_sem, *] at hm
      subst hm
      exact .inl ⟨_, rfl, rfl, by (first | assumption | (apply hfr <;> dsimp only <;> omega) | (apply hok; simp; done)), lt_of_cell (w := w) (by assumption)⟩
    clear hK K d
    try walk_nrm
    have hk2 := hkk g _ ⟨fun _ => ⟨kp, hg, hc0, hc1, hc2, hc3, hd0, hd1, hd2, hd3, hl0, zl0, hro, hnb, hrr⟩, fun h => no nb16 h⟩
    simp only [d11, d10, d9, nb13, nb16, hbi, pu, Nat.reduceAdd, Nat.reduceEqDiff, reduceIte] at hk2
    exact hk2
  · intro b g w hI hcl hbi hdp rest hre hkk
    obtain ⟨hwf, hwt⟩ := hI
    replace hbi : b 13 = false := hbi
    have d4 : b 4 = true := hdp 4 (by decide)
    have d8 : b 8 = true := hdp 8 (by decide)
    have d12 : b 12 = true := hdp 12 (by decide)
    have d11 : b 11 = true := hcl 12 (by decide) d12 11 (by decide)
    have d10 : b 10 = true := hcl 11 (by decide) d11 10 (by decide)
    have d9 : b 9 = true := hcl 10 (by decide) d10 9 (by decide)
    have d7 : b 7 = true := hcl 8 (by decide) d8 7 (by decide)
    have d6 : b 6 = true := hcl 7 (by decide) d7 6 (by decide)
    have d5 : b 5 = true := hcl 6 (by decide) d6 5 (by decide)
    have d3 : b 3 = true := hcl 4 (by decide) d4 3 (by decide)
    have d2 : b 2 = true := hcl 3 (by decide) d3 2 (by decide)
    have d1 : b 1 = true := hcl 2 (by decide) d2 1 (by decide)
    have nb14 : b 14 = false := nbf (fun h => hcl 14 (by decide) h 13 (by decide)) hbi
    have nb16 : b 16 = false := nbf (fun h => hcl 16 (by decide) h 13 (by decide)) hbi
    obtain ⟨kp, hg, hc0, hc1, hc2, hc3, hd0, hd1, hd2, hd3, hl0, zl0, hro, hnb, hrr⟩ := hwf nb16
    clear hwf hwt
    simp only [d4, d8, d12, d11, d10, d9, d7, d6, d5, d3, d2, d1, nb14, nb16, hbi, pu, Nat.reduceAdd, Nat.reduceEqDiff, reduceIte]
    refine F.oq rfl rfl rfl (fun _ => by simp [go_sem]) fun d K hK => ?_; go_simp; refine hK _ ?_; clear hK K d; try walk_nrm
    have hk2 := hkk g _ ⟨fun _ => ⟨kp, hg, hc0, hc1, hc2, hc3, hd0, hd1, hd2, hd3, hl0, zl0, hro, hnb, hrr⟩, fun h => no nb16 h⟩
    simp only [d4, d8, d12, d11, d10, d9, d7, d6, d5, d3, d2, d1, nb14, nb16, hbi, pu, Nat.reduceAdd, Nat.reduceEqDiff, reduceIte] at hk2
    exact hk2
  · intro b g w hI hcl hbi hdp rest hre hkk
    obtain ⟨hwf, hwt⟩ := hI
    replace hbi : b 14 = false := hbi
    have d13 : b 13 = true := hdp 13 (by decide)
    have d4 : b 4 = true := hcl 13 (by decide) d13 4 (by decide)
    have d8 : b 8 = true := hcl 13 (by decide) d13 8 (by decide)
    have d12 : b 12 = true := hcl 13 (by decide) d13 12 (by decide)
    have d11 : b 11 = true := hcl 12 (by decide) d12 11 (by decide)
    have d10 : b 10 = true := hcl 11 (by decide) d11 10 (by decide)
    have d9 : b 9 = true := hcl 10 (by decide) d10 9 (by decide)
    have d7 : b 7 = true := hcl 8 (by decide) d8 7 (by decide)
    have d6 : b 6 = true := hcl 7 (by decide) d7 6 (by decide)
    have d5 : b 5 = true := hcl 6 (by decide) d6 5 (by decide)
    have d3 : b 3 = true := hcl 4 (by decide) d4 3 (by decide)
    have d2 : b 2 = true := hcl 3 (by decide) d3 2 (by decide)
    have d1 : b 1 = true := hcl 2 (by decide) d2 1 (by decide)
    have nb15 : b 15 = false := nbf (fun h => hcl 15 (by decide) h 14 (by decide)) hbi
    have nb16 : b 16 = false := nbf (fun h => hcl 16 (by decide) h 14 (by decide)) hbi
    obtain ⟨kp, hg, hc0, hc1, hc2, hc3, hd0, hd1, hd2, hd3, hl0, zl0, hro, hnb, hrr⟩ := hwf nb16
    clear hwf hwt
    simp only [d13, d4, d8, d12, d11, d10, d9, d7, d6, d5, d3, d2, d1, nb15, nb16, hbi, pu, Nat.reduceAdd, Nat.reduceEqDiff, reduceIte]
    have hge : n1 < w.heap.size := lt_of_cell hl0
    refine F.op rfl rfl (by decide) (fun d K hK => ?_)
    go_simp
    rw [alloc_at']
    refine hK _ _ ⟨DX.alloc _ _ (fun e he => ?_), ?_⟩
    · have hm := mem_listed he
      simp [go_sem] at hm
    clear hK K d
    try walk_nrm
    generalize ew2 : World.alloc w _ = w2
    generalize hn2 : (World.heap w).size = n2
    have sz2 := sz_al ew2 hn2
    replace zl0 := fz_al zl0 hl0 ew2
    replace hg := cl_al hg ew2
    replace hc0 := cl_al hc0 ew2
    replace hc1 := cl_al hc1 ew2
    replace hc2 := cl_al hc2 ew2
    replace hc3 := cl_al hc3 ew2
    replace hd0 := cl_al hd0 ew2
    replace hd1 := cl_al hd1 ew2
    replace hd2 := cl_al hd2 ew2
    replace hd3 := cl_al hd3 ew2
    replace hl0 := cl_al hl0 ew2
    have he0 := cl_new (i := 0) ew2 hn2 rfl
    try simp only [List.getElem_toArray, List.getElem_cons_zero, List.getElem_cons_succ] at he0
    have ze0 := fz_new ew2 hn2 0
    have he1 := cl_new (i := 1) ew2 hn2 rfl
    try simp only [List.getElem_toArray, List.getElem_cons_zero, List.getElem_cons_succ] at he1
    have ze1 := fz_new ew2 hn2 1
    have he2 := cl_new (i := 2) ew2 hn2 rfl
    try simp only [List.getElem_toArray, List.getElem_cons_zero, List.getElem_cons_succ] at he2
    have ze2 := fz_new ew2 hn2 2
    replace kp := kp.alN ew2
    have hk2 := hkk (n2, g.2) _ ⟨fun _ => ⟨kp, hg, hc0, hc1, hc2, hc3, hd0, hd1, hd2, hd3, hl0, zl0, fun h => ownsRow_al (hro h) ew2, fun _ _ => ⟨by omega, by omega, he0, he1, he2⟩, fun h => no nb15 h⟩, fun h => no nb16 h⟩
    simp only [d13, d4, d8, d12, d11, d10, d9, d7, d6, d5, d3, d2, d1, nb15, nb16, hbi, pu, Nat.reduceAdd, Nat.reduceEqDiff, reduceIte] at hk2
    exact hk2
  · intro b g w hI hcl hbi hdp rest hre hkk
    obtain ⟨hwf, hwt⟩ := hI
    replace hbi : b 15 = false := hbi
    have d0 : b 0 = true := hdp 0 (by decide)
    have d14 : b 14 = true := hdp 14 (by decide)
    have d13 : b 13 = true := hcl 14 (by decide) d14 13 (by decide)
    have d4 : b 4 = true := hcl 13 (by decide) d13 4 (by decide)
    have d8 : b 8 = true := hcl 13 (by decide) d13 8 (by decide)
    have d12 : b 12 = true := hcl 13 (by decide) d13 12 (by decide)
    have d11 : b 11 = true := hcl 12 (by decide) d12 11 (by decide)
    have d10 : b 10 = true := hcl 11 (by decide) d11 10 (by decide)
    have d9 : b 9 = true := hcl 10 (by decide) d10 9 (by decide)
    have d7 : b 7 = true := hcl 8 (by decide) d8 7 (by decide)
    have d6 : b 6 = true := hcl 7 (by decide) d7 6 (by decide)
    have d5 : b 5 = true := hcl 6 (by decide) d6 5 (by decide)
    have d3 : b 3 = true := hcl 4 (by decide) d4 3 (by decide)
    have d2 : b 2 = true := hcl 3 (by decide) d3 2 (by decide)
    have d1 : b 1 = true := hcl 2 (by decide) d2 1 (by decide)
    have nb16 : b 16 = false := nbf (fun h => hcl 16 (by decide) h 15 (by decide)) hbi
    obtain ⟨kp, hg, hc0, hc1, hc2, hc3, hd0, hd1, hd2, hd3, hl0, zl0, hro, hnb, hrr⟩ := hwf nb16
    clear hwf hwt
    simp only [d0, d14, d13, d4, d8, d12, d11, d10, d9, d7, d6, d5, d3, d2, d1, nb16, hbi, pu, Nat.reduceAdd, Nat.reduceEqDiff, reduceIte]
    obtain ⟨f1, f2, f3, f4, f5⟩ := hnb d14 hbi
    have hge := kp.size
    refine F.append rfl rfl (by decide) (.tmp 8) (.tmp 22) 44 48 rfl inf z w0.heap.size 3 24 und44 i1 i2 i3 i4 i5 (by decide) (v := v2) (n := 1) (nb := g.1) (xs := [.int .i64 7, .int .i64 0, .int .i64 0]) (news := [.int .i64 1, .int .i64 (-1), .int .i64 3]) rfl rfl (hro hbi) rfl ?_ (by simp [Value.oneCell']) (by simp [maxLen]) (by omega) (by omega) f2 (fun ad wr h => hfr ad wr (by have := (row_ge (hro hbi) (mem_rowL.2 h.symm)).1; omega)) (fun ad h => hfr ad false (by omega)) ?_
    · intro j u hu
      match j, hu with
      | 0, hu => simp at hu; subst hu; exact f3
      | 1, hu => simp at hu; subst hu; exact f4
      | 2, hu => simp at hu; subst hu; exact f5
      | j + 3, hu => simp at hu
    intro v' w' hr hgr hbk
    try walk_nrm
    have kg := Kp.grown hgr
    have hlt : n1 < w.heap.size := lt_of_cell hl0
    have hnot : ∀ x, x ∈ rowL (v2) → w0.heap.size ≤ x ∧ x ≠ n1 := fun x hx => ⟨(row_ge (hro hbi) hx).1, fun e => by subst e; exact hnr hx⟩
    have r0 : (0 : Nat) ∉ rowL (v2) := fun z => by have := (hnot _ z).1; omega
    have rp : p ∉ rowL (v2) := fun z => by have := (hnot _ z).1; omega
    have rq : q ∉ rowL (v2) := fun z => by have := (hnot _ z).1; omega
    have rn : n1 ∉ rowL (v2) := fun z => (hnot _ z).2 rfl
    have hk2 := hkk (g.1, v') _ ⟨fun _ => ⟨kp.callM kg (fun x hx => .inr (hnot x hx).1), kg.cell _ _ r0 hg, kg.cell _ _ rp hc0, kg.cell _ _ rp hc1, kg.cell _ _ rp hc2, kg.cell _ _ rp hc3, kg.cell _ _ rq hd0, kg.cell _ _ rq hd1, kg.cell _ _ rq hd2, kg.cell _ _ rq hd3, kg.cell _ _ rn hl0, (kg.froz _ _ rn hl0).trans zl0, fun h => (by simp [tick] at h), fun _ h => (by simp [tick] at h), fun _ => ⟨hr, fun hx => (by rw [mem_rowL] at hx; rcases hbk with y | y; exact rn (mem_rowL.2 (y ▸ hx)); rw [y] at hx; cases hx; omega)⟩⟩, fun h => no nb16 h⟩
    simp only [d0, d14, d13, d4, d8, d12, d11, d10, d9, d7, d6, d5, d3, d2, d1, nb16, hbi, pu, Nat.reduceAdd, Nat.reduceEqDiff, reduceIte] at hk2
    exact hk2
  · intro b g w hI hcl hbi hdp rest hre hkk
    obtain ⟨hwf, hwt⟩ := hI
    replace hbi : b 16 = false := hbi
    have d0 : b 0 = true := hdp 0 (by decide)
    have d1 : b 1 = true := hdp 1 (by decide)
    have d2 : b 2 = true := hdp 2 (by decide)
    have d3 : b 3 = true := hdp 3 (by decide)
    have d4 : b 4 = true := hdp 4 (by decide)
    have d5 : b 5 = true := hdp 5 (by decide)
    have d6 : b 6 = true := hdp 6 (by decide)
    have d7 : b 7 = true := hdp 7 (by decide)
    have d8 : b 8 = true := hdp 8 (by decide)
    have d9 : b 9 = true := hdp 9 (by decide)
    have d10 : b 10 = true := hdp 10 (by decide)
    have d11 : b 11 = true := hdp 11 (by decide)
    have d12 : b 12 = true := hdp 12 (by decide)
    have d13 : b 13 = true := hdp 13 (by decide)
    have d14 : b 14 = true := hdp 14 (by decide)
    have d15 : b 15 = true := hdp 15 (by decide)
    obtain ⟨kp, hg, hc0, hc1, hc2, hc3, hd0, hd1, hd2, hd3, hl0, zl0, hro, hnb, hrr⟩ := hwf hbi
    clear hwf hwt
    simp only [d0, d1, d2, d3, d4, d5, d6, d7, d8, d9, d10, d11, d12, d13, d14, d15, hbi, pu, Nat.reduceAdd, Nat.reduceEqDiff, reduceIte]
    refine F.oq rfl rfl rfl (fun _ => by simp [go_sem]) fun d K hK => ?_; go_simp; refine hK _ ?_; clear hK K d; try walk_nrm
    have hk2 := hkk g _ ⟨fun h => by simp [tick] at h, fun _ => ⟨kp, hg, hc0, hc1, hc2, hc3, hd0, hd1, hd2, hd3, hl0, zl0, hrr d15⟩⟩
    simp only [d0, d1, d2, d3, d4, d5, d6, d7, d8, d9, d10, d11, d12, d13, d14, d15, hbi, pu, Nat.reduceAdd, Nat.reduceEqDiff, reduceIte] at hk2
    exact hk2
  intro b g w hI hall
  obtain ⟨hwf, hwt⟩ := hI
  simp only [hall 0 (by decide), hall 1 (by decide), hall 2 (by decide), hall 3 (by decide), hall 4 (by decide), hall 5 (by decide), hall 6 (by decide), hall 7 (by decide), hall 8 (by decide), hall 9 (by decide), hall 10 (by decide), hall 11 (by decide), hall 12 (by decide), hall 13 (by decide), hall 14 (by decide), hall 15 (by decide), hall 16 (by decide), pu, Nat.reduceAdd, Nat.reduceEqDiff, reduceIte]
  obtain ⟨kp', hg', hc0', hc1', hc2', hc3', hd0', hd1', hd2', hd3', hl0', zl0', hrow', hnr'⟩ := hwt (hall 16 (by decide))
  clear kp hg hc0 hc1 hc2 hc3 hd0 hd1 hd2 hd3 hl0 zl0 hrow hwf hwt hnr
  obtain ⟨x3, ex3⟩ : ∃ x, x = w := ⟨w, rfl⟩
  subst ex3
  obtain ⟨v3, ev3⟩ : ∃ y, y = g.2 := ⟨g.2, rfl⟩
  obtain ⟨m3, em3⟩ : ∃ y, y = g.1 := ⟨g.1, rfl⟩
  simp only [← ev3, ← em3] at hrow' hnr' ⊢
  clear ev3 em3 hall
  have kp := kp'
  have hrow := hrow'
  have hnr := hnr'
  have zl0 := zl0'
  have hg := hg'
  have hc0 := hc0'
  have hc1 := hc1'
  have hc2 := hc2'
  have hc3 := hc3'
  have hd0 := hd0'
  have hd1 := hd1'
  have hd2 := hd2'
  have hd3 := hd3'
  have hl0 := hl0'
  clear kp' hrow' hnr' zl0' hg' hc0' hc1' hc2' hc3' hd0' hd1' hd2' hd3' hl0'
  refine F.er ?_
  simp only [rg, Nat.reduceAdd]
  refine F.op rfl rfl (by decide) (fun d K hK => ?_)
  go_simp
  refine hK _ _ ⟨DX.still _ (fun e he => ?_), ?_⟩
  · have hm := mem_listed he
    simp [go_sem, *] at hm
    subst hm
    exact .inl ⟨_, rfl, rfl, by (first | assumption | (apply hfr <;> dsimp only <;> omega) | (apply hok; simp; done)), lt_of_cell (w := x3) (by assumption)⟩
  clear hK K d
  try walk_nrm
  iterate 2 (refine F.oq rfl rfl rfl (fun _ => by simp [go_sem]) fun d K hK => ?_; go_simp; refine hK _ ?_; clear hK K d; try walk_nrm)
  refine F.op rfl rfl (by decide) (fun d K hK => ?_)
  go_simp
  refine hK _ _ ⟨DX.still _ (fun e he => ?_), ?_⟩
  · have hm := mem_listed he
    simp [go_sem, *] at hm
    subst hm
    exact .inl ⟨_, rfl, rfl, by (first | assumption | (apply hfr <;> dsimp only <;> omega) | (apply hok; simp; done)), lt_of_cell (w := x3) (by assumption)⟩
  clear hK K d
  try walk_nrm
  refine F.oq rfl rfl rfl (fun _ => by simp [go_sem]) fun d K hK => ?_; go_simp; refine hK _ ?_; clear hK K d; try walk_nrm
  refine F.re ?_
  refine F.ib ?_
  refine F.ctl (fun _ => stepG_inLoop) ?_
  refine F.sq ?_
  refine F.sr ?_
  simp only [rg, Nat.reduceAdd]
  iterate 2 (refine F.oq rfl rfl rfl (fun _ => by first | (simp [go_sem]; done) | simp [go_sem, Instr.makeInterface, Instr.makeFunc, *]) fun d K hK => ?_; go_simp; refine hK _ ?_; clear hK K d; try walk_nrm)
  refine F.enter rfl rfl (by decide) (fun _ => run_call_body rfl Tryz.func65 (by rfl) (by rfl)) (fun _ => events_call_body rfl Tryz.func65 (by rfl) (by rfl) _) ?_
  walk_nrm
  refine asNil_x _ x3 _ F _ _ (fun v wq hp => ?_)
  obtain ⟨rfl, hq⟩ := hp
  have hq := hq.symm
  subst hq
  rw [Frame.finish_at]
  try walk_nrm
  refine F.re ?_
  refine F.cf rfl ?_
  refine F.ctl (fun _ => stepG_exit rfl) ?_
  refine F.sr ?_
  simp only [rg, Nat.reduceAdd]
  iterate 2 (refine F.oq rfl rfl rfl (fun _ => by simp [go_sem]) fun d K hK => ?_; go_simp; refine hK _ ?_; clear hK K d; try walk_nrm)
  refine F.re ?_
  refine F.ctl (fun _ => stepG_ret') ?_
  refine F.leave rfl rfl Tryz.func55 (resultsC_tmp (by rfl) _) ?_
  exact hc _ _ ⟨kp, hrow⟩

end Go.Proofs.YtobagnjnbmgidaaGreatDoor
