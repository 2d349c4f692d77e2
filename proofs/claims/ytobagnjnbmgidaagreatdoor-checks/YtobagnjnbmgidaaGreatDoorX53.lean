/- The opening of the law: two checks by hand, two runs. -/
import Derived.Test.YtobagnjnbmgidaaGreatDoorX52
import Derived.Test.YtobagnjnbmgidaaGreatDoorX39
set_option linter.unusedSimpArgs false
set_option linter.unusedVariables false
namespace Go.Proofs.YtobagnjnbmgidaaGreatDoor
open Go.Conc Go.RowKit
open Go.ConcN (sumTo upd sumTo_upd upd_ne upd_same)

def LH (i j : Nat) : Int := if j = 0 then (if i = 0 then 2 else 11) else 0

section
variable {wI : World} {Post : Value → World → Prop}

set_option maxRecDepth 100000 in
set_option maxHeartbeats 8000000 in
theorem heads_at (w0 : World) (cR : Frame) (csR : List Frame) (i0 : 0 < wI.heap.size) (hI : wI.heap.size ≤ w0.heap.size) (hg : wI.cell? ⟨0, 0, none⟩ = some (.iface 217 (.agg #[.pointer (some ⟨1, 121, none⟩)])))
    (hret : ∀ (l : List Nat) (w' : World), (∀ B ∈ l, wI.heap.size ≤ B ∧ B < w'.heap.size) → w0.heap.size ≤ w'.heap.size → At0 Tryz.prog Post (Old wI) (ShL l) 3 (G (cR.finish (.bool true)) csR) w') :
    At0 Tryz.prog Post (Old wI) (ShL []) 1 (G (Frame.enter Tryz.prog 15 #[] .normal) (cR :: csR)) w0 := by
  have F := fut0 (P := Tryz.prog) (Post := Post) (wI := wI) (l := []) 1
  have hfr : ∀ (a : Addr) (wr : Bool), w0.heap.size ≤ a.block → OkS wI.heap.size [] [] a wr := fun a wr h => ok_fr (N := w0.heap.size) (by simp) (by omega) h (by simp) wr
  have kp : Kp [] w0 w0 := Kp.refl _
  rw [enter_at _ Tryz.func15 rfl]
  simp only [Tryz.ntmps15, List.size_toArray, List.length_cons, List.length_nil, Nat.reduceAdd, Nat.reduceSub, Array.replicate_succ, Array.replicate_zero, List.push_toArray, List.append_toArray, List.nil_append, List.cons_append]
  refine F.sr ?_
  simp only [rg, Nat.reduceAdd]
  refine F.oq rfl rfl rfl (fun _ => by simp [go_sem]) fun d K hK => ?_; go_simp; refine hK _ ?_; clear hK K d; try walk_nrm
  refine F.esr ?_
  simp only [rg, Nat.reduceAdd]
  iterate 2 (refine F.oq rfl rfl rfl (fun _ => by simp [go_sem]) fun d K hK => ?_; go_simp; refine hK _ ?_; clear hK K d; try walk_nrm)
  refine F.op rfl rfl (by decide) (fun d K hK => ?_)
  go_simp
  rw [alloc_at']
  refine hK _ _ ⟨DX.alloc _ _ (fun e he => ?_), ?_⟩
  · have hm := mem_listed he
    simp [go_sem] at hm
  clear hK K d
  try walk_nrm
  generalize ew1 : World.alloc w0 _ = w1
  generalize hn1 : (World.heap w0).size = n1
  have sz1 : n1 < w1.heap.size ∧ w1.heap.size ≤ n1 + 1 := by have := sz_al ew1 hn1; omega
  have hx0 := cl_new (i := 0) ew1 hn1 rfl
  try simp only [List.getElem_toArray, List.getElem_cons_zero, List.getElem_cons_succ] at hx0
  have zx0 := fz_new ew1 hn1 0
  have hx1 := cl_new (i := 1) ew1 hn1 rfl
  try simp only [List.getElem_toArray, List.getElem_cons_zero, List.getElem_cons_succ] at hx1
  have zx1 := fz_new ew1 hn1 1
  have hx2 := cl_new (i := 2) ew1 hn1 rfl
  try simp only [List.getElem_toArray, List.getElem_cons_zero, List.getElem_cons_succ] at hx2
  have zx2 := fz_new ew1 hn1 2
  have hx3 := cl_new (i := 3) ew1 hn1 rfl
  try simp only [List.getElem_toArray, List.getElem_cons_zero, List.getElem_cons_succ] at hx3
  have zx3 := fz_new ew1 hn1 3
  have hx4 := cl_new (i := 4) ew1 hn1 rfl
  try simp only [List.getElem_toArray, List.getElem_cons_zero, List.getElem_cons_succ] at hx4
  have zx4 := fz_new ew1 hn1 4
  have hx5 := cl_new (i := 5) ew1 hn1 rfl
  try simp only [List.getElem_toArray, List.getElem_cons_zero, List.getElem_cons_succ] at hx5
  have zx5 := fz_new ew1 hn1 5
  have hx6 := cl_new (i := 6) ew1 hn1 rfl
  try simp only [List.getElem_toArray, List.getElem_cons_zero, List.getElem_cons_succ] at hx6
  have zx6 := fz_new ew1 hn1 6
  have hx7 := cl_new (i := 7) ew1 hn1 rfl
  try simp only [List.getElem_toArray, List.getElem_cons_zero, List.getElem_cons_succ] at hx7
  have zx7 := fz_new ew1 hn1 7
  have hx8 := cl_new (i := 8) ew1 hn1 rfl
  try simp only [List.getElem_toArray, List.getElem_cons_zero, List.getElem_cons_succ] at hx8
  have zx8 := fz_new ew1 hn1 8
  have hx9 := cl_new (i := 9) ew1 hn1 rfl
  try simp only [List.getElem_toArray, List.getElem_cons_zero, List.getElem_cons_succ] at hx9
  have zx9 := fz_new ew1 hn1 9
  have hx10 := cl_new (i := 10) ew1 hn1 rfl
  try simp only [List.getElem_toArray, List.getElem_cons_zero, List.getElem_cons_succ] at hx10
  have zx10 := fz_new ew1 hn1 10
  have hx11 := cl_new (i := 11) ew1 hn1 rfl
  try simp only [List.getElem_toArray, List.getElem_cons_zero, List.getElem_cons_succ] at hx11
  have zx11 := fz_new ew1 hn1 11
  replace kp := kp.alN ew1
  have hLx : LaysAt w1 (some ⟨n1, 0, none⟩) 2 LH := fun i hi => ⟨n1, 0, rfl, fun j hj => by
    match i, hi with
    | 0, _ => match j, hj with
      | 0, _ => exact hx0
      | 1, _ => exact hx1
      | 2, _ => exact hx2
      | 3, _ => exact hx3
      | 4, _ => exact hx4
      | 5, _ => exact hx5
    | 1, _ => match j, hj with
      | 0, _ => exact hx6
      | 1, _ => exact hx7
      | 2, _ => exact hx8
      | 3, _ => exact hx9
      | 4, _ => exact hx10
      | 5, _ => exact hx11⟩
  clear hx0 hx1 hx2 hx3 hx4 hx5 hx6 hx7 hx8 hx9 hx10 hx11 zx0 zx1 zx2 zx3 zx4 zx5 zx6 zx7 zx8 zx9 zx10 zx11
  refine F.enter rfl rfl (by decide) (fun _ => run_call_body rfl Tryz.func16 (by rfl) (by rfl)) (fun _ => events_call_body rfl Tryz.func16 (by rfl) (by rfl) _) ?_
  walk_nrm
  refine check_x w0.heap.size 2 2 0 0 (some ⟨n1, 0, none⟩) none LH (fun _ => ⟨0, none, 0, 0, fun _ _ => 0⟩) w1 (by omega) hLx (fun i hi => absurd hi (by omega)) (fun p hp a ha => by cases hp; exact hfr _ _ (by dsimp only at ha; omega)) ⟨(fun p hp => by cases hp), fun i hi => absurd hi (by omega)⟩ hfr _ F _ _ (fun v w2 hp => ?_)
  obtain ⟨hv, k1⟩ := hp
  replace hv : v = .tuple #[.int .i64 2, .int .i64 1] := hv
  subst hv
  replace kp := kp.callN (k1) (by intro x hx; first | (exact absurd hx List.not_mem_nil) | (simp at hx; first | (left; simp [hx]; done) | (right; omega) | (rcases hx with rfl | hx <;> first | (left; simp; done) | (left; simp [hx]; done) | (right; omega)))) (by intro x hx; simp at hx; try (subst hx); first | (left; simp; done) | (right; left; simp; done) | (right; right; dsimp only; omega))
  have q1 : w0.heap.size ≤ w2.heap.size := kp.size
  clear hn1 sz1 ew1 k1 hLx
  rw [Frame.finish_at]
  try walk_nrm
  iterate 5 (refine F.oq rfl rfl rfl (fun _ => by simp [go_sem]) fun d K hK => ?_; go_simp; refine hK _ ?_; clear hK K d; try walk_nrm)
  refine F.es ?_
  refine F.sr ?_
  simp only [rg, Nat.reduceAdd]
  iterate 6 (refine F.oq rfl rfl rfl (fun _ => by simp [go_sem]) fun d K hK => ?_; go_simp; refine hK _ ?_; clear hK K d; try walk_nrm)
  refine F.re ?_
  refine F.cf rfl ?_
  refine F.sk ?_
  refine F.sr ?_
  simp only [rg, Nat.reduceAdd]
  refine F.oq rfl rfl rfl (fun _ => by simp [go_sem]) fun d K hK => ?_; go_simp; refine hK _ ?_; clear hK K d; try walk_nrm
  refine F.op rfl rfl (by decide) (fun d K hK => ?_)
  go_simp
  rw [alloc_at']
  refine hK _ _ ⟨DX.alloc _ _ (fun e he => ?_), ?_⟩
  · have hm := mem_listed he
    simp [go_sem] at hm
  clear hK K d
  try walk_nrm
  generalize ew3 : World.alloc w2 _ = w3
  generalize hn3 : (World.heap w2).size = n3
  have sz3 : n3 < w3.heap.size ∧ w3.heap.size ≤ n3 + 1 := by have := sz_al ew3 hn3; omega
  have ht0 := cl_new (i := 0) ew3 hn3 rfl
  try simp only [List.getElem_toArray, List.getElem_cons_zero, List.getElem_cons_succ] at ht0
  have zt0 := fz_new ew3 hn3 0
  have ht1 := cl_new (i := 1) ew3 hn3 rfl
  try simp only [List.getElem_toArray, List.getElem_cons_zero, List.getElem_cons_succ] at ht1
  have zt1 := fz_new ew3 hn3 1
  have ht2 := cl_new (i := 2) ew3 hn3 rfl
  try simp only [List.getElem_toArray, List.getElem_cons_zero, List.getElem_cons_succ] at ht2
  have zt2 := fz_new ew3 hn3 2
  replace kp := kp.alN ew3
  refine F.oq rfl rfl rfl (fun _ => by simp [go_sem]) fun d K hK => ?_; go_simp; refine hK _ ?_; clear hK K d; try walk_nrm
  refine F.op rfl rfl (by decide) (fun d K hK => ?_)
  go_simp
  rw [alloc_at']
  refine hK _ _ ⟨DX.alloc _ _ (fun e he => ?_), ?_⟩
  · have hm := mem_listed he
    simp [go_sem] at hm
  clear hK K d
  try walk_nrm
  generalize ew4 : World.alloc w3 _ = w4
  generalize hn4 : (World.heap w3).size = n4
  have sz4 : n4 < w4.heap.size ∧ w4.heap.size ≤ n4 + 1 := by have := sz_al ew4 hn4; omega
  replace zt0 := fz_al zt0 ht0 ew4
  replace zt1 := fz_al zt1 ht1 ew4
  replace zt2 := fz_al zt2 ht2 ew4
  replace ht0 := cl_al ht0 ew4
  replace ht1 := cl_al ht1 ew4
  replace ht2 := cl_al ht2 ew4
  have hc0 := cl_new (i := 0) ew4 hn4 rfl
  try simp only [List.getElem_toArray, List.getElem_cons_zero, List.getElem_cons_succ] at hc0
  have zc0 := fz_new ew4 hn4 0
  have hc1 := cl_new (i := 1) ew4 hn4 rfl
  try simp only [List.getElem_toArray, List.getElem_cons_zero, List.getElem_cons_succ] at hc1
  have zc1 := fz_new ew4 hn4 1
  replace kp := kp.alN ew4
  have q2 : w2.heap.size ≤ n3 ∧ n3 < n4 ∧ n4 < w4.heap.size := ⟨by omega, by omega, by omega⟩
  clear hn3 hn4 sz3 sz4 ew3 ew4
  refine F.enter rfl rfl (by decide) (fun _ => run_call_body rfl Tryz.func24 (by rfl) (by rfl)) (fun _ => events_call_body rfl Tryz.func24 (by rfl) (by rfl) _) ?_
  walk_nrm
  refine runV_at n4 n3 w4 _ _ (by decide) (by omega) (by simp) (by omega) (by omega) (by simp) (by simp) hc0 hc1 ht0 ht1 ht2 (fun A1 O x q cap xe ce w5 g1 g2 g3 p0 p1 p2 hs hz => ?_)
  clear F hfr kp hc0 hc1 ht0 ht1 ht2 zc0 zc1 zt0 zt1 zt2 hs
  have hb5 : w0.heap.size ≤ w5.heap.size := by omega
  have hb4 : w0.heap.size ≤ w4.heap.size := by omega
  clear q2
  have F := fut0 (P := Tryz.prog) (Post := Post) (wI := wI) (l := [A1]) 2
  have hfr : ∀ (a : Addr) (wr : Bool), w5.heap.size ≤ a.block → OkS wI.heap.size [A1] [] a wr := fun a wr h => ok_fr (N := w5.heap.size) (by simp; omega) (by omega) h (by simp) wr
  have o0 : OkS wI.heap.size [A1] [] ⟨O, 0, none⟩ false := ok_rd (by decide) (by decide)
  have o1 : OkS wI.heap.size [A1] [] ⟨O, 1, none⟩ false := ok_rd (by decide) (by decide)
  have o2 : OkS wI.heap.size [A1] [] ⟨O, 2, none⟩ false := ok_rd (by decide) (by decide)
  have lO : O < w5.heap.size := lt_of_cell p0
  have kp : Kp [] w5 w5 := Kp.refl _
  rw [Frame.finish_at]
  try walk_nrm
  iterate 4 (refine F.oq rfl rfl rfl (fun _ => by simp [go_sem]) fun d K hK => ?_; go_simp; refine hK _ ?_; clear hK K d; try walk_nrm)
  refine F.op rfl rfl (by decide) (fun d K hK => ?_)
  go_simp
  rw [alloc_at']
  refine hK _ _ ⟨DX.alloc _ _ (fun e he => ?_), ?_⟩
  · have hm := mem_listed he
    simp [go_sem] at hm
  clear hK K d
  try walk_nrm
  generalize ew6 : World.alloc w5 _ = w6
  generalize hn6 : (World.heap w5).size = n6
  have sz6 : n6 < w6.heap.size ∧ w6.heap.size ≤ n6 + 1 := by have := sz_al ew6 hn6; omega
  replace p0 := cl_al p0 ew6
  replace p1 := cl_al p1 ew6
  replace p2 := cl_al p2 ew6
  have hs0 := cl_new (i := 0) ew6 hn6 rfl
  try simp only [List.getElem_toArray, List.getElem_cons_zero, List.getElem_cons_succ] at hs0
  have zs0 := fz_new ew6 hn6 0
  have hs1 := cl_new (i := 1) ew6 hn6 rfl
  try simp only [List.getElem_toArray, List.getElem_cons_zero, List.getElem_cons_succ] at hs1
  have zs1 := fz_new ew6 hn6 1
  replace kp := kp.alN ew6
  have i1 : O ≠ n6 := by omega
  refine F.op rfl rfl (by decide) (fun d K hK => ?_)
  go_simp
  repeat rw [setCell_at']
  refine hK _ _ ⟨DX.set2 _ (by (first | assumption | exact hrb _ rfl | (apply hfr <;> dsimp only <;> omega) | (apply hok; simp; done))) (by (first | assumption | exact hrb _ rfl | (apply hfr <;> dsimp only <;> omega) | (apply hok; simp; done))) (fun e he => ?_), ?_⟩
  · have hm := mem_listed he
    simp [go_sem, storedEv, evst_slice, evst_ptr, evst_iface, evst_nil, evst_bool, *] at hm
    rcases hm with rfl | rfl <;> exact .inl ⟨_, rfl, rfl, by (first | assumption | exact hrb _ rfl | (apply hfr <;> dsimp only <;> omega) | (apply hok; simp; done)), by simp only [size_at, size_set]; first | omega | exact lt_of_cell (by assumption)⟩
  clear hK K d
  try walk_nrm
  generalize ew7 : World.setCell w6 _ _ = w7
  have sz7 : w6.heap.size ≤ w7.heap.size ∧ w7.heap.size ≤ w6.heap.size := by have := sz_st ew7; omega
  replace zs0 := fz_st zs0 ew7
  replace zs1 := fz_st zs1 ew7
  replace p0 := cl_st p0 ew7 (by first | (intro e; simp at e; done) | (intro e; simp at e; omega) | (intro e; have e1 := congrArg Addr.block e; dsimp only at e1; omega))
  replace p1 := cl_st p1 ew7 (by first | (intro e; simp at e; done) | (intro e; simp at e; omega) | (intro e; have e1 := congrArg Addr.block e; dsimp only at e1; omega))
  replace p2 := cl_st p2 ew7 (by first | (intro e; simp at e; done) | (intro e; simp at e; omega) | (intro e; have e1 := congrArg Addr.block e; dsimp only at e1; omega))
  replace hs0 := cl_st' hs0 ew7
  replace hs1 := cl_st hs1 ew7 (by first | (intro e; simp at e; done) | (intro e; simp at e; omega) | (intro e; have e1 := congrArg Addr.block e; dsimp only at e1; omega))
  replace kp := kp.stN ew7 (by first | (left; simp; done) | (right; left; simp; done) | (right; right; dsimp only; omega))
  generalize ew8 : World.setCell w7 _ _ = w8
  have sz8 : w7.heap.size ≤ w8.heap.size ∧ w8.heap.size ≤ w7.heap.size := by have := sz_st ew8; omega
  replace zs0 := fz_st zs0 ew8
  replace zs1 := fz_st zs1 ew8
  replace p0 := cl_st p0 ew8 (by first | (intro e; simp at e; done) | (intro e; simp at e; omega) | (intro e; have e1 := congrArg Addr.block e; dsimp only at e1; omega))
  replace p1 := cl_st p1 ew8 (by first | (intro e; simp at e; done) | (intro e; simp at e; omega) | (intro e; have e1 := congrArg Addr.block e; dsimp only at e1; omega))
  replace p2 := cl_st p2 ew8 (by first | (intro e; simp at e; done) | (intro e; simp at e; omega) | (intro e; have e1 := congrArg Addr.block e; dsimp only at e1; omega))
  replace hs0 := cl_st hs0 ew8 (by first | (intro e; simp at e; done) | (intro e; simp at e; omega) | (intro e; have e1 := congrArg Addr.block e; dsimp only at e1; omega))
  replace hs1 := cl_st' hs1 ew8
  replace kp := kp.stN ew8 (by first | (left; simp; done) | (right; left; simp; done) | (right; right; dsimp only; omega))
  have q3 : w5.heap.size ≤ n6 ∧ n6 < w8.heap.size := ⟨by omega, lt_of_cell hs0⟩
  clear sz6 hn6 ew6 ew7 ew8
  iterate 2 (refine F.oq rfl rfl rfl (fun _ => by simp [go_sem]) fun d K hK => ?_; go_simp; refine hK _ ?_; clear hK K d; try walk_nrm)
  refine F.es ?_
  refine F.sr ?_
  simp only [rg, Nat.reduceAdd]
  iterate 4 (refine F.oq rfl rfl rfl (fun _ => by simp [go_sem]) fun d K hK => ?_; go_simp; refine hK _ ?_; clear hK K d; try walk_nrm)
  refine F.op rfl rfl (by decide) (fun d K hK => ?_)
  go_simp
  refine hK _ _ ⟨DX.still _ (fun e he => ?_), ?_⟩
  · have hm := mem_listed he
    simp [go_sem, *] at hm
    subst hm
    exact .inl ⟨_, rfl, rfl, by (first | assumption | exact hrb _ rfl | (apply hfr <;> dsimp only <;> omega) | (apply hok; simp; done)), lt_of_cell (w := w8) (by assumption)⟩
  clear hK K d
  try walk_nrm
  iterate 5 (refine F.oq rfl rfl rfl (fun _ => by simp [go_sem]) fun d K hK => ?_; go_simp; refine hK _ ?_; clear hK K d; try walk_nrm)
  refine F.op rfl rfl (by decide) (fun d K hK => ?_)
  go_simp
  refine hK _ _ ⟨DX.still _ (fun e he => ?_), ?_⟩
  · have hm := mem_listed he
    simp [go_sem, *] at hm
    subst hm
    exact .inl ⟨_, rfl, rfl, by (first | assumption | exact hrb _ rfl | (apply hfr <;> dsimp only <;> omega) | (apply hok; simp; done)), lt_of_cell (w := w8) (by assumption)⟩
  clear hK K d
  try walk_nrm
  iterate 5 (refine F.oq rfl rfl rfl (fun _ => by simp [go_sem]) fun d K hK => ?_; go_simp; refine hK _ ?_; clear hK K d; try walk_nrm)
  refine F.op rfl rfl (by decide) (fun d K hK => ?_)
  go_simp
  refine hK _ _ ⟨DX.still _ (fun e he => ?_), ?_⟩
  · have hm := mem_listed he
    simp [go_sem, *] at hm
    subst hm
    exact .inl ⟨_, rfl, rfl, by (first | assumption | exact hrb _ rfl | (apply hfr <;> dsimp only <;> omega) | (apply hok; simp; done)), lt_of_cell (w := w8) (by assumption)⟩
  clear hK K d
  try walk_nrm
  iterate 2 (refine F.oq rfl rfl rfl (fun _ => by simp [go_sem]) fun d K hK => ?_; go_simp; refine hK _ ?_; clear hK K d; try walk_nrm)
  refine F.op rfl rfl (by decide) (fun d K hK => ?_)
  go_simp
  refine hK _ _ ⟨DX.still _ (fun e he => ?_), ?_⟩
  · have hm := mem_listed he
    simp [go_sem, *] at hm
    subst hm
    exact .inl ⟨_, rfl, rfl, by (first | assumption | exact hrb _ rfl | (apply hfr <;> dsimp only <;> omega) | (apply hok; simp; done)), lt_of_cell (w := w8) (by assumption)⟩
  clear hK K d
  try walk_nrm
  iterate 4 (refine F.oq rfl rfl rfl (fun _ => by simp [go_sem]) fun d K hK => ?_; go_simp; refine hK _ ?_; clear hK K d; try walk_nrm)
  refine F.op rfl rfl (by decide) (fun d K hK => ?_)
  go_simp
  refine hK _ _ ⟨DX.still _ (fun e he => ?_), ?_⟩
  · have hm := mem_listed he
    simp [go_sem, *] at hm
    subst hm
    exact .inl ⟨_, rfl, rfl, by (first | assumption | exact hrb _ rfl | (apply hfr <;> dsimp only <;> omega) | (apply hok; simp; done)), lt_of_cell (w := w8) (by assumption)⟩
  clear hK K d
  try walk_nrm
  iterate 2 (refine F.oq rfl rfl rfl (fun _ => by simp [go_sem]) fun d K hK => ?_; go_simp; refine hK _ ?_; clear hK K d; try walk_nrm)
  refine F.op rfl rfl (by decide) (fun d K hK => ?_)
  go_simp
  refine hK _ _ ⟨DX.still _ (fun e he => ?_), ?_⟩
  · have hm := mem_listed he
    simp [go_sem, *] at hm
    subst hm
    exact .inl ⟨_, rfl, rfl, by (first | assumption | exact hrb _ rfl | (apply hfr <;> dsimp only <;> omega) | (apply hok; simp; done)), lt_of_cell (w := w8) (by assumption)⟩
  clear hK K d
  try walk_nrm
  iterate 4 (refine F.oq rfl rfl rfl (fun _ => by simp [go_sem]) fun d K hK => ?_; go_simp; refine hK _ ?_; clear hK K d; try walk_nrm)
  refine F.op rfl rfl (by decide) (fun d K hK => ?_)
  go_simp
  refine hK _ _ ⟨DX.still _ (fun e he => ?_), ?_⟩
  · have hm := mem_listed he
    simp [go_sem, *] at hm
    subst hm
    exact .inl ⟨_, rfl, rfl, by (first | assumption | exact hrb _ rfl | (apply hfr <;> dsimp only <;> omega) | (apply hok; simp; done)), lt_of_cell (w := w8) (by assumption)⟩
  clear hK K d
  try walk_nrm
  iterate 2 (refine F.oq rfl rfl rfl (fun _ => by simp [go_sem]) fun d K hK => ?_; go_simp; refine hK _ ?_; clear hK K d; try walk_nrm)
  refine F.op rfl rfl (by decide) (fun d K hK => ?_)
  go_simp
  refine hK _ _ ⟨DX.still _ (fun e he => ?_), ?_⟩
  · have hm := mem_listed he
    simp [go_sem, *] at hm
    subst hm
    exact .inl ⟨_, rfl, rfl, by (first | assumption | exact hrb _ rfl | (apply hfr <;> dsimp only <;> omega) | (apply hok; simp; done)), lt_of_cell (w := w8) (by assumption)⟩
  clear hK K d
  try walk_nrm
  iterate 2 (refine F.oq rfl rfl rfl (fun _ => by simp [go_sem]) fun d K hK => ?_; go_simp; refine hK _ ?_; clear hK K d; try walk_nrm)
  refine F.re ?_
  refine F.cf rfl ?_
  refine F.sk ?_
  clear p0 p1 p2 o0 o1 o2
  refine F.sr ?_
  simp only [rg, Nat.reduceAdd]
  refine F.oq rfl rfl rfl (fun _ => by simp [go_sem]) fun d K hK => ?_; go_simp; refine hK _ ?_; clear hK K d; try walk_nrm
  refine F.op rfl rfl (by decide) (fun d K hK => ?_)
  go_simp
  rw [alloc_at']
  refine hK _ _ ⟨DX.alloc _ _ (fun e he => ?_), ?_⟩
  · have hm := mem_listed he
    simp [go_sem] at hm
  clear hK K d
  try walk_nrm
  generalize ew9 : World.alloc w8 _ = w9
  generalize hn9 : (World.heap w8).size = n9
  have sz9 : n9 < w9.heap.size ∧ w9.heap.size ≤ n9 + 1 := by have := sz_al ew9 hn9; omega
  replace zs0 := fz_al zs0 hs0 ew9
  replace zs1 := fz_al zs1 hs1 ew9
  replace hs0 := cl_al hs0 ew9
  replace hs1 := cl_al hs1 ew9
  have hy0 := cl_new (i := 0) ew9 hn9 rfl
  try simp only [List.getElem_toArray, List.getElem_cons_zero, List.getElem_cons_succ] at hy0
  have zy0 := fz_new ew9 hn9 0
  have hy1 := cl_new (i := 1) ew9 hn9 rfl
  try simp only [List.getElem_toArray, List.getElem_cons_zero, List.getElem_cons_succ] at hy1
  have zy1 := fz_new ew9 hn9 1
  have hy2 := cl_new (i := 2) ew9 hn9 rfl
  try simp only [List.getElem_toArray, List.getElem_cons_zero, List.getElem_cons_succ] at hy2
  have zy2 := fz_new ew9 hn9 2
  have hy3 := cl_new (i := 3) ew9 hn9 rfl
  try simp only [List.getElem_toArray, List.getElem_cons_zero, List.getElem_cons_succ] at hy3
  have zy3 := fz_new ew9 hn9 3
  have hy4 := cl_new (i := 4) ew9 hn9 rfl
  try simp only [List.getElem_toArray, List.getElem_cons_zero, List.getElem_cons_succ] at hy4
  have zy4 := fz_new ew9 hn9 4
  have hy5 := cl_new (i := 5) ew9 hn9 rfl
  try simp only [List.getElem_toArray, List.getElem_cons_zero, List.getElem_cons_succ] at hy5
  have zy5 := fz_new ew9 hn9 5
  replace kp := kp.alN ew9
  have q4 : n6 < n9 ∧ n9 < w9.heap.size := ⟨by omega, by omega⟩
  clear hn9 sz9 ew9 zy0 zy1 zy2 zy3 zy4 zy5
  have hyL : ∀ j, j < 6 → w9.cell? ⟨n9, j, none⟩ = some (.int .i64 (LR 0 j)) := fun j hj => by
    match j, hj with
    | 0, _ => exact hy0
    | 1, _ => exact hy1
    | 2, _ => exact hy2
    | 3, _ => exact hy3
    | 4, _ => exact hy4
    | 5, _ => exact hy5
  clear hy0 hy1 hy2 hy3 hy4 hy5
  have kp0 := kp
  clear kp
  have kp : Kp [] w9 w9 := Kp.refl _
  refine F.oq rfl rfl rfl (fun _ => by simp [go_sem]) fun d K hK => ?_; go_simp; refine hK _ ?_; clear hK K d; try walk_nrm
  refine F.esr ?_
  simp only [rg, Nat.reduceAdd]
  iterate 3 (refine F.oq rfl rfl rfl (fun _ => by simp [go_sem]) fun d K hK => ?_; go_simp; refine hK _ ?_; clear hK K d; try walk_nrm)
  refine F.op rfl rfl (by decide) (fun d K hK => ?_)
  go_simp
  rw [alloc_at']
  refine hK _ _ ⟨DX.alloc _ _ (fun e he => ?_), ?_⟩
  · have hm := mem_listed he
    simp [go_sem] at hm
  clear hK K d
  try walk_nrm
  generalize ew10 : World.alloc w9 _ = w10
  generalize hn10 : (World.heap w9).size = n10
  have sz10 : n10 < w10.heap.size ∧ w10.heap.size ≤ n10 + 1 := by have := sz_al ew10 hn10; omega
  replace zs0 := fz_al zs0 hs0 ew10
  replace zs1 := fz_al zs1 hs1 ew10
  replace hs0 := cl_al hs0 ew10
  replace hs1 := cl_al hs1 ew10
  have hu0 := cl_new (i := 0) ew10 hn10 rfl
  try simp only [List.getElem_toArray, List.getElem_cons_zero, List.getElem_cons_succ] at hu0
  have zu0 := fz_new ew10 hn10 0
  have hu1 := cl_new (i := 1) ew10 hn10 rfl
  try simp only [List.getElem_toArray, List.getElem_cons_zero, List.getElem_cons_succ] at hu1
  have zu1 := fz_new ew10 hn10 1
  have hu2 := cl_new (i := 2) ew10 hn10 rfl
  try simp only [List.getElem_toArray, List.getElem_cons_zero, List.getElem_cons_succ] at hu2
  have zu2 := fz_new ew10 hn10 2
  have hu3 := cl_new (i := 3) ew10 hn10 rfl
  try simp only [List.getElem_toArray, List.getElem_cons_zero, List.getElem_cons_succ] at hu3
  have zu3 := fz_new ew10 hn10 3
  have hu4 := cl_new (i := 4) ew10 hn10 rfl
  try simp only [List.getElem_toArray, List.getElem_cons_zero, List.getElem_cons_succ] at hu4
  have zu4 := fz_new ew10 hn10 4
  have hu5 := cl_new (i := 5) ew10 hn10 rfl
  try simp only [List.getElem_toArray, List.getElem_cons_zero, List.getElem_cons_succ] at hu5
  have zu5 := fz_new ew10 hn10 5
  have hu6 := cl_new (i := 6) ew10 hn10 rfl
  try simp only [List.getElem_toArray, List.getElem_cons_zero, List.getElem_cons_succ] at hu6
  have zu6 := fz_new ew10 hn10 6
  have hu7 := cl_new (i := 7) ew10 hn10 rfl
  try simp only [List.getElem_toArray, List.getElem_cons_zero, List.getElem_cons_succ] at hu7
  have zu7 := fz_new ew10 hn10 7
  have hu8 := cl_new (i := 8) ew10 hn10 rfl
  try simp only [List.getElem_toArray, List.getElem_cons_zero, List.getElem_cons_succ] at hu8
  have zu8 := fz_new ew10 hn10 8
  replace kp := kp.alN ew10
  have q5 : w9.heap.size ≤ n10 ∧ n10 < w10.heap.size := ⟨by omega, by omega⟩
  clear hn10 sz10 ew10 zu0 zu1 zu2 zu3 zu4 zu5 zu6 zu7 zu8
  have kL := kp
  have hut : ∀ i, i < 3 → ∀ j, j < 3 → w10.cell? ⟨n10, i * 3 + j, none⟩ = some (.int .i64 (TR i j)) := fun i hi j hj => by
    match i, hi with
    | 0, _ => match j, hj with
      | 0, _ => exact hu0
      | 1, _ => exact hu1
      | 2, _ => exact hu2
    | 1, _ => match j, hj with
      | 0, _ => exact hu3
      | 1, _ => exact hu4
      | 2, _ => exact hu5
    | 2, _ => match j, hj with
      | 0, _ => exact hu6
      | 1, _ => exact hu7
      | 2, _ => exact hu8
  clear hu0 hu1 hu2 hu3 hu4 hu5 hu6 hu7 hu8 kp
  have kp : Kp [] w10 w10 := Kp.refl _
  refine F.oq rfl rfl rfl (fun _ => by simp [go_sem]) fun d K hK => ?_; go_simp; refine hK _ ?_; clear hK K d; try walk_nrm
  refine F.esr ?_
  simp only [rg, Nat.reduceAdd]
  iterate 3 (refine F.oq rfl rfl rfl (fun _ => by simp [go_sem]) fun d K hK => ?_; go_simp; refine hK _ ?_; clear hK K d; try walk_nrm)
  refine F.op rfl rfl (by decide) (fun d K hK => ?_)
  go_simp
  rw [alloc_at']
  refine hK _ _ ⟨DX.alloc _ _ (fun e he => ?_), ?_⟩
  · have hm := mem_listed he
    simp [go_sem] at hm
  clear hK K d
  try walk_nrm
  generalize ew11 : World.alloc w10 _ = w11
  generalize hn11 : (World.heap w10).size = n11
  have sz11 : n11 < w11.heap.size ∧ w11.heap.size ≤ n11 + 1 := by have := sz_al ew11 hn11; omega
  replace zs0 := fz_al zs0 hs0 ew11
  replace zs1 := fz_al zs1 hs1 ew11
  replace hs0 := cl_al hs0 ew11
  replace hs1 := cl_al hs1 ew11
  have he0 := cl_new (i := 0) ew11 hn11 rfl
  try simp only [List.getElem_toArray, List.getElem_cons_zero, List.getElem_cons_succ] at he0
  have ze0 := fz_new ew11 hn11 0
  have he1 := cl_new (i := 1) ew11 hn11 rfl
  try simp only [List.getElem_toArray, List.getElem_cons_zero, List.getElem_cons_succ] at he1
  have ze1 := fz_new ew11 hn11 1
  replace kp := kp.alN ew11
  have q6 : w10.heap.size ≤ n11 ∧ n11 < w11.heap.size := ⟨by omega, by omega⟩
  clear hn11 sz11 ew11
  have hyL' : ∀ j, j < 6 → w11.cell? ⟨n9, j, none⟩ = some (.int .i64 (LR 0 j)) := fun j hj => kp.cell _ _ (by simp) (kL.cell _ _ (by simp) (hyL j hj))
  have hut' : ∀ i, i < 3 → ∀ j, j < 3 → w11.cell? ⟨n10, i * 3 + j, none⟩ = some (.int .i64 (TR i j)) := fun i hi j hj => kp.cell _ _ (by simp) (hut i hi j hj)
  have hk := kp.size
  have hkL := kL.size
  clear kp kL kp0 hyL hut
  refine F.enter rfl rfl (by decide) (fun _ => run_call_body rfl Tryz.func24 (by rfl) (by rfl)) (fun _ => events_call_body rfl Tryz.func24 (by rfl) (by rfl) _) ?_
  walk_nrm
  refine At.assume old_at (fun hOld => ?_)
  refine runR_at n9 n11 n10 w11 _ _ (by decide) i0 (by omega) (by simp; omega) (by omega) (by omega) (by omega) (by simp; omega) (by simp; omega) (by simp; omega) (by simp; omega) (hOld.cell _ _ hg) hyL' he0 he1 hut' (fun A2 O2 N g cap2 xe2 m ce2 w12 g1' g2' g3' g4 g5 g6 hch p0 p3 hs hz2 => ?_)
  have hns : n6 < w11.heap.size := by omega
  have s0 := hs ⟨n6, 0, none⟩ _ hns (by simp) hs0
  have s1 := hs ⟨n6, 1, none⟩ _ hns (by simp) hs1
  replace zs0 := s0.2.trans zs0
  replace zs1 := s1.2.trans zs1
  replace hs0 := s0.1
  replace hs1 := s1.1
  clear s0 s1 hs hyL' hut' he0 he1 ze0 ze1 F hfr hOld
  have F := fut0 (P := Tryz.prog) (Post := Post) (wI := wI) (l := [A2, A1]) 3
  have hfr : ∀ (a : Addr) (wr : Bool), w12.heap.size ≤ a.block → OkS wI.heap.size [A2, A1] [] a wr := fun a wr h => ok_fr (N := w12.heap.size) (by simp; omega) (by omega) h (by simp) wr
  have o0 : OkS wI.heap.size [A2, A1] [] ⟨O2, 0, none⟩ false := ok_rd (by decide) (by decide)
  have o1 : OkS wI.heap.size [A2, A1] [] ⟨O2, 3, none⟩ false := ok_rd (by decide) (by decide)
  have o2 : OkS wI.heap.size [A2, A1] [] ⟨n6, 0, none⟩ false := ok_rd (by decide) (by decide)
  have o3 : OkS wI.heap.size [A2, A1] [] ⟨n6, 0, none⟩ true := ok_wr (by decide) (by decide) (by omega) (by simp [StL]) _
  have o4 : OkS wI.heap.size [A2, A1] [] ⟨n6, 1, none⟩ true := ok_wr (by decide) (by decide) (by omega) (by simp [StL]) _
  have o5 : OkS wI.heap.size [A2, A1] [] ⟨n6, 1, none⟩ false := ok_rd (by decide) (by decide)
  have d0 := hch 0 _ rfl
  have d1 := hch 1 _ rfl
  have d2 := hch 2 _ rfl
  have d3 := hch 3 _ rfl
  have d4 := hch 4 _ rfl
  have d5 := hch 5 _ rfl
  clear hch
  have i1 : g ≠ n6 := by omega
  have i2 : O2 ≠ n6 := by omega
  have gA : g ≠ A2 ∧ g ≠ A1 := ⟨by omega, by omega⟩
  have lO2 : O2 < w12.heap.size := lt_of_cell p0
  have lg : g < w12.heap.size := lt_of_cell d0
  have hb12 : w0.heap.size ≤ w12.heap.size := by omega
  have lA : ∀ B ∈ [A2, A1], wI.heap.size ≤ B ∧ B < w12.heap.size := by simp; omega
  have hI2 : wI.heap.size ≤ n6 := by omega
  clear q1 hb5 lO q3 q4 q5 q6 hk hkL g1 g2 g3 hz g1' g2' g3' g4 g5 g6
  have kp : Kp [] w12 w12 [⟨n6, 0, none⟩, ⟨n6, 1, none⟩] := Kp.refl _
  rw [Frame.finish_at]
  try walk_nrm
  iterate 4 (refine F.oq rfl rfl rfl (fun _ => by simp [go_sem]) fun d K hK => ?_; go_simp; refine hK _ ?_; clear hK K d; try walk_nrm)
  refine F.op rfl rfl (by decide) (fun d K hK => ?_)
  go_simp
  repeat rw [setCell_at']
  refine hK _ _ ⟨DX.set2 _ (by (first | assumption | exact hrb _ rfl | (apply hfr <;> dsimp only <;> omega) | (apply hok; simp; done))) (by (first | assumption | exact hrb _ rfl | (apply hfr <;> dsimp only <;> omega) | (apply hok; simp; done))) (fun e he => ?_), ?_⟩
  · have hm := mem_listed he
    simp [go_sem, storedEv, evst_slice, evst_ptr, evst_iface, evst_nil, evst_bool, *] at hm
    rcases hm with rfl | rfl <;> exact .inl ⟨_, rfl, rfl, by (first | assumption | exact hrb _ rfl | (apply hfr <;> dsimp only <;> omega) | (apply hok; simp; done)), by simp only [size_at, size_set]; first | omega | exact lt_of_cell (by assumption)⟩
  clear hK K d
  try walk_nrm
  generalize ew13 : World.setCell w12 _ _ = w13
  have sz13 : w12.heap.size ≤ w13.heap.size ∧ w13.heap.size ≤ w12.heap.size := by have := sz_st ew13; omega
  replace zs0 := fz_st zs0 ew13
  replace zs1 := fz_st zs1 ew13
  replace hs0 := cl_st' hs0 ew13
  replace hs1 := cl_st hs1 ew13 (by first | (intro e; simp at e; done) | (intro e; simp at e; omega) | (intro e; have e1 := congrArg Addr.block e; dsimp only at e1; omega))
  replace p0 := cl_st p0 ew13 (by first | (intro e; simp at e; done) | (intro e; simp at e; omega) | (intro e; have e1 := congrArg Addr.block e; dsimp only at e1; omega))
  replace p3 := cl_st p3 ew13 (by first | (intro e; simp at e; done) | (intro e; simp at e; omega) | (intro e; have e1 := congrArg Addr.block e; dsimp only at e1; omega))
  replace d0 := cl_st d0 ew13 (by first | (intro e; simp at e; done) | (intro e; simp at e; omega) | (intro e; have e1 := congrArg Addr.block e; dsimp only at e1; omega))
  replace d1 := cl_st d1 ew13 (by first | (intro e; simp at e; done) | (intro e; simp at e; omega) | (intro e; have e1 := congrArg Addr.block e; dsimp only at e1; omega))
  replace d2 := cl_st d2 ew13 (by first | (intro e; simp at e; done) | (intro e; simp at e; omega) | (intro e; have e1 := congrArg Addr.block e; dsimp only at e1; omega))
  replace d3 := cl_st d3 ew13 (by first | (intro e; simp at e; done) | (intro e; simp at e; omega) | (intro e; have e1 := congrArg Addr.block e; dsimp only at e1; omega))
  replace d4 := cl_st d4 ew13 (by first | (intro e; simp at e; done) | (intro e; simp at e; omega) | (intro e; have e1 := congrArg Addr.block e; dsimp only at e1; omega))
  replace d5 := cl_st d5 ew13 (by first | (intro e; simp at e; done) | (intro e; simp at e; omega) | (intro e; have e1 := congrArg Addr.block e; dsimp only at e1; omega))
  replace kp := kp.stN ew13 (by first | (left; simp; done) | (right; left; simp; done) | (right; right; dsimp only; omega))
  generalize ew14 : World.setCell w13 _ _ = w14
  have sz14 : w13.heap.size ≤ w14.heap.size ∧ w14.heap.size ≤ w13.heap.size := by have := sz_st ew14; omega
  replace zs0 := fz_st zs0 ew14
  replace zs1 := fz_st zs1 ew14
  replace hs0 := cl_st hs0 ew14 (by first | (intro e; simp at e; done) | (intro e; simp at e; omega) | (intro e; have e1 := congrArg Addr.block e; dsimp only at e1; omega))
  replace hs1 := cl_st' hs1 ew14
  replace p0 := cl_st p0 ew14 (by first | (intro e; simp at e; done) | (intro e; simp at e; omega) | (intro e; have e1 := congrArg Addr.block e; dsimp only at e1; omega))
  replace p3 := cl_st p3 ew14 (by first | (intro e; simp at e; done) | (intro e; simp at e; omega) | (intro e; have e1 := congrArg Addr.block e; dsimp only at e1; omega))
  replace d0 := cl_st d0 ew14 (by first | (intro e; simp at e; done) | (intro e; simp at e; omega) | (intro e; have e1 := congrArg Addr.block e; dsimp only at e1; omega))
  replace d1 := cl_st d1 ew14 (by first | (intro e; simp at e; done) | (intro e; simp at e; omega) | (intro e; have e1 := congrArg Addr.block e; dsimp only at e1; omega))
  replace d2 := cl_st d2 ew14 (by first | (intro e; simp at e; done) | (intro e; simp at e; omega) | (intro e; have e1 := congrArg Addr.block e; dsimp only at e1; omega))
  replace d3 := cl_st d3 ew14 (by first | (intro e; simp at e; done) | (intro e; simp at e; omega) | (intro e; have e1 := congrArg Addr.block e; dsimp only at e1; omega))
  replace d4 := cl_st d4 ew14 (by first | (intro e; simp at e; done) | (intro e; simp at e; omega) | (intro e; have e1 := congrArg Addr.block e; dsimp only at e1; omega))
  replace d5 := cl_st d5 ew14 (by first | (intro e; simp at e; done) | (intro e; simp at e; omega) | (intro e; have e1 := congrArg Addr.block e; dsimp only at e1; omega))
  replace kp := kp.stN ew14 (by first | (left; simp; done) | (right; left; simp; done) | (right; right; dsimp only; omega))
  refine F.oq rfl rfl rfl (fun _ => by simp [go_sem]) fun d K hK => ?_; go_simp; refine hK _ ?_; clear hK K d; try walk_nrm
  refine F.esr ?_
  simp only [rg, Nat.reduceAdd]
  iterate 2 (refine F.oq rfl rfl rfl (fun _ => by simp [go_sem]) fun d K hK => ?_; go_simp; refine hK _ ?_; clear hK K d; try walk_nrm)
  refine F.op rfl rfl (by decide) (fun d K hK => ?_)
  go_simp
  rw [alloc_at']
  refine hK _ _ ⟨DX.alloc _ _ (fun e he => ?_), ?_⟩
  · have hm := mem_listed he
    simp [go_sem] at hm
  clear hK K d
  try walk_nrm
  generalize ew15 : World.alloc w14 _ = w15
  generalize hn15 : (World.heap w14).size = n15
  have sz15 : n15 < w15.heap.size ∧ w15.heap.size ≤ n15 + 1 := by have := sz_al ew15 hn15; omega
  replace zs0 := fz_al zs0 hs0 ew15
  replace zs1 := fz_al zs1 hs1 ew15
  replace hs0 := cl_al hs0 ew15
  replace hs1 := cl_al hs1 ew15
  replace p0 := cl_al p0 ew15
  replace p3 := cl_al p3 ew15
  replace d0 := cl_al d0 ew15
  replace d1 := cl_al d1 ew15
  replace d2 := cl_al d2 ew15
  replace d3 := cl_al d3 ew15
  replace d4 := cl_al d4 ew15
  replace d5 := cl_al d5 ew15
  have hk0 := cl_new (i := 0) ew15 hn15 rfl
  try simp only [List.getElem_toArray, List.getElem_cons_zero, List.getElem_cons_succ] at hk0
  have zk0 := fz_new ew15 hn15 0
  have hk1 := cl_new (i := 1) ew15 hn15 rfl
  try simp only [List.getElem_toArray, List.getElem_cons_zero, List.getElem_cons_succ] at hk1
  have zk1 := fz_new ew15 hn15 1
  have hk2 := cl_new (i := 2) ew15 hn15 rfl
  try simp only [List.getElem_toArray, List.getElem_cons_zero, List.getElem_cons_succ] at hk2
  have zk2 := fz_new ew15 hn15 2
  have hk3 := cl_new (i := 3) ew15 hn15 rfl
  try simp only [List.getElem_toArray, List.getElem_cons_zero, List.getElem_cons_succ] at hk3
  have zk3 := fz_new ew15 hn15 3
  have hk4 := cl_new (i := 4) ew15 hn15 rfl
  try simp only [List.getElem_toArray, List.getElem_cons_zero, List.getElem_cons_succ] at hk4
  have zk4 := fz_new ew15 hn15 4
  have hk5 := cl_new (i := 5) ew15 hn15 rfl
  try simp only [List.getElem_toArray, List.getElem_cons_zero, List.getElem_cons_succ] at hk5
  have zk5 := fz_new ew15 hn15 5
  replace kp := kp.alN ew15
  have i3 : n15 ≠ A2 ∧ n15 ≠ A1 := by have := lA A2 (by simp); have := lA A1 (by simp); have := (Kp.setC ew13).size; have := (Kp.setC ew14).size; exact ⟨by omega, by omega⟩
  have q7 : n15 < w15.heap.size := by omega
  clear ew13 ew14 ew15 hn15 sz15
  refine F.oq rfl rfl rfl (fun _ => by simp [go_sem]) fun d K hK => ?_; go_simp; refine hK _ ?_; clear hK K d; try walk_nrm
  refine F.es ?_
  refine F.sr ?_
  simp only [rg, Nat.reduceAdd]
  iterate 4 (refine F.oq rfl rfl rfl (fun _ => by simp [go_sem]) fun d K hK => ?_; go_simp; refine hK _ ?_; clear hK K d; try walk_nrm)
  refine F.op rfl rfl (by decide) (fun d K hK => ?_)
  go_simp
  refine hK _ _ ⟨DX.still _ (fun e he => ?_), ?_⟩
  · have hm := mem_listed he
    simp [go_sem, *] at hm
    subst hm
    exact .inl ⟨_, rfl, rfl, by (first | assumption | exact hrb _ rfl | (apply hfr <;> dsimp only <;> omega) | (apply hok; simp; done)), lt_of_cell (w := w15) (by assumption)⟩
  clear hK K d
  try walk_nrm
  iterate 5 (refine F.oq rfl rfl rfl (fun _ => by simp [go_sem]) fun d K hK => ?_; go_simp; refine hK _ ?_; clear hK K d; try walk_nrm)
  refine F.op rfl rfl (by decide) (fun d K hK => ?_)
  go_simp
  refine hK _ _ ⟨DX.still _ (fun e he => ?_), ?_⟩
  · have hm := mem_listed he
    simp [go_sem, *] at hm
    subst hm
    exact .inl ⟨_, rfl, rfl, by (first | assumption | exact hrb _ rfl | (apply hfr <;> dsimp only <;> omega) | (apply hok; simp; done)), lt_of_cell (w := w15) (by assumption)⟩
  clear hK K d
  try walk_nrm
  iterate 2 (refine F.oq rfl rfl rfl (fun _ => by simp [go_sem]) fun d K hK => ?_; go_simp; refine hK _ ?_; clear hK K d; try walk_nrm)
  refine F.op rfl rfl (by decide) (fun d K hK => ?_)
  go_simp
  refine hK _ _ ⟨DX.still _ (fun e he => ?_), ?_⟩
  · have hm := mem_listed he
    simp [go_sem, *] at hm
    subst hm
    exact .inl ⟨_, rfl, rfl, by (first | assumption | exact hrb _ rfl | (apply hfr <;> dsimp only <;> omega) | (apply hok; simp; done)), lt_of_cell (w := w15) (by assumption)⟩
  clear hK K d
  try walk_nrm
  iterate 2 (refine F.oq rfl rfl rfl (fun _ => by simp [go_sem]) fun d K hK => ?_; go_simp; refine hK _ ?_; clear hK K d; try walk_nrm)
  refine F.re ?_
  refine F.cf rfl ?_
  refine F.sk ?_
  refine F.sr ?_
  simp only [rg, Nat.reduceAdd]
  refine F.oq rfl rfl rfl (fun _ => by simp [go_sem]) fun d K hK => ?_; go_simp; refine hK _ ?_; clear hK K d; try walk_nrm
  refine F.op rfl rfl (by decide) (fun d K hK => ?_)
  go_simp
  refine hK _ _ ⟨DX.still _ (fun e he => ?_), ?_⟩
  · have hm := mem_listed he
    simp [go_sem, *] at hm
    subst hm
    exact .inl ⟨_, rfl, rfl, by (first | assumption | exact hrb _ rfl | (apply hfr <;> dsimp only <;> omega) | (apply hok; simp; done)), lt_of_cell (w := w15) (by assumption)⟩
  clear hK K d
  try walk_nrm
  iterate 2 (refine F.oq rfl rfl rfl (fun _ => by simp [go_sem]) fun d K hK => ?_; go_simp; refine hK _ ?_; clear hK K d; try walk_nrm)
  refine F.op rfl rfl (by decide) (fun d K hK => ?_)
  go_simp
  refine hK _ _ ⟨DX.still _ (fun e he => ?_), ?_⟩
  · have hm := mem_listed he
    simp [go_sem, *] at hm
    subst hm
    exact .inl ⟨_, rfl, rfl, by (first | assumption | exact hrb _ rfl | (apply hfr <;> dsimp only <;> omega) | (apply hok; simp; done)), lt_of_cell (w := w15) (by assumption)⟩
  clear hK K d
  try walk_nrm
  refine F.oq rfl rfl rfl (fun _ => by simp [go_sem]) fun d K hK => ?_; go_simp; refine hK _ ?_; clear hK K d; try walk_nrm
  have hokc : ∀ (a : Addr) (wr : Bool), wr = false ∧ (a.block = g ∨ a.block = n15) → OkS wI.heap.size [A2, A1] [] a wr := fun a wr ⟨h1, h2⟩ => by
    subst h1
    rcases h2 with h2 | h2
    · exact ok_rdb (by rw [h2]; simp; exact gA)
    · exact ok_rdb (by rw [h2]; simp; exact i3)
  refine F.enter rfl rfl (by decide) (fun _ => run_call_body rfl Tryz.func25 (by rfl) (by rfl)) (fun _ => events_call_body rfl Tryz.func25 (by rfl) (by rfl) _) ?_
  walk_nrm
  refine sameChain_x g n15 cap2 w15 d0 d1 d2 d3 d4 d5 hk0 hk1 hk2 hk3 hk4 hk5 hokc _ F _ _ (fun v wq hp => ?_)
  obtain ⟨rfl, hq⟩ := hp
  have hq := hq.symm
  subst hq
  rw [Frame.finish_at]
  try walk_nrm
  refine F.oq rfl rfl rfl (fun _ => by simp [go_sem]) fun d K hK => ?_; go_simp; refine hK _ ?_; clear hK K d; try walk_nrm
  refine F.re ?_
  refine F.ctl (fun _ => stepG_ret') ?_
  refine F.leave rfl rfl Tryz.func15 (resultsC_tmp (by rfl) _) ?_
  have hks := kp.size
  exact hret [A2, A1] w15 (fun B hB => by have := lA B hB; omega) (by omega)
end

end Go.Proofs.YtobagnjnbmgidaaGreatDoor
