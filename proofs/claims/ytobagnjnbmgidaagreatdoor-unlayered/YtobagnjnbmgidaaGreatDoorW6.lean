/- The law's head: the program works. -/
import Derived.Test.YtobagnjnbmgidaaGreatDoorW5
set_option linter.unusedSimpArgs false
set_option linter.unusedVariables false
set_option maxHeartbeats 8000000
set_option maxRecDepth 100000
namespace Go.Proofs.YtobagnjnbmgidaaGreatDoor
open Go.Conc Go.RowKit Go.Extern
open Go.ConcN (sumTo upd sumTo_upd upd_ne upd_same)

theorem eq55 (w : World) : (binOp .eql 55 (.agg #[.int .i64 8, .int .i64 0, .int .i64 (-1), .int .i64 2, .int .i64 0]) (.agg #[.int .i64 8, .int .i64 0, .int .i64 (-1), .int .i64 2, .int .i64 0])).run Tryz.prog w = .ok (.bool true) w := by kernel_rfl
theorem eq55e (w : World) : (binOp .eql 55 (.agg #[.int .i64 8, .int .i64 0, .int .i64 (-1), .int .i64 2, .int .i64 0]) (.agg #[.int .i64 8, .int .i64 0, .int .i64 (-1), .int .i64 2, .int .i64 0])).events Tryz.prog w #[] = #[] := by kernel_rfl
theorem eg55 (x y : Operand) (w : World) : (eqGuard .eql 55 x y (.agg #[.int .i64 8, .int .i64 0, .int .i64 (-1), .int .i64 2, .int .i64 0]) (.agg #[.int .i64 8, .int .i64 0, .int .i64 (-1), .int .i64 2, .int .i64 0])).run Tryz.prog w = .ok () w := by cases x <;> cases y <;> kernel_rfl
theorem eg55e (x y : Operand) (w : World) : (eqGuard .eql 55 x y (.agg #[.int .i64 8, .int .i64 0, .int .i64 (-1), .int .i64 2, .int .i64 0]) (.agg #[.int .i64 8, .int .i64 0, .int .i64 (-1), .int .i64 2, .int .i64 0])).events Tryz.prog w #[] = #[] := by cases x <;> cases y <;> kernel_rfl

def oneT (i j : Nat) : Int := if j = 0 then 1 else if j = 1 then 7 else 3
def one1 (tb : Nat) (_ : Nat) : Cl := ⟨5, some ⟨tb, 0, none⟩, 1, 1, oneT⟩
theorem one_out {w0 : World} {tb A O : Nat} {ev : Value} {w : World} (h : RunN w0 1 (one1 tb) A O ev w) : OutAt w O 0 8 1 7 none 0 0 := by
  obtain ⟨gc, _, a, b, c, x, k, cap, o, hv⟩ := h.out 0 (by decide); rcases hv with ⟨_, z⟩ | ⟨z, _⟩ | ⟨z, _⟩
  · simp [one1, Cl.k1, Cl.k2, oneT] at z
    obtain ⟨rfl, rfl, rfl, rfl, rfl, rfl⟩ := z; exact o
  · simp [one1, Cl.k0, oneT] at z
  · simp [one1, Cl.k0, oneT] at z
theorem one_ev {w0 : World} {tb A O : Nat} {ev : Value} {w : World} (h : RunN w0 1 (one1 tb) A O ev w) : ∃ g cap, ev = .slice (some ⟨g, 0, none⟩) 2 cap ∧ A < g ∧ ∀ i u, (evc 8 0 (-1) 2 0)[i]? = some u → w.cell? ⟨g, 5 + i, none⟩ = some u := by
  obtain ⟨N, m, h1, h2, h3, h4⟩ := h.ev; obtain ⟨m0, rfl⟩ := h4 rfl; have hm0 : m0.length = 5 := by simp [evc] at h2; omega
  obtain ⟨g, cap, e1, e2, _, e4⟩ := chAt_of (n := 2) (by decide) h3; refine ⟨g, cap, e1, by omega, fun i u hu => e4 (5 + i) u ?_⟩; rw [List.getElem?_append_right (by omega), hm0, show 5 + i - 5 = i by omega]
  simpa [one1, Cl.k2, oneT] using hu

section
variable {wI : World} {Post : Value → World → Prop}

theorem works_at (w0 : World) (cR : Frame) (csR : List Frame) (i0 : 0 < w0.heap.size) (hg : w0.cell? ⟨0, 0, none⟩ = some (.iface 217 (.agg #[.pointer (some ⟨1, 121, none⟩)])))
    (hret : ∀ (ng' A1 : Nat) (w' : World), 0 < ng' → w0.heap.size ≤ A1 → A1 < w'.heap.size → Old w0 w' → At0 Tryz.prog Post (Old wI) (ShL [A1]) ng' (G (cR.finish (.bool true)) csR) w') :
    At0 Tryz.prog Post (Old wI) (ShL []) 1 (G (Frame.enter Tryz.prog 30 #[] .normal) (cR :: csR)) w0 := by
  refine At.assume old_at (fun hO => ?_); refine At.keep (K' := Old w0) (fun d => Old.refl w0) ?_; replace hret : ∀ (ng' A1 : Nat) (w' : World), 0 < ng' → w0.heap.size ≤ A1 → A1 < w'.heap.size → Old w0 w' → At0 Tryz.prog Post (Old w0) (ShL [A1]) ng' (G (cR.finish (.bool true)) csR) w' := fun ng' A1 w' h1 h2 h3 h4 => At.keep (fun d => hO.trans h4) (hret ng' A1 w' h1 h2 h3 h4)
  have F := fut0 (P := Tryz.prog) (Post := Post) (wI := w0) (l := []) 1; have hfr : ∀ (a : Addr) (wr : Bool), w0.heap.size ≤ a.block → OkS w0.heap.size [] [] a wr := fun a wr h => ok_fr (N := w0.heap.size) (by simp) (by omega) h (by simp) wr
  have kp : Kp [] w0 w0 := Kp.refl _; have lg := lt_of_cell hg; rw [enter_at _ Tryz.func30 rfl]; simp only [Tryz.ntmps30, List.size_toArray, List.length_cons, List.length_nil, Nat.reduceAdd, Nat.reduceSub, Array.replicate_succ, Array.replicate_zero, List.push_toArray, List.append_toArray, List.nil_append, List.cons_append]; refine F.sr ?_; simp only [rg, Nat.reduceAdd]; refine F.oq rfl rfl rfl (by simp [go_sem]) fun d K h => ?_; go_simp; refine h _ ?_; clear h K d; try walk_nrm
  refine F.esr ?_; simp only [rg, Nat.reduceAdd]; refine F.oq rfl rfl rfl (by simp [go_sem]) fun d K h => ?_; go_simp; refine h _ ?_; clear h K d; try walk_nrm
  refine F.op rfl rfl (by decide) (fun d K hK => ?_); go_simp; rw [alloc_at']; refine hK _ _ ⟨DX.alloc _ _ (fun e he => ?_), ?_⟩
  · have hm := mem_listed he
    simp [go_sem] at hm
  clear hK K d; try walk_nrm
  generalize ew1 : World.alloc w0 _ = w1; generalize hn1 : (World.heap w0).size = n1; have sz1 := sz_al2 ew1 hn1; replace hg := cl_al hg ew1; have ht0 := cl_new (i := 0) ew1 hn1 rfl; have zt0 := fz_new ew1 hn1 0; have ht1 := cl_new (i := 1) ew1 hn1 rfl; have zt1 := fz_new ew1 hn1 1; have ht2 := cl_new (i := 2) ew1 hn1 rfl; have zt2 := fz_new ew1 hn1 2; try simp only [List.getElem_toArray, List.getElem_cons_zero, List.getElem_cons_succ] at ht0 ht1 ht2
  replace kp := kp.alN ew1; refine F.oq rfl rfl rfl (by simp [go_sem]) fun d K h => ?_; go_simp; refine h _ ?_; clear h K d; try walk_nrm
  refine F.op rfl rfl (by decide) (fun d K hK => ?_); go_simp; rw [alloc_at']; refine hK _ _ ⟨DX.alloc _ _ (fun e he => ?_), ?_⟩
  · have hm := mem_listed he
    simp [go_sem] at hm
  clear hK K d; try walk_nrm
  generalize ew2 : World.alloc w1 _ = w2; generalize hn2 : (World.heap w1).size = n2; have sz2 := sz_al2 ew2 hn2; replace zt0 := fz_al zt0 ht0 ew2; replace zt1 := fz_al zt1 ht1 ew2; replace zt2 := fz_al zt2 ht2 ew2; replace hg := cl_al hg ew2; replace ht0 := cl_al ht0 ew2; replace ht1 := cl_al ht1 ew2; replace ht2 := cl_al ht2 ew2; have hc0 := cl_new (i := 0) ew2 hn2 rfl; have zc0 := fz_new ew2 hn2 0; have hc1 := cl_new (i := 1) ew2 hn2 rfl; have zc1 := fz_new ew2 hn2 1; try simp only [List.getElem_toArray, List.getElem_cons_zero, List.getElem_cons_succ] at hc0 hc1
  replace kp := kp.alN ew2; have q2 : w0.heap.size ≤ n1 ∧ n1 < n2 ∧ n2 < w2.heap.size := ⟨by omega, by omega, by omega⟩; clear hn1 hn2 sz1 sz2 ew1 ew2; refine F.enter rfl rfl (by decide) (fun _ => run_call_body rfl Tryz.func24 (by rfl) (by rfl)) (fun _ => events_call_body rfl Tryz.func24 (by rfl) (by rfl) _) ?_; walk_nrm
  have hCl : ClsAt w2 (some ⟨n2, 0, none⟩) 1 (one1 n1) := fun i hi => by
    obtain rfl : i = 0 := by omega
    refine ⟨n2, 0, rfl, hc0, hc1, fun i hi => ⟨n1, 0, rfl, fun j hj => ?_⟩⟩; obtain rfl : i = 0 := by have : i < 1 := hi; omega
    match j, hj with
    | 0, _ => exact ht0
    | 1, _ => exact ht1
    | 2, _ => exact ht2
  refine runN_at (some ⟨n2, 0, none⟩) 1 1 (one1 n1) w2 _ _ (by decide) (by simp) (by decide) hCl (fun j _ => rfl) ⟨by simp, by simp⟩ (by omega) hg (fun ng' A1 O ev w5 hng' RN => ?_); have p := one_out RN; have p0 : w5.cell? ⟨O, 0, none⟩ = some (.int .i64 8) := p.c0; have p1 : w5.cell? ⟨O, 1, none⟩ = some (.int .i64 1) := p.c1; have p2 : w5.cell? ⟨O, 2, none⟩ = some (.int .i64 7) := p.c2; have p3 : w5.cell? ⟨O, 3, none⟩ = some (.slice none 0 0) := p.c3; obtain ⟨g, ce, rfl, gA, hev⟩ := one_ev RN; have e5 : w5.cell? ⟨g, 5, none⟩ = some (.int .i64 8) := hev 0 _ rfl; have e6 : w5.cell? ⟨g, 6, none⟩ = some (.int .i64 0) := hev 1 _ rfl; have e7 : w5.cell? ⟨g, 7, none⟩ = some (.int .i64 (-1)) := hev 2 _ rfl; have e8 : w5.cell? ⟨g, 8, none⟩ = some (.int .i64 2) := hev 3 _ rfl; have e9 : w5.cell? ⟨g, 9, none⟩ = some (.int .i64 0) := hev 4 _ rfl; have hk2 : w0.heap.size ≤ w2.heap.size := kp.size; have lA := RN.lA; have lO' := RN.lO; have hb5 : w0.heap.size ≤ w5.heap.size ∧ w0.heap.size ≤ A1 ∧ A1 < w5.heap.size ∧ w0.heap.size ≤ O ∧ O < A1 := ⟨by omega, by omega, by omega, by omega, by omega⟩; clear F hfr kp hc0 hc1 ht0 ht1 ht2 zc0 zc1 zt0 zt1 zt2 hg hev RN p hCl q2 hk2 lA lO' lg; have F := fut0 (P := Tryz.prog) (Post := Post) (wI := w0) (l := [A1]) ng'; have hfr : ∀ (a : Addr) (wr : Bool), w5.heap.size ≤ a.block → OkS w0.heap.size [A1] [] a wr := fun a wr h => ok_fr (N := w5.heap.size) (by simp; omega) (by omega) h (by simp) wr
  have o0 : OkS w0.heap.size [A1] [] ⟨O, 0, none⟩ false := ok_rd (by decide) (by decide); have o1 : OkS w0.heap.size [A1] [] ⟨O, 1, none⟩ false := ok_rd (by decide) (by decide); have o2 : OkS w0.heap.size [A1] [] ⟨O, 2, none⟩ false := ok_rd (by decide) (by decide); have o3 : OkS w0.heap.size [A1] [] ⟨O, 3, none⟩ false := ok_rd (by decide) (by decide); have oE : ∀ j, OkS w0.heap.size [A1] [] ⟨g, j, none⟩ false := fun j => ok_rdb (by simp; omega)
  have oE5 := oE 5; have oE6 := oE 6; have oE7 := oE 7; have oE8 := oE 8; have oE9 := oE 9; have lO : O < w5.heap.size := lt_of_cell p0; have lg5 : g < w5.heap.size := lt_of_cell e5; have kp : Kp [] w5 w5 := Kp.refl _; have x1 := eq55; have x2 := eq55e; have x3 := eg55; have x4 := eg55e; rw [Frame.finish_at]; try walk_nrm
  iterate 4 (refine F.oq rfl rfl rfl (by simp [go_sem]) fun d K h => ?_; go_simp; refine h _ ?_; clear h K d; try walk_nrm)
  refine F.op rfl rfl (by decide) (fun d K hK => ?_); go_simp; rw [alloc_at']; refine hK _ _ ⟨DX.alloc _ _ (fun e he => ?_), ?_⟩
  · have hm := mem_listed he
    simp [go_sem] at hm
  clear hK K d; try walk_nrm
  generalize ew6 : World.alloc w5 _ = w6; generalize hn6 : (World.heap w5).size = n6; have sz6 := sz_al2 ew6 hn6; replace p0 := cl_al p0 ew6; replace p1 := cl_al p1 ew6; replace p2 := cl_al p2 ew6; replace p3 := cl_al p3 ew6; replace e5 := cl_al e5 ew6; replace e6 := cl_al e6 ew6; replace e7 := cl_al e7 ew6; replace e8 := cl_al e8 ew6; replace e9 := cl_al e9 ew6; have hs0 := cl_new (i := 0) ew6 hn6 rfl; have zs0 := fz_new ew6 hn6 0; have hs1 := cl_new (i := 1) ew6 hn6 rfl; have zs1 := fz_new ew6 hn6 1; try simp only [List.getElem_toArray, List.getElem_cons_zero, List.getElem_cons_succ] at hs0 hs1
  replace kp := kp.alN ew6; have i1 : O ≠ n6 := by omega
  have i2 : g ≠ n6 := by omega
  refine F.op rfl rfl (by decide) (fun d K hK => ?_); go_simp
  repeat rw [setCell_at']
  refine hK _ _ ⟨DX.set2 _ (by (first | assumption | (apply hfr <;> dsimp only <;> omega))) (by (first | assumption | (apply hfr <;> dsimp only <;> omega))) (fun e he => ?_), ?_⟩
  · have hm := mem_listed he
    simp [go_sem, storedEv, evst_slice, evst_ptr, evst_iface, evst_nil, evst_bool, *] at hm; rcases hm with rfl | rfl <;> exact .inl ⟨_, rfl, rfl, by (first | assumption | (apply hfr <;> dsimp only <;> omega)), by simp only [size_at, size_set]; first | omega | exact lt_of_cell (by assumption)⟩
  clear hK K d; try walk_nrm
  generalize ew7 : World.setCell w6 _ _ = w7; have sz7 := sz_st2 ew7; replace zs0 := fz_st zs0 ew7; replace zs1 := fz_st zs1 ew7; replace p0 := cl_st p0 ew7 (by simp <;> omega); replace p1 := cl_st p1 ew7 (by simp <;> omega); replace p2 := cl_st p2 ew7 (by simp <;> omega); replace p3 := cl_st p3 ew7 (by simp <;> omega); replace e5 := cl_st e5 ew7 (by simp <;> omega); replace e6 := cl_st e6 ew7 (by simp <;> omega); replace e7 := cl_st e7 ew7 (by simp <;> omega); replace e8 := cl_st e8 ew7 (by simp <;> omega); replace e9 := cl_st e9 ew7 (by simp <;> omega); replace hs0 := cl_st' hs0 ew7; replace hs1 := cl_st hs1 ew7 (by simp <;> omega); replace kp := kp.stN ew7 (by first | (left; simp; done) | (right; left; simp; done) | (right; right; dsimp only; omega)); generalize ew8 : World.setCell w7 _ _ = w8; have sz8 := sz_st2 ew8; replace zs0 := fz_st zs0 ew8; replace zs1 := fz_st zs1 ew8; replace p0 := cl_st p0 ew8 (by simp <;> omega); replace p1 := cl_st p1 ew8 (by simp <;> omega); replace p2 := cl_st p2 ew8 (by simp <;> omega); replace p3 := cl_st p3 ew8 (by simp <;> omega); replace e5 := cl_st e5 ew8 (by simp <;> omega); replace e6 := cl_st e6 ew8 (by simp <;> omega); replace e7 := cl_st e7 ew8 (by simp <;> omega); replace e8 := cl_st e8 ew8 (by simp <;> omega)
  replace e9 := cl_st e9 ew8 (by simp <;> omega); replace hs0 := cl_st hs0 ew8 (by simp <;> omega); replace hs1 := cl_st' hs1 ew8; replace kp := kp.stN ew8 (by first | (left; simp; done) | (right; left; simp; done) | (right; right; dsimp only; omega)); iterate 2 (refine F.oq rfl rfl rfl (by simp [go_sem]) fun d K h => ?_; go_simp; refine h _ ?_; clear h K d; try walk_nrm)
  refine F.es ?_; refine F.sr ?_; simp only [rg, Nat.reduceAdd]; iterate 4 (refine F.oq rfl rfl rfl (by simp [go_sem]) fun d K h => ?_; go_simp; refine h _ ?_; clear h K d; try walk_nrm)
  refine F.ol rfl rfl rfl fun d K h => ?_; go_simp; refine h _ (fun e m => ?_) ?_; simp [go_sem, *] at m; subst m; exact evr (w := w8) (by assumption) (by first | assumption | (apply hfr <;> dsimp only <;> omega)); clear h K d; try walk_nrm
  iterate 5 (refine F.oq rfl rfl rfl (by simp [go_sem]) fun d K h => ?_; go_simp; refine h _ ?_; clear h K d; try walk_nrm)
  refine F.ol rfl rfl rfl fun d K h => ?_; go_simp; refine h _ (fun e m => ?_) ?_; simp [go_sem, *] at m; subst m; exact evr (w := w8) (by assumption) (by first | assumption | (apply hfr <;> dsimp only <;> omega)); clear h K d; try walk_nrm
  iterate 3 (refine F.oq rfl rfl rfl (by simp [go_sem]) fun d K h => ?_; go_simp; refine h _ ?_; clear h K d; try walk_nrm)
  refine F.re ?_; refine F.cf rfl ?_; refine F.sk ?_; refine F.sr ?_; simp only [rg, Nat.reduceAdd]; refine F.oq rfl rfl rfl (by simp [go_sem]) fun d K h => ?_; go_simp; refine h _ ?_; clear h K d; try walk_nrm
  refine F.ol rfl rfl rfl fun d K h => ?_; go_simp; refine h _ (fun e m => ?_) ?_; simp [go_sem, *] at m; subst m; exact evr (w := w8) (by assumption) (by first | assumption | (apply hfr <;> dsimp only <;> omega)); clear h K d; try walk_nrm
  refine F.oq rfl rfl rfl (by simp [go_sem]) fun d K h => ?_; go_simp; refine h _ ?_; clear h K d; try walk_nrm
  refine F.ol rfl rfl rfl fun d K hK => ?_
  go_simp; refine hK _ (fun e hm => ?_) ?_
  · simp [go_sem, *] at hm
    rcases hm with rfl | rfl | rfl | rfl <;> exact evr (w := w8) (by assumption) (by first | assumption | (apply hfr <;> dsimp only <;> omega))
  clear hK K d; try walk_nrm
  refine F.op rfl rfl (by decide) (fun d K hK => ?_); go_simp; rw [alloc_at']; refine hK _ _ ⟨DX.alloc _ _ (fun e he => ?_), ?_⟩
  · have hm := mem_listed he
    simp [go_sem] at hm
  clear hK K d; try walk_nrm
  generalize ew9 : World.alloc w8 _ = w9; generalize hn9 : (World.heap w8).size = n9; have sz9 := sz_al2 ew9 hn9; replace zs0 := fz_al zs0 hs0 ew9; replace zs1 := fz_al zs1 hs1 ew9; replace p0 := cl_al p0 ew9; replace p1 := cl_al p1 ew9; replace p2 := cl_al p2 ew9; replace p3 := cl_al p3 ew9; replace e5 := cl_al e5 ew9; replace e6 := cl_al e6 ew9; replace e7 := cl_al e7 ew9; replace e8 := cl_al e8 ew9; replace e9 := cl_al e9 ew9; replace hs0 := cl_al hs0 ew9; replace hs1 := cl_al hs1 ew9; have ho0 := cl_new (i := 0) ew9 hn9 rfl; have zo0 := fz_new ew9 hn9 0; have ho1 := cl_new (i := 1) ew9 hn9 rfl; have zo1 := fz_new ew9 hn9 1; have ho2 := cl_new (i := 2) ew9 hn9 rfl; have zo2 := fz_new ew9 hn9 2; have ho3 := cl_new (i := 3) ew9 hn9 rfl; have zo3 := fz_new ew9 hn9 3; try simp only [List.getElem_toArray, List.getElem_cons_zero, List.getElem_cons_succ] at ho0 ho1 ho2 ho3
  replace kp := kp.alN ew9; have i3 : O ≠ n9 ∧ g ≠ n9 ∧ n6 ≠ n9 := ⟨by omega, by omega, by omega⟩; refine F.op rfl rfl (by decide) (fun d K hK => ?_); go_simp
  repeat rw [setCell_at']
  refine hK _ _ ⟨DX.set4 _ (by (first | assumption | (apply hfr <;> dsimp only <;> omega))) (by (first | assumption | (apply hfr <;> dsimp only <;> omega))) (by (first | assumption | (apply hfr <;> dsimp only <;> omega))) (by (first | assumption | (apply hfr <;> dsimp only <;> omega))) (fun e he => ?_), ?_⟩
  · have hm := mem_listed he
    simp [go_sem, storedEv, evst_slice, evst_ptr, evst_iface, evst_nil, evst_bool, *] at hm; rcases hm with rfl | rfl | rfl | rfl <;> exact .inl ⟨_, rfl, rfl, by (first | assumption | (apply hfr <;> dsimp only <;> omega)), by simp only [size_at, size_set]; first | omega | exact lt_of_cell (by assumption)⟩
  clear hK K d; try walk_nrm
  generalize ew10 : World.setCell w9 _ _ = w10; have sz10 := sz_st2 ew10; replace zs0 := fz_st zs0 ew10; replace zs1 := fz_st zs1 ew10; replace zo0 := fz_st zo0 ew10; replace zo1 := fz_st zo1 ew10; replace zo2 := fz_st zo2 ew10; replace zo3 := fz_st zo3 ew10; replace p0 := cl_st p0 ew10 (by simp <;> omega); replace p1 := cl_st p1 ew10 (by simp <;> omega); replace p2 := cl_st p2 ew10 (by simp <;> omega); replace p3 := cl_st p3 ew10 (by simp <;> omega); replace e5 := cl_st e5 ew10 (by simp <;> omega); replace e6 := cl_st e6 ew10 (by simp <;> omega); replace e7 := cl_st e7 ew10 (by simp <;> omega); replace e8 := cl_st e8 ew10 (by simp <;> omega); replace e9 := cl_st e9 ew10 (by simp <;> omega); replace hs0 := cl_st hs0 ew10 (by simp <;> omega); replace hs1 := cl_st hs1 ew10 (by simp <;> omega); replace ho0 := cl_st' ho0 ew10; replace ho1 := cl_st ho1 ew10 (by simp <;> omega); replace ho2 := cl_st ho2 ew10 (by simp <;> omega); replace ho3 := cl_st ho3 ew10 (by simp <;> omega); replace kp := kp.stN ew10 (by first | (left; simp; done) | (right; left; simp; done) | (right; right; dsimp only; omega)); generalize ew11 : World.setCell w10 _ _ = w11; have sz11 := sz_st2 ew11; replace zs0 := fz_st zs0 ew11; replace zs1 := fz_st zs1 ew11; replace zo0 := fz_st zo0 ew11; replace zo1 := fz_st zo1 ew11
  replace zo2 := fz_st zo2 ew11; replace zo3 := fz_st zo3 ew11; replace p0 := cl_st p0 ew11 (by simp <;> omega); replace p1 := cl_st p1 ew11 (by simp <;> omega); replace p2 := cl_st p2 ew11 (by simp <;> omega); replace p3 := cl_st p3 ew11 (by simp <;> omega); replace e5 := cl_st e5 ew11 (by simp <;> omega); replace e6 := cl_st e6 ew11 (by simp <;> omega); replace e7 := cl_st e7 ew11 (by simp <;> omega); replace e8 := cl_st e8 ew11 (by simp <;> omega); replace e9 := cl_st e9 ew11 (by simp <;> omega); replace hs0 := cl_st hs0 ew11 (by simp <;> omega); replace hs1 := cl_st hs1 ew11 (by simp <;> omega); replace ho0 := cl_st ho0 ew11 (by simp <;> omega); replace ho1 := cl_st' ho1 ew11; replace ho2 := cl_st ho2 ew11 (by simp <;> omega); replace ho3 := cl_st ho3 ew11 (by simp <;> omega); replace kp := kp.stN ew11 (by first | (left; simp; done) | (right; left; simp; done) | (right; right; dsimp only; omega)); generalize ew12 : World.setCell w11 _ _ = w12; have sz12 := sz_st2 ew12; replace zs0 := fz_st zs0 ew12; replace zs1 := fz_st zs1 ew12; replace zo0 := fz_st zo0 ew12; replace zo1 := fz_st zo1 ew12; replace zo2 := fz_st zo2 ew12; replace zo3 := fz_st zo3 ew12; replace p0 := cl_st p0 ew12 (by simp <;> omega); replace p1 := cl_st p1 ew12 (by simp <;> omega); replace p2 := cl_st p2 ew12 (by simp <;> omega)
  replace p3 := cl_st p3 ew12 (by simp <;> omega); replace e5 := cl_st e5 ew12 (by simp <;> omega); replace e6 := cl_st e6 ew12 (by simp <;> omega); replace e7 := cl_st e7 ew12 (by simp <;> omega); replace e8 := cl_st e8 ew12 (by simp <;> omega); replace e9 := cl_st e9 ew12 (by simp <;> omega); replace hs0 := cl_st hs0 ew12 (by simp <;> omega); replace hs1 := cl_st hs1 ew12 (by simp <;> omega); replace ho0 := cl_st ho0 ew12 (by simp <;> omega); replace ho1 := cl_st ho1 ew12 (by simp <;> omega); replace ho2 := cl_st' ho2 ew12; replace ho3 := cl_st ho3 ew12 (by simp <;> omega); replace kp := kp.stN ew12 (by first | (left; simp; done) | (right; left; simp; done) | (right; right; dsimp only; omega)); generalize ew13 : World.setCell w12 _ _ = w13; have sz13 := sz_st2 ew13; replace zs0 := fz_st zs0 ew13; replace zs1 := fz_st zs1 ew13; replace zo0 := fz_st zo0 ew13; replace zo1 := fz_st zo1 ew13; replace zo2 := fz_st zo2 ew13; replace zo3 := fz_st zo3 ew13; replace p0 := cl_st p0 ew13 (by simp <;> omega); replace p1 := cl_st p1 ew13 (by simp <;> omega); replace p2 := cl_st p2 ew13 (by simp <;> omega); replace p3 := cl_st p3 ew13 (by simp <;> omega); replace e5 := cl_st e5 ew13 (by simp <;> omega); replace e6 := cl_st e6 ew13 (by simp <;> omega); replace e7 := cl_st e7 ew13 (by simp <;> omega)
  replace e8 := cl_st e8 ew13 (by simp <;> omega); replace e9 := cl_st e9 ew13 (by simp <;> omega); replace hs0 := cl_st hs0 ew13 (by simp <;> omega); replace hs1 := cl_st hs1 ew13 (by simp <;> omega); replace ho0 := cl_st ho0 ew13 (by simp <;> omega); replace ho1 := cl_st ho1 ew13 (by simp <;> omega); replace ho2 := cl_st ho2 ew13 (by simp <;> omega); replace ho3 := cl_st' ho3 ew13; replace kp := kp.stN ew13 (by first | (left; simp; done) | (right; left; simp; done) | (right; right; dsimp only; omega)); refine F.esr ?_; simp only [rg, Nat.reduceAdd]; refine F.oq rfl rfl rfl (by simp [go_sem]) fun d K h => ?_; go_simp; refine h _ ?_; clear h K d; try walk_nrm
  refine F.ol rfl rfl rfl fun d K h => ?_; go_simp; refine h _ (fun e m => ?_) ?_; simp [go_sem, *] at m; subst m; exact evr (w := w13) (by assumption) (by first | assumption | (apply hfr <;> dsimp only <;> omega)); clear h K d; try walk_nrm
  iterate 3 (refine F.oq rfl rfl rfl (by simp [go_sem]) fun d K h => ?_; go_simp; refine h _ ?_; clear h K d; try walk_nrm)
  refine F.ol rfl rfl rfl fun d K h => ?_; go_simp; refine h _ (fun e m => ?_) ?_; simp [go_sem, *] at m; subst m; exact evr (w := w13) (by assumption) (by first | assumption | (apply hfr <;> dsimp only <;> omega)); clear h K d; try walk_nrm
  iterate 4 (refine F.oq rfl rfl rfl (by simp [go_sem]) fun d K h => ?_; go_simp; refine h _ ?_; clear h K d; try walk_nrm)
  refine F.ol rfl rfl rfl fun d K h => ?_; go_simp; refine h _ (fun e m => ?_) ?_; simp [go_sem, *] at m; subst m; exact evr (w := w13) (by assumption) (by first | assumption | (apply hfr <;> dsimp only <;> omega)); clear h K d; try walk_nrm
  iterate 4 (refine F.oq rfl rfl rfl (by simp [go_sem]) fun d K h => ?_; go_simp; refine h _ ?_; clear h K d; try walk_nrm)
  refine F.ol rfl rfl rfl fun d K h => ?_; go_simp; refine h _ (fun e m => ?_) ?_; simp [go_sem, *] at m; subst m; exact evr (w := w13) (by assumption) (by first | assumption | (apply hfr <;> dsimp only <;> omega)); clear h K d; try walk_nrm
  iterate 5 (refine F.oq rfl rfl rfl (by simp [go_sem]) fun d K h => ?_; go_simp; refine h _ ?_; clear h K d; try walk_nrm)
  refine F.ol rfl rfl rfl fun d K h => ?_; go_simp; refine h _ (fun e m => ?_) ?_; simp [go_sem, *] at m; subst m; exact evr (w := w13) (by assumption) (by first | assumption | (apply hfr <;> dsimp only <;> omega)); clear h K d; try walk_nrm
  refine F.oq rfl rfl rfl (by simp [go_sem]) fun d K h => ?_; go_simp; refine h _ ?_; clear h K d; try walk_nrm
  refine F.ol rfl rfl rfl fun d K hK => ?_
  go_simp; refine hK _ (fun e hm => ?_) ?_
  · simp [go_sem, *] at hm
    rcases hm with rfl | rfl | rfl | rfl | rfl <;> exact evr (w := w13) (by assumption) (by first | assumption | (apply hfr <;> dsimp only <;> omega))
  clear hK K d; try walk_nrm
  iterate 4 (refine F.oq rfl rfl rfl (fun _ => by first | (simp [go_sem]; done) | simp [go_sem, Instr.makeInterface, Instr.makeFunc, *]) fun d K hK => ?_; go_simp; refine hK _ ?_; clear hK K d; try walk_nrm)
  refine F.re ?_; refine F.ctl (fun _ => stepG_ret') ?_; refine F.leave rfl rfl Tryz.func30 (resultsC_tmp (by rfl) _) ?_; have hks := kp.size; refine At.assume old_at (fun hO2 => ?_); exact hret ng' A1 _ hng' hb5.2.1 (by omega) hO2
end
end Go.Proofs.YtobagnjnbmgidaaGreatDoor
