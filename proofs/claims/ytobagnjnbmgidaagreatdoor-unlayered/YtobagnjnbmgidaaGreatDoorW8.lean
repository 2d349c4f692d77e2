/- The report of what is refused. -/
import Derived.Test.YtobagnjnbmgidaaGreatDoorW7
set_option linter.unusedSimpArgs false
set_option linter.unusedVariables false
set_option maxHeartbeats 8000000
set_option maxRecDepth 100000
namespace Go.Proofs.YtobagnjnbmgidaaGreatDoor
open Go.Conc Go.RowKit Go.Extern
open Go.ConcN (sumTo upd sumTo_upd upd_ne upd_same)

section
variable {wI : World} {sa : Option Addr} {n cap : Nat} {g : Nat → Cl} {l : List Nat} {Post : Value → World → Prop}

theorem reportE_at (h : AskN wI sa n g) (w0 : World) (cR : Frame) (csR : List Frame) (e1 at1 : Int) (hck : chk 0 (fun _ _ => 0) n g = (e1, at1)) (he : ¬ e1 = 0)
    (hret : ∀ (ng' : Nat) (l : List Nat) (w' : World), 0 < ng' → (∀ B ∈ l, wI.heap.size ≤ B ∧ B < w'.heap.size) → Old w0 w' → At0 Tryz.prog Post (Old wI) (ShL l) ng' (G (cR.finish (.tuple #[.agg #[.slice none 0 0, .slice none 0 0], .bool false, .bool true])) csR) w') :
    At0 Tryz.prog Post (Old wI) (ShL []) 1 (G (Frame.enter Tryz.prog 19 #[.slice none 0 0, .slice sa n cap] .normal) (cR :: csR)) w0 := by
  refine At.assume old_at (fun hO => ?_); refine At.keep (K' := Old w0) (fun d => Old.refl w0) ?_; replace hret : ∀ (ng' : Nat) (l : List Nat) (w' : World), 0 < ng' → (∀ B ∈ l, wI.heap.size ≤ B ∧ B < w'.heap.size) → Old w0 w' → At0 Tryz.prog Post (Old w0) (ShL l) ng' (G (cR.finish (.tuple #[.agg #[.slice none 0 0, .slice none 0 0], .bool false, .bool true])) csR) w' := fun ng' l w' h1 h2 h3 => At.keep (fun d => hO.trans h3) (hret ng' l w' h1 h2 h3)
  have hI : wI.heap.size ≤ w0.heap.size := hO.2.2.2.1; have he1 : (e1 != 0) = true := by simpa using he
  have F := fut0 (P := Tryz.prog) (Post := Post) (wI := w0) (l := []) 1; rw [enter_at _ Tryz.func19 rfl]; simp only [Tryz.ntmps19, List.size_toArray, List.length_cons, List.length_nil, Nat.reduceAdd, Nat.reduceSub, Array.replicate_succ, Array.replicate_zero, List.push_toArray, List.append_toArray, List.nil_append, List.cons_append]; refine F.sr ?_; simp only [rg, Nat.reduceAdd]; refine F.op rfl rfl (by decide) (fun d K hK => ?_); go_simp; rw [alloc_at']; refine hK _ _ ⟨DX.alloc _ _ (fun e he => ?_), ?_⟩
  · have hm := mem_listed he
    simp [go_sem] at hm
  clear hK K d; try walk_nrm
  generalize ew1 : World.alloc w0 _ = w1; generalize hn1 : (World.heap w0).size = n1; have sz1 := sz_al2 ew1 hn1; have hr0 := cl_new (i := 0) ew1 hn1 rfl; have zr0 := fz_new ew1 hn1 0; have hr1 := cl_new (i := 1) ew1 hn1 rfl; have zr1 := fz_new ew1 hn1 1; try simp only [List.getElem_toArray, List.getElem_cons_zero, List.getElem_cons_succ] at hr0 hr1
  have kp : Kp [] w0 w0 [] := Kp.refl _; replace kp := kp.alN ew1; iterate 2 (refine F.oq rfl rfl rfl (by simp [go_sem]) fun d K h => ?_; go_simp; refine h _ ?_; clear h K d; try walk_nrm)
  refine F.esr ?_; simp only [rg, Nat.reduceAdd]; refine F.enter rfl rfl (by decide) (fun _ => run_call_body rfl Tryz.func30 (by rfl) (by rfl)) (fun _ => events_call_body rfl Tryz.func30 (by rfl) (by rfl) _) ?_; walk_nrm; have z1 : w0.heap.size ≤ n1 ∧ n1 < w1.heap.size := ⟨by omega, by omega⟩; clear hn1 sz1 ew1; refine At.assume old_at (fun hO1 => ?_); refine works_at w1 _ _ (by omega) (hO1.cell _ _ (hO.cell _ _ h.hg)) (fun ng1 A1 w2 hng1 g1 g2 hO2 => ?_); clear F kp; have F := fut0 (P := Tryz.prog) (Post := Post) (wI := w0) (l := [A1]) ng1; have hfr : ∀ (a : Addr) (wr : Bool), w2.heap.size ≤ a.block → OkS w0.heap.size [A1] [] a wr := fun a wr h => ok_fr (N := w2.heap.size) (by simp; omega) (by omega) h (by simp) wr
  have hz2 : w1.heap.size ≤ w2.heap.size := hO2.2.2.2.1; replace zr0 := (hO2.froz (by dsimp only; omega)).trans zr0; replace zr1 := (hO2.froz (by dsimp only; omega)).trans zr1; replace hr0 := hO2.cell _ _ hr0; replace hr1 := hO2.cell _ _ hr1; rw [Frame.finish_at]; try walk_nrm
  refine F.oq rfl rfl rfl (by simp [go_sem]) fun d K h => ?_; go_simp; refine h _ ?_; clear h K d; try walk_nrm
  refine F.esr ?_; simp only [rg, Nat.reduceAdd]; iterate 2 (refine F.oq rfl rfl rfl (by simp [go_sem]) fun d K h => ?_; go_simp; refine h _ ?_; clear h K d; try walk_nrm)
  refine F.enter rfl rfl (by decide) (fun _ => run_call_body rfl Tryz.func16 (by rfl) (by rfl)) (fun _ => events_call_body rfl Tryz.func16 (by rfl) (by rfl) _) ?_; walk_nrm; refine check_x (Ok := OkS w0.heap.size [A1] []) w2.heap.size 0 0 n cap none sa (fun _ _ => 0) g w2 (Nat.le_refl _) (fun i hi => absurd hi (Nat.not_lt_zero _)) (h.hC.old (hO.trans (hO1.trans hO2))) (fun p hp => by cases hp) (h.rd (by simp; omega)) hfr _ F _ _ (fun v w3 hp => ?_); rw [hck] at hp; obtain ⟨rfl, k3⟩ := hp; have z3 := k3.size; replace zr0 := (k3.froz _ _ (by simp) hr0).trans zr0; replace zr1 := (k3.froz _ _ (by simp) hr1).trans zr1; replace hr0 := k3.cell _ _ (by simp) hr0; replace hr1 := k3.cell _ _ (by simp) hr1; rw [Frame.finish_at]; try walk_nrm
  iterate 5 (refine F.oq rfl rfl rfl (by simp [go_sem]) fun d K h => ?_; go_simp; refine h _ ?_; clear h K d; try walk_nrm)
  refine F.esr ?_; simp only [rg, Nat.reduceAdd]; iterate 2 (refine F.oq rfl rfl rfl (by simp [go_sem]) fun d K h => ?_; go_simp; refine h _ ?_; clear h K d; try walk_nrm)
  refine F.enter rfl rfl (by decide) (fun _ => run_call_body rfl Tryz.func24 (by rfl) (by rfl)) (fun _ => events_call_body rfl Tryz.func24 (by rfl) (by rfl) _) ?_; walk_nrm; refine runE_x _ _ e1 at1 he w3 (fun a wr h => hfr a wr (by omega)) (fun w k => by have x := check_x (main := true) (Ok := OkS w0.heap.size [A1] []) w2.heap.size 0 0 n cap none sa (fun _ _ => 0) g w (Nat.le_trans z3 k.size) (fun i hi => absurd hi (Nat.not_lt_zero _)) (((h.hC.old (hO.trans (hO1.trans hO2))).kp k3).kp k) (fun p hp => by cases hp) (h.rd (by simp; omega)) hfr; rw [hck] at x; exact x) _ F _ _ (fun v w4 hp => ?_); obtain ⟨rfl, k4⟩ := hp; have z4 := k4.size; replace zr0 := (k4.froz _ _ (by simp) hr0).trans zr0; replace zr1 := (k4.froz _ _ (by simp) hr1).trans zr1; replace hr0 := k4.cell _ _ (by simp) hr0; replace hr1 := k4.cell _ _ (by simp) hr1; have oR : ∀ j wr, j = 0 ∨ j = 1 → OkS w0.heap.size [A1] [] ⟨n1, j, none⟩ wr := fun j wr hj => ok_wr (by omega) (by omega) (by omega) (by simp [StL]) wr
  have oR0 := oR 0 true (.inl rfl); have oR1 := oR 1 true (.inr rfl); have oQ0 := oR 0 false (.inl rfl); have oQ1 := oR 1 false (.inr rfl); have kp : Kp [n1] w4 w4 := Kp.refl _; replace hfr : ∀ (a : Addr) (wr : Bool), w4.heap.size ≤ a.block → OkS w0.heap.size [A1] [] a wr := fun a wr h => hfr a wr (by omega)
  rw [Frame.finish_at]; try walk_nrm
  iterate 4 (refine F.oq rfl rfl rfl (by simp [go_sem]) fun d K h => ?_; go_simp; refine h _ ?_; clear h K d; try walk_nrm)
  refine F.op rfl rfl (by decide) (fun d K hK => ?_); go_simp; rw [alloc_at']; refine hK _ _ ⟨DX.alloc _ _ (fun e he => ?_), ?_⟩
  · have hm := mem_listed he
    simp [go_sem] at hm
  clear hK K d; try walk_nrm
  generalize ew5 : World.alloc w4 _ = w5; generalize hn5 : (World.heap w4).size = n5; have sz5 := sz_al2 ew5 hn5; replace zr0 := fz_al zr0 hr0 ew5; replace zr1 := fz_al zr1 hr1 ew5; replace hr0 := cl_al hr0 ew5; replace hr1 := cl_al hr1 ew5; have hs0 := cl_new (i := 0) ew5 hn5 rfl; have zs0 := fz_new ew5 hn5 0; have hs1 := cl_new (i := 1) ew5 hn5 rfl; have zs1 := fz_new ew5 hn5 1; try simp only [List.getElem_toArray, List.getElem_cons_zero, List.getElem_cons_succ] at hs0 hs1
  replace kp := kp.alN ew5; have i2 : n1 ≠ n5 := by omega
  refine F.op rfl rfl (by decide) (fun d K hK => ?_); go_simp
  repeat rw [setCell_at']
  refine hK _ _ ⟨DX.set2 _ (by (first | assumption | (apply hfr <;> dsimp only <;> omega))) (by (first | assumption | (apply hfr <;> dsimp only <;> omega))) (fun e he => ?_), ?_⟩
  · have hm := mem_listed he
    simp [go_sem, storedEv, evst_slice, evst_ptr, evst_iface, evst_nil, evst_bool, *] at hm; rcases hm with rfl | rfl <;> exact .inl ⟨_, rfl, rfl, by (first | assumption | (apply hfr <;> dsimp only <;> omega)), by simp only [size_at, size_set]; first | omega | exact lt_of_cell (by assumption)⟩
  clear hK K d; try walk_nrm
  generalize ew6 : World.setCell w5 _ _ = w6; have sz6 := sz_st2 ew6; replace zr0 := fz_st zr0 ew6; replace zr1 := fz_st zr1 ew6; replace zs0 := fz_st zs0 ew6; replace zs1 := fz_st zs1 ew6; replace hr0 := cl_st hr0 ew6 (by simp <;> omega); replace hr1 := cl_st hr1 ew6 (by simp <;> omega); replace hs0 := cl_st' hs0 ew6; replace hs1 := cl_st hs1 ew6 (by simp <;> omega); replace kp := kp.stN ew6 (by first | (left; simp; done) | (right; left; simp; done) | (right; right; dsimp only; omega)); generalize ew7 : World.setCell w6 _ _ = w7; have sz7 := sz_st2 ew7; replace zr0 := fz_st zr0 ew7; replace zr1 := fz_st zr1 ew7; replace zs0 := fz_st zs0 ew7; replace zs1 := fz_st zs1 ew7; replace hr0 := cl_st hr0 ew7 (by simp <;> omega); replace hr1 := cl_st hr1 ew7 (by simp <;> omega); replace hs0 := cl_st hs0 ew7 (by simp <;> omega); replace hs1 := cl_st' hs1 ew7; replace kp := kp.stN ew7 (by first | (left; simp; done) | (right; left; simp; done) | (right; right; dsimp only; omega)); iterate 2 (refine F.oq rfl rfl rfl (by simp [go_sem]) fun d K h => ?_; go_simp; refine h _ ?_; clear h K d; try walk_nrm)
  refine F.es ?_; refine F.sr ?_; simp only [rg, Nat.reduceAdd]; iterate 2 (refine F.oq rfl rfl rfl (by simp [go_sem]) fun d K h => ?_; go_simp; refine h _ ?_; clear h K d; try walk_nrm)
  refine F.re ?_; refine F.ct rfl ?_; refine F.sq ?_; have ln : w4.heap.size ≤ n5 ∧ n5 < w7.heap.size ∧ w4.heap.size ≤ w7.heap.size := ⟨by omega, by omega, by omega⟩; clear hn5 sz5 ew5 sz6 sz7 ew6 ew7; refine F.drawB (γ := Unit) (n := 27) mixed [[], [], [1], [2], [2], [2, 3, 4], [2, 5], [2, 6], [7], [7], [7, 8, 9], [7, 10], [7, 11], [12], [12, 13], [12, 14], [12, 15], [12, 16], [12, 17], [18], [18, 19], [18, 20], [18, 21], [18, 22], [0, 18], [0, 24], [0, 1, 2, 3, 4, 5, 6, 7, 8, 9, 10, 11, 12, 13, 14, 15, 16, 17, 18, 19, 20, 21, 22, 23, 24, 25]] rfl (by kernel_rfl) (fun b g => [(30, sel (b 0) (.agg #[.slice none 0 0, .slice none 0 0]) (undef)), (31, sel (b 1) (.bool true) (undef)), (32, sel (b 2) (.bool true) (undef)), (33, sel (b 3) (.int .i64 e1) (undef)), (34, sel (b 4) (.int .i64 e1) (undef)), (35, sel (b 5) (.bool true) (undef)), (36, sel (b 6) (.bool true) (undef)), (37, sel (b 7) (.bool true) (undef)), (38, sel (b 8) (.int .i64 at1) (undef)), (39, sel (b 9) (.int .i64 at1) (undef)), (40, sel (b 10) (.bool true) (undef)), (41, sel (b 11) (.bool true) (undef)), (42, sel (b 12) (.bool true) (undef)), (43, sel (b 13) (.pointer (some ⟨n5, 0, none⟩)) (undef)), (44, sel (b 14) (.slice none 0 0) (undef)), (45, sel (b 15) (.int .i64 0) (undef)), (46, sel (b 16) (.bool true) (undef)), (47, sel (b 17) (.bool true) (undef)), (48, sel (b 18) (.bool true) (undef)), (49, sel (b 19) (.pointer (some ⟨n5, 1, none⟩)) (undef)), (50, sel (b 20) (.slice none 0 0) (undef)), (51, sel (b 21) (.int .i64 0) (undef)), (52, sel (b 22) (.bool true) (undef)), (53, sel (b 23) (.bool true) (undef)), (5, sel (b 25) (.bool false) (.bool false)), (6, sel (b 26) (.bool true) (.bool false))]) (fun b g w => (Kp [n1] w4 w) ∧ (w.cell? ⟨n1, 0, none⟩ = some (.slice none 0 0)) ∧ (w.cell? ⟨n1, 1, none⟩ = some (.slice none 0 0)) ∧ (w.cell? ⟨n5, 0, none⟩ = some (.slice none 0 0)) ∧ (w.cell? ⟨n5, 1, none⟩ = some (.slice none 0 0)) ∧ (w.frozen? ⟨n1, 0, none⟩ = false) ∧ (w.frozen? ⟨n1, 1, none⟩ = false)) (()) (by simp only [pu, Nat.reduceAdd, Nat.reduceEqDiff, reduceIte]) (⟨kp, hr0, hr1, hs0, hs1, zr0, zr1⟩) (all_cons ?_ (all_cons ?_ (all_cons ?_ (all_cons ?_ (all_cons ?_ (all_cons ?_ (all_cons ?_ (all_cons ?_ (all_cons ?_ (all_cons ?_ (all_cons ?_ (all_cons ?_ (all_cons ?_ (all_cons ?_ (all_cons ?_ (all_cons ?_ (all_cons ?_ (all_cons ?_ (all_cons ?_ (all_cons ?_ (all_cons ?_ (all_cons ?_ (all_cons ?_ (all_cons ?_ (all_cons ?_ (all_cons ?_ (all_cons ?_ (all_nil)))))))))))))))))))))))))))) ?_
  · intro b g w hI hcl hbi hdp rest hre hkk
    obtain ⟨kp, hr0, hr1, hs0, hs1, zr0, zr1⟩ := hI; replace hbi : b 0 = false := hbi; simp only [hbi, pu, Nat.reduceAdd, Nat.reduceEqDiff, reduceIte]; refine F.ol rfl rfl rfl fun d K hK => ?_
    go_simp; refine hK _ (fun e hm => ?_) ?_
    · simp [go_sem, *] at hm
      rcases hm with rfl | rfl <;> exact evr (w := w) (by assumption) (by first | assumption | (apply hfr <;> dsimp only <;> omega))
    clear hK K d; try walk_nrm
    have hk2 := hkk g _ ⟨kp, hr0, hr1, hs0, hs1, zr0, zr1⟩; simp only [hbi, pu, Nat.reduceAdd, Nat.reduceEqDiff, reduceIte] at hk2; exact hk2
  · intro b g w hI hcl hbi hdp rest hre hkk
    obtain ⟨kp, hr0, hr1, hs0, hs1, zr0, zr1⟩ := hI; replace hbi : b 1 = false := hbi; simp only [hbi, pu, Nat.reduceAdd, Nat.reduceEqDiff, reduceIte]; refine F.oq rfl rfl rfl (by simp [go_sem]) fun d K h => ?_; go_simp; refine h _ ?_; clear h K d; try walk_nrm
    have hk2 := hkk g _ ⟨kp, hr0, hr1, hs0, hs1, zr0, zr1⟩; simp only [hbi, pu, Nat.reduceAdd, Nat.reduceEqDiff, reduceIte] at hk2; exact hk2
  · intro b g w hI hcl hbi hdp rest hre hkk
    obtain ⟨kp, hr0, hr1, hs0, hs1, zr0, zr1⟩ := hI; replace hbi : b 2 = false := hbi; have d1 := hdp 1 rfl; simp only [d1, hbi, pu, Nat.reduceAdd, Nat.reduceEqDiff, reduceIte]; refine F.oq rfl rfl rfl (by simp [go_sem]) fun d K h => ?_; go_simp; refine h _ ?_; clear h K d; try walk_nrm
    have hk2 := hkk g _ ⟨kp, hr0, hr1, hs0, hs1, zr0, zr1⟩; simp only [d1, hbi, pu, Nat.reduceAdd, Nat.reduceEqDiff, reduceIte] at hk2; exact hk2
  · intro b g w hI hcl hbi hdp rest hre hkk
    obtain ⟨kp, hr0, hr1, hs0, hs1, zr0, zr1⟩ := hI; replace hbi : b 3 = false := hbi; have d2 := hdp 2 rfl; simp only [d2, hbi, pu, Nat.reduceAdd, Nat.reduceEqDiff, reduceIte]; refine F.oq rfl rfl rfl (by simp [go_sem]) fun d K h => ?_; go_simp; refine h _ ?_; clear h K d; try walk_nrm
    have hk2 := hkk g _ ⟨kp, hr0, hr1, hs0, hs1, zr0, zr1⟩; simp only [d2, hbi, pu, Nat.reduceAdd, Nat.reduceEqDiff, reduceIte] at hk2; exact hk2
  · intro b g w hI hcl hbi hdp rest hre hkk
    obtain ⟨kp, hr0, hr1, hs0, hs1, zr0, zr1⟩ := hI; replace hbi : b 4 = false := hbi; have d2 := hdp 2 rfl; simp only [d2, hbi, pu, Nat.reduceAdd, Nat.reduceEqDiff, reduceIte]; refine F.oq rfl rfl rfl (by simp [go_sem]) fun d K h => ?_; go_simp; refine h _ ?_; clear h K d; try walk_nrm
    have hk2 := hkk g _ ⟨kp, hr0, hr1, hs0, hs1, zr0, zr1⟩; simp only [d2, hbi, pu, Nat.reduceAdd, Nat.reduceEqDiff, reduceIte] at hk2; exact hk2
  · intro b g w hI hcl hbi hdp rest hre hkk
    obtain ⟨kp, hr0, hr1, hs0, hs1, zr0, zr1⟩ := hI; replace hbi : b 5 = false := hbi; have d2 := hdp 2 rfl; have d3 := hdp 3 rfl; have d4 := hdp 4 rfl; simp only [d2, d3, d4, hbi, pu, Nat.reduceAdd, Nat.reduceEqDiff, reduceIte]; refine F.oq rfl rfl rfl (by simp [go_sem]) fun d K h => ?_; go_simp; refine h _ ?_; clear h K d; try walk_nrm
    have hk2 := hkk g _ ⟨kp, hr0, hr1, hs0, hs1, zr0, zr1⟩; simp only [d2, d3, d4, hbi, pu, Nat.reduceAdd, Nat.reduceEqDiff, reduceIte] at hk2; exact hk2
  · intro b g w hI hcl hbi hdp rest hre hkk
    obtain ⟨kp, hr0, hr1, hs0, hs1, zr0, zr1⟩ := hI; replace hbi : b 6 = false := hbi; have d2 := hdp 2 rfl; have d5 := hdp 5 rfl; simp only [d2, d5, hbi, pu, Nat.reduceAdd, Nat.reduceEqDiff, reduceIte]; refine F.oq rfl rfl rfl (by simp [go_sem]) fun d K h => ?_; go_simp; refine h _ ?_; clear h K d; try walk_nrm
    have hk2 := hkk g _ ⟨kp, hr0, hr1, hs0, hs1, zr0, zr1⟩; simp only [d2, d5, hbi, pu, Nat.reduceAdd, Nat.reduceEqDiff, reduceIte] at hk2; exact hk2
  · intro b g w hI hcl hbi hdp rest hre hkk
    obtain ⟨kp, hr0, hr1, hs0, hs1, zr0, zr1⟩ := hI; replace hbi : b 7 = false := hbi; have d2 := hdp 2 rfl; have d6 := hdp 6 rfl; simp only [d2, d6, hbi, pu, Nat.reduceAdd, Nat.reduceEqDiff, reduceIte]; refine F.oq rfl rfl rfl (by simp [go_sem]) fun d K h => ?_; go_simp; refine h _ ?_; clear h K d; try walk_nrm
    have hk2 := hkk g _ ⟨kp, hr0, hr1, hs0, hs1, zr0, zr1⟩; simp only [d2, d6, hbi, pu, Nat.reduceAdd, Nat.reduceEqDiff, reduceIte] at hk2; exact hk2
  · intro b g w hI hcl hbi hdp rest hre hkk
    obtain ⟨kp, hr0, hr1, hs0, hs1, zr0, zr1⟩ := hI; replace hbi : b 8 = false := hbi; have d7 := hdp 7 rfl; simp only [d7, hbi, pu, Nat.reduceAdd, Nat.reduceEqDiff, reduceIte]; refine F.oq rfl rfl rfl (by simp [go_sem]) fun d K h => ?_; go_simp; refine h _ ?_; clear h K d; try walk_nrm
    have hk2 := hkk g _ ⟨kp, hr0, hr1, hs0, hs1, zr0, zr1⟩; simp only [d7, hbi, pu, Nat.reduceAdd, Nat.reduceEqDiff, reduceIte] at hk2; exact hk2
  · intro b g w hI hcl hbi hdp rest hre hkk
    obtain ⟨kp, hr0, hr1, hs0, hs1, zr0, zr1⟩ := hI; replace hbi : b 9 = false := hbi; have d7 := hdp 7 rfl; simp only [d7, hbi, pu, Nat.reduceAdd, Nat.reduceEqDiff, reduceIte]; refine F.oq rfl rfl rfl (by simp [go_sem]) fun d K h => ?_; go_simp; refine h _ ?_; clear h K d; try walk_nrm
    have hk2 := hkk g _ ⟨kp, hr0, hr1, hs0, hs1, zr0, zr1⟩; simp only [d7, hbi, pu, Nat.reduceAdd, Nat.reduceEqDiff, reduceIte] at hk2; exact hk2
  · intro b g w hI hcl hbi hdp rest hre hkk
    obtain ⟨kp, hr0, hr1, hs0, hs1, zr0, zr1⟩ := hI; replace hbi : b 10 = false := hbi; have d7 := hdp 7 rfl; have d8 := hdp 8 rfl; have d9 := hdp 9 rfl; simp only [d7, d8, d9, hbi, pu, Nat.reduceAdd, Nat.reduceEqDiff, reduceIte]; refine F.oq rfl rfl rfl (by simp [go_sem]) fun d K h => ?_; go_simp; refine h _ ?_; clear h K d; try walk_nrm
    have hk2 := hkk g _ ⟨kp, hr0, hr1, hs0, hs1, zr0, zr1⟩; simp only [d7, d8, d9, hbi, pu, Nat.reduceAdd, Nat.reduceEqDiff, reduceIte] at hk2; exact hk2
  · intro b g w hI hcl hbi hdp rest hre hkk
    obtain ⟨kp, hr0, hr1, hs0, hs1, zr0, zr1⟩ := hI; replace hbi : b 11 = false := hbi; have d7 := hdp 7 rfl; have d10 := hdp 10 rfl; simp only [d7, d10, hbi, pu, Nat.reduceAdd, Nat.reduceEqDiff, reduceIte]; refine F.oq rfl rfl rfl (by simp [go_sem]) fun d K h => ?_; go_simp; refine h _ ?_; clear h K d; try walk_nrm
    have hk2 := hkk g _ ⟨kp, hr0, hr1, hs0, hs1, zr0, zr1⟩; simp only [d7, d10, hbi, pu, Nat.reduceAdd, Nat.reduceEqDiff, reduceIte] at hk2; exact hk2
  · intro b g w hI hcl hbi hdp rest hre hkk
    obtain ⟨kp, hr0, hr1, hs0, hs1, zr0, zr1⟩ := hI; replace hbi : b 12 = false := hbi; have d7 := hdp 7 rfl; have d11 := hdp 11 rfl; simp only [d7, d11, hbi, pu, Nat.reduceAdd, Nat.reduceEqDiff, reduceIte]; refine F.oq rfl rfl rfl (by simp [go_sem]) fun d K h => ?_; go_simp; refine h _ ?_; clear h K d; try walk_nrm
    have hk2 := hkk g _ ⟨kp, hr0, hr1, hs0, hs1, zr0, zr1⟩; simp only [d7, d11, hbi, pu, Nat.reduceAdd, Nat.reduceEqDiff, reduceIte] at hk2; exact hk2
  · intro b g w hI hcl hbi hdp rest hre hkk
    obtain ⟨kp, hr0, hr1, hs0, hs1, zr0, zr1⟩ := hI; replace hbi : b 13 = false := hbi; have d12 := hdp 12 rfl; simp only [d12, hbi, pu, Nat.reduceAdd, Nat.reduceEqDiff, reduceIte]; refine F.oq rfl rfl rfl (by simp [go_sem]) fun d K h => ?_; go_simp; refine h _ ?_; clear h K d; try walk_nrm
    have hk2 := hkk g _ ⟨kp, hr0, hr1, hs0, hs1, zr0, zr1⟩; simp only [d12, hbi, pu, Nat.reduceAdd, Nat.reduceEqDiff, reduceIte] at hk2; exact hk2
  · intro b g w hI hcl hbi hdp rest hre hkk
    obtain ⟨kp, hr0, hr1, hs0, hs1, zr0, zr1⟩ := hI; replace hbi : b 14 = false := hbi; have d12 := hdp 12 rfl; have d13 := hdp 13 rfl; simp only [d12, d13, hbi, pu, Nat.reduceAdd, Nat.reduceEqDiff, reduceIte]; refine F.ol rfl rfl rfl fun d K h => ?_; go_simp; refine h _ (fun e m => ?_) ?_; simp [go_sem, *] at m; subst m; exact evr (w := w) (by assumption) (by first | assumption | (apply hfr <;> dsimp only <;> omega)); clear h K d; try walk_nrm
    have hk2 := hkk g _ ⟨kp, hr0, hr1, hs0, hs1, zr0, zr1⟩; simp only [d12, d13, hbi, pu, Nat.reduceAdd, Nat.reduceEqDiff, reduceIte] at hk2; exact hk2
  · intro b g w hI hcl hbi hdp rest hre hkk
    obtain ⟨kp, hr0, hr1, hs0, hs1, zr0, zr1⟩ := hI; replace hbi : b 15 = false := hbi; have d12 := hdp 12 rfl; have d14 := hdp 14 rfl; simp only [d12, d14, hbi, pu, Nat.reduceAdd, Nat.reduceEqDiff, reduceIte]; refine F.oq rfl rfl rfl (by simp [go_sem]) fun d K h => ?_; go_simp; refine h _ ?_; clear h K d; try walk_nrm
    have hk2 := hkk g _ ⟨kp, hr0, hr1, hs0, hs1, zr0, zr1⟩; simp only [d12, d14, hbi, pu, Nat.reduceAdd, Nat.reduceEqDiff, reduceIte] at hk2; exact hk2
  · intro b g w hI hcl hbi hdp rest hre hkk
    obtain ⟨kp, hr0, hr1, hs0, hs1, zr0, zr1⟩ := hI; replace hbi : b 16 = false := hbi; have d12 := hdp 12 rfl; have d15 := hdp 15 rfl; simp only [d12, d15, hbi, pu, Nat.reduceAdd, Nat.reduceEqDiff, reduceIte]; refine F.oq rfl rfl rfl (by simp [go_sem]) fun d K h => ?_; go_simp; refine h _ ?_; clear h K d; try walk_nrm
    have hk2 := hkk g _ ⟨kp, hr0, hr1, hs0, hs1, zr0, zr1⟩; simp only [d12, d15, hbi, pu, Nat.reduceAdd, Nat.reduceEqDiff, reduceIte] at hk2; exact hk2
  · intro b g w hI hcl hbi hdp rest hre hkk
    obtain ⟨kp, hr0, hr1, hs0, hs1, zr0, zr1⟩ := hI; replace hbi : b 17 = false := hbi; have d12 := hdp 12 rfl; have d16 := hdp 16 rfl; simp only [d12, d16, hbi, pu, Nat.reduceAdd, Nat.reduceEqDiff, reduceIte]; refine F.oq rfl rfl rfl (by simp [go_sem]) fun d K h => ?_; go_simp; refine h _ ?_; clear h K d; try walk_nrm
    have hk2 := hkk g _ ⟨kp, hr0, hr1, hs0, hs1, zr0, zr1⟩; simp only [d12, d16, hbi, pu, Nat.reduceAdd, Nat.reduceEqDiff, reduceIte] at hk2; exact hk2
  · intro b g w hI hcl hbi hdp rest hre hkk
    obtain ⟨kp, hr0, hr1, hs0, hs1, zr0, zr1⟩ := hI; replace hbi : b 18 = false := hbi; have d12 := hdp 12 rfl; have d17 := hdp 17 rfl; simp only [d12, d17, hbi, pu, Nat.reduceAdd, Nat.reduceEqDiff, reduceIte]; refine F.oq rfl rfl rfl (by simp [go_sem]) fun d K h => ?_; go_simp; refine h _ ?_; clear h K d; try walk_nrm
    have hk2 := hkk g _ ⟨kp, hr0, hr1, hs0, hs1, zr0, zr1⟩; simp only [d12, d17, hbi, pu, Nat.reduceAdd, Nat.reduceEqDiff, reduceIte] at hk2; exact hk2
  · intro b g w hI hcl hbi hdp rest hre hkk
    obtain ⟨kp, hr0, hr1, hs0, hs1, zr0, zr1⟩ := hI; replace hbi : b 19 = false := hbi; have d18 := hdp 18 rfl; simp only [d18, hbi, pu, Nat.reduceAdd, Nat.reduceEqDiff, reduceIte]; refine F.oq rfl rfl rfl (by simp [go_sem]) fun d K h => ?_; go_simp; refine h _ ?_; clear h K d; try walk_nrm
    have hk2 := hkk g _ ⟨kp, hr0, hr1, hs0, hs1, zr0, zr1⟩; simp only [d18, hbi, pu, Nat.reduceAdd, Nat.reduceEqDiff, reduceIte] at hk2; exact hk2
  · intro b g w hI hcl hbi hdp rest hre hkk
    obtain ⟨kp, hr0, hr1, hs0, hs1, zr0, zr1⟩ := hI; replace hbi : b 20 = false := hbi; have d18 := hdp 18 rfl; have d19 := hdp 19 rfl; simp only [d18, d19, hbi, pu, Nat.reduceAdd, Nat.reduceEqDiff, reduceIte]; refine F.ol rfl rfl rfl fun d K h => ?_; go_simp; refine h _ (fun e m => ?_) ?_; simp [go_sem, *] at m; subst m; exact evr (w := w) (by assumption) (by first | assumption | (apply hfr <;> dsimp only <;> omega)); clear h K d; try walk_nrm
    have hk2 := hkk g _ ⟨kp, hr0, hr1, hs0, hs1, zr0, zr1⟩; simp only [d18, d19, hbi, pu, Nat.reduceAdd, Nat.reduceEqDiff, reduceIte] at hk2; exact hk2
  · intro b g w hI hcl hbi hdp rest hre hkk
    obtain ⟨kp, hr0, hr1, hs0, hs1, zr0, zr1⟩ := hI; replace hbi : b 21 = false := hbi; have d18 := hdp 18 rfl; have d20 := hdp 20 rfl; simp only [d18, d20, hbi, pu, Nat.reduceAdd, Nat.reduceEqDiff, reduceIte]; refine F.oq rfl rfl rfl (by simp [go_sem]) fun d K h => ?_; go_simp; refine h _ ?_; clear h K d; try walk_nrm
    have hk2 := hkk g _ ⟨kp, hr0, hr1, hs0, hs1, zr0, zr1⟩; simp only [d18, d20, hbi, pu, Nat.reduceAdd, Nat.reduceEqDiff, reduceIte] at hk2; exact hk2
  · intro b g w hI hcl hbi hdp rest hre hkk
    obtain ⟨kp, hr0, hr1, hs0, hs1, zr0, zr1⟩ := hI; replace hbi : b 22 = false := hbi; have d18 := hdp 18 rfl; have d21 := hdp 21 rfl; simp only [d18, d21, hbi, pu, Nat.reduceAdd, Nat.reduceEqDiff, reduceIte]; refine F.oq rfl rfl rfl (by simp [go_sem]) fun d K h => ?_; go_simp; refine h _ ?_; clear h K d; try walk_nrm
    have hk2 := hkk g _ ⟨kp, hr0, hr1, hs0, hs1, zr0, zr1⟩; simp only [d18, d21, hbi, pu, Nat.reduceAdd, Nat.reduceEqDiff, reduceIte] at hk2; exact hk2
  · intro b g w hI hcl hbi hdp rest hre hkk
    obtain ⟨kp, hr0, hr1, hs0, hs1, zr0, zr1⟩ := hI; replace hbi : b 23 = false := hbi; have d18 := hdp 18 rfl; have d22 := hdp 22 rfl; simp only [d18, d22, hbi, pu, Nat.reduceAdd, Nat.reduceEqDiff, reduceIte]; refine F.oq rfl rfl rfl (by simp [go_sem]) fun d K h => ?_; go_simp; refine h _ ?_; clear h K d; try walk_nrm
    have hk2 := hkk g _ ⟨kp, hr0, hr1, hs0, hs1, zr0, zr1⟩; simp only [d18, d22, hbi, pu, Nat.reduceAdd, Nat.reduceEqDiff, reduceIte] at hk2; exact hk2
  · intro b g w hI hcl hbi hdp rest hre hkk
    obtain ⟨kp, hr0, hr1, hs0, hs1, zr0, zr1⟩ := hI; replace hbi : b 24 = false := hbi; have d0 := hdp 0 rfl; have d18 := hdp 18 rfl; simp only [d0, d18, hbi, pu, Nat.reduceAdd, Nat.reduceEqDiff, reduceIte]; have hn1w : n1 < w.heap.size := lt_of_cell hr0; refine F.op rfl rfl (by decide) (fun d K hK => ?_); go_simp
    repeat rw [setCell_at']
    refine hK _ _ ⟨DX.set2 _ (by (first | assumption | (apply hfr <;> dsimp only <;> omega))) (by (first | assumption | (apply hfr <;> dsimp only <;> omega))) (fun e he => ?_), ?_⟩
    · have hm := mem_listed he
      simp [go_sem, storedEv, evst_slice, evst_ptr, evst_iface, evst_nil, evst_bool, *] at hm; rcases hm with rfl | rfl <;> exact .inl ⟨_, rfl, rfl, by (first | assumption | (apply hfr <;> dsimp only <;> omega)), by simp only [size_at, size_set]; first | omega | exact lt_of_cell (by assumption)⟩
    clear hK K d; try walk_nrm
    generalize ew8 : World.setCell w _ _ = w8; have sz8 := sz_st2 ew8; replace zr0 := fz_st zr0 ew8; replace zr1 := fz_st zr1 ew8; replace hr0 := cl_st' hr0 ew8; replace hr1 := cl_st hr1 ew8 (by simp <;> omega); replace hs0 := cl_st hs0 ew8 (by simp <;> omega); replace hs1 := cl_st hs1 ew8 (by simp <;> omega); replace kp := kp.stN ew8 (by first | (left; simp; done) | (right; left; simp; done) | (right; right; dsimp only; omega)); generalize ew9 : World.setCell w8 _ _ = w9; have sz9 := sz_st2 ew9; replace zr0 := fz_st zr0 ew9; replace zr1 := fz_st zr1 ew9; replace hr0 := cl_st hr0 ew9 (by simp <;> omega); replace hr1 := cl_st' hr1 ew9; replace hs0 := cl_st hs0 ew9 (by simp <;> omega); replace hs1 := cl_st hs1 ew9 (by simp <;> omega); replace kp := kp.stN ew9 (by first | (left; simp; done) | (right; left; simp; done) | (right; right; dsimp only; omega)); have hk2 := hkk g _ ⟨kp, hr0, hr1, hs0, hs1, zr0, zr1⟩; simp only [d0, d18, hbi, pu, Nat.reduceAdd, Nat.reduceEqDiff, reduceIte] at hk2; exact hk2
  · intro b g w hI hcl hbi hdp rest hre hkk
    obtain ⟨kp, hr0, hr1, hs0, hs1, zr0, zr1⟩ := hI; replace hbi : b 25 = false := hbi; have d0 := hdp 0 rfl; have d24 := hdp 24 rfl; simp only [d0, d24, hbi, pu, Nat.reduceAdd, Nat.reduceEqDiff, reduceIte]; refine F.oq rfl rfl rfl (by simp [go_sem]) fun d K h => ?_; go_simp; refine h _ ?_; clear h K d; try walk_nrm
    have hk2 := hkk g _ ⟨kp, hr0, hr1, hs0, hs1, zr0, zr1⟩; simp only [d0, d24, hbi, pu, Nat.reduceAdd, Nat.reduceEqDiff, reduceIte] at hk2; exact hk2
  · intro b g w hI hcl hbi hdp rest hre hkk
    obtain ⟨kp, hr0, hr1, hs0, hs1, zr0, zr1⟩ := hI; replace hbi : b 26 = false := hbi; have d0 := hdp 0 rfl; have d1 := hdp 1 rfl; have d2 := hdp 2 rfl; have d3 := hdp 3 rfl; have d4 := hdp 4 rfl; have d5 := hdp 5 rfl; have d6 := hdp 6 rfl; have d7 := hdp 7 rfl; have d8 := hdp 8 rfl; have d9 := hdp 9 rfl; have d10 := hdp 10 rfl; have d11 := hdp 11 rfl; have d12 := hdp 12 rfl; have d13 := hdp 13 rfl; have d14 := hdp 14 rfl; have d15 := hdp 15 rfl; have d16 := hdp 16 rfl; have d17 := hdp 17 rfl; have d18 := hdp 18 rfl; have d19 := hdp 19 rfl; have d20 := hdp 20 rfl; have d21 := hdp 21 rfl; have d22 := hdp 22 rfl; have d23 := hdp 23 rfl; have d24 := hdp 24 rfl; have d25 := hdp 25 rfl; simp only [d0, d1, d2, d3, d4, d5, d6, d7, d8, d9, d10, d11, d12, d13, d14, d15, d16, d17, d18, d19, d20, d21, d22, d23, d24, d25, hbi, pu, Nat.reduceAdd, Nat.reduceEqDiff, reduceIte]; refine F.oq rfl rfl rfl (by simp [go_sem]) fun d K h => ?_; go_simp; refine h _ ?_; clear h K d; try walk_nrm
    have hk2 := hkk g _ ⟨kp, hr0, hr1, hs0, hs1, zr0, zr1⟩; simp only [d0, d1, d2, d3, d4, d5, d6, d7, d8, d9, d10, d11, d12, d13, d14, d15, d16, d17, d18, d19, d20, d21, d22, d23, d24, d25, hbi, pu, Nat.reduceAdd, Nat.reduceEqDiff, reduceIte] at hk2; exact hk2
  intro b g w hI hall; obtain ⟨kp, hr0, hr1, hs0, hs1, zr0, zr1⟩ := hI; simp only [hall 0 (by decide), hall 1 (by decide), hall 2 (by decide), hall 3 (by decide), hall 4 (by decide), hall 5 (by decide), hall 6 (by decide), hall 7 (by decide), hall 8 (by decide), hall 9 (by decide), hall 10 (by decide), hall 11 (by decide), hall 12 (by decide), hall 13 (by decide), hall 14 (by decide), hall 15 (by decide), hall 16 (by decide), hall 17 (by decide), hall 18 (by decide), hall 19 (by decide), hall 20 (by decide), hall 21 (by decide), hall 22 (by decide), hall 23 (by decide), hall 24 (by decide), hall 25 (by decide), hall 26 (by decide), pu, Nat.reduceAdd, Nat.reduceEqDiff, reduceIte]; refine F.re ?_; refine F.ctl (fun _ => stepG_ret') ?_; refine F.leaveE (v := .tuple #[.agg #[.slice none 0 0, .slice none 0 0], .bool false, .bool true]) rfl rfl Tryz.func19 (fun d => ?_) (fun d es hes => DX.still _ (fun e he => ?_)) ?_
  · simp [results, go_sem, *]
  · have hm := hes e he
    simp [results, go_sem, *] at hm; rcases hm with rfl | rfl <;> exact .inl ⟨_, rfl, rfl, by assumption, lt_of_cell (by assumption)⟩
  have hks := kp.size; refine At.assume old_at (fun hO5 => ?_); exact hret ng1 [A1] _ hng1 (by simp; omega) hO5
end
end Go.Proofs.YtobagnjnbmgidaaGreatDoor
