/- Run without layers, for any number of clients. -/
import Derived.Test.YtobagnjnbmgidaaGreatDoorV24
import Derived.Test.YtobagnjnbmgidaaGreatDoorX37
set_option linter.unusedSimpArgs false
set_option linter.unusedVariables false
set_option maxHeartbeats 8000000
set_option maxRecDepth 100000
namespace Go.Proofs.YtobagnjnbmgidaaGreatDoor
open Go.Conc Go.RowKit
open Go.ConcN (sumTo upd sumTo_upd upd_ne upd_same)

section
variable {wI : World} {l : List Nat} {ng : Nat} {Post : Value → World → Prop}

theorem runN_at (sa : Option Addr) (n cap : Nat) (g : Nat → Cl) (w0 : World) (cR : Frame) (csR : List Frame) (hng : 0 < ng) (hl : ∀ B ∈ l, B < w0.heap.size) (h9 : n ≤ 9) (hC : ClsAt w0 sa n g) (hgood : ∀ j, j < n → (g j).good = true) (hoff : OffL l sa n g) (h0 : 0 < w0.heap.size) (vG : w0.cell? ⟨0, 0, none⟩ = some (.iface 217 (.agg #[.pointer (some ⟨1, 121, none⟩)])))
    (hret : ∀ ng' A O ev w', 0 < ng' → RunN w0 n g A O ev w' → At0 Tryz.prog Post (Old wI) (ShL (A :: l)) ng' (G (cR.finish (.tuple #[.agg #[.slice (some ⟨O, 0, none⟩) n n, ev], .int .i64 0, .int .i64 0])) csR) w') :
    At0 Tryz.prog Post (Old wI) (ShL l) ng (G (Frame.enter Tryz.prog 24 #[.slice none 0 0, .slice sa n cap] .normal) (cR :: csR)) w0 := by
  refine At.assume old_at (fun hO => ?_); refine At.keep (K' := Old w0) (fun d => Old.refl w0) ?_; replace hret : ∀ ng' A O ev w', 0 < ng' → RunN w0 n g A O ev w' → At0 Tryz.prog Post (Old w0) (ShL (A :: l)) ng' (G (cR.finish (.tuple #[.agg #[.slice (some ⟨O, 0, none⟩) n n, ev], .int .i64 0, .int .i64 0])) csR) w' := fun ng' A O ev w' h1 h2 => At.keep (fun d => hO.trans h2.old) (hret ng' A O ev w' h1 h2)
  have F := fut0 (P := Tryz.prog) (Post := Post) (wI := w0) (l := l) ng; have hfr : ∀ (a : Addr) (wr : Bool), w0.heap.size ≤ a.block → OkS w0.heap.size l [] a wr := fun a wr h => ok_fr (N := w0.heap.size) hl (Nat.le_refl _) h (by simp) wr
  have hrdC : RdC (OkS w0.heap.size l []) sa n g := ⟨fun p hp a ha => ok_rdb (ha ▸ hoff.1 p hp), fun i hi hnt p hp a ha => ok_rdb (ha ▸ hoff.2 i hi hnt p hp)⟩
  have hch : chk 0 (fun _ _ => 0) n g = (0, 0) := by
    have hb : ¬ badC g n 0 < n := fun z => by
      have : ∀ (m k : Nat), (∀ j, k ≤ j → j < k + m → (g j).good = true) → badC g m k = k + m := by
        intro m
        induction m with
        | zero => intro k _; rfl
        | succ m ih =>
          intro k hk; rw [badC, if_neg (by rw [hk k (Nat.le_refl _) (by omega)]; decide), ih (k + 1) fun j h1 h2 => hk j (by omega) (by omega)]; omega
      have := this n 0 fun j _ h => hgood j (by omega)
      omega
    simp [chk, badAt, show ¬ 9 < n by omega, hb]
  have kp : Kp [] w0 w0 := Kp.refl _; rw [enter_at _ Tryz.func24 rfl]; simp only [Tryz.ntmps24, List.size_toArray, List.length_cons, List.length_nil, Nat.reduceAdd, Nat.reduceSub, Array.replicate_succ, Array.replicate_zero, List.push_toArray, List.append_toArray, List.nil_append, List.cons_append]; refine F.sr ?_; simp only [rg, Nat.reduceAdd]; refine F.op rfl rfl (by decide) (fun d K hK => ?_); go_simp; rw [alloc_at']; refine hK _ _ ⟨DX.alloc _ _ (fun e he => ?_), ?_⟩
  · have hm := mem_listed he
    simp [go_sem] at hm
  clear hK K d; try walk_nrm
  generalize ew1 : World.alloc w0 _ = w1; generalize hn1 : (World.heap w0).size = n1; have sz1 := sz_al2 ew1 hn1; have hr0 := cl_new (i := 0) ew1 hn1 rfl; have zr0 := fz_new ew1 hn1 0; have hr1 := cl_new (i := 1) ew1 hn1 rfl; have zr1 := fz_new ew1 hn1 1; try simp only [List.getElem_toArray, List.getElem_cons_zero, List.getElem_cons_succ] at hr0 hr1
  replace kp := kp.alN ew1; iterate 2 (refine F.oq rfl rfl rfl (by simp [go_sem]) fun d K h => ?_; go_simp; refine h _ ?_; clear h K d; try walk_nrm)
  refine F.es ?_; refine F.sr ?_; simp only [rg, Nat.reduceAdd]; iterate 2 (refine F.oq rfl rfl rfl (by simp [go_sem]) fun d K h => ?_; go_simp; refine h _ ?_; clear h K d; try walk_nrm)
  have hk0 : w0.heap.size ≤ w1.heap.size := kp.size; refine F.enter rfl rfl (by decide) (fun _ => run_call_body rfl Tryz.func16 (by rfl) (by rfl)) (fun _ => events_call_body rfl Tryz.func16 (by rfl) (by rfl) _) ?_; walk_nrm; refine check_x (Ok := OkS w0.heap.size l []) w0.heap.size 0 0 n cap none sa (fun _ _ => 0) g w1 hk0 (fun i hi => absurd hi (Nat.not_lt_zero _)) (hC.kp kp) (fun p hp => by cases hp) hrdC hfr _ F _ _ (fun v w2 hp => ?_); rw [hch] at hp; obtain ⟨rfl, k1⟩ := hp; replace zr0 := (Kp.frozC k1 _ _ (by simp only [List.mem_cons, List.not_mem_nil, or_false, not_or]; first | omega | simp_all | (refine ⟨?_, ?_⟩ <;> first | omega | assumption) | assumption) (by first | (simp; done) | (simp; omega)) hr0).trans zr0; replace zr1 := (Kp.frozC k1 _ _ (by simp only [List.mem_cons, List.not_mem_nil, or_false, not_or]; first | omega | simp_all | (refine ⟨?_, ?_⟩ <;> first | omega | assumption) | assumption) (by first | (simp; done) | (simp; omega)) hr1).trans zr1; replace hr0 := Kp.cellC k1 _ _ (by simp only [List.mem_cons, List.not_mem_nil, or_false, not_or]; first | omega | simp_all | (refine ⟨?_, ?_⟩ <;> first | omega | assumption) | assumption) (by first | (simp; done) | (simp; omega)) hr0; replace hr1 := Kp.cellC k1 _ _ (by simp only [List.mem_cons, List.not_mem_nil, or_false, not_or]; first | omega | simp_all | (refine ⟨?_, ?_⟩ <;> first | omega | assumption) | assumption) (by first | (simp; done) | (simp; omega)) hr1; replace kp := kp.callN (k1) (by intro x hx; first | (exact absurd hx List.not_mem_nil) | (simp at hx; first | (left; simp [hx]; done) | (right; omega) | (rcases hx with rfl | hx <;> first | (left; simp; done) | (left; simp [hx]; done) | (right; omega)))) (by intro x hx; simp at hx; try (subst hx); first | (left; simp; done) | (right; left; simp; done) | (right; right; dsimp only; omega))
  rw [Frame.finish_at]; try walk_nrm
  iterate 5 (refine F.oq rfl rfl rfl (by simp [go_sem]) fun d K h => ?_; go_simp; refine h _ ?_; clear h K d; try walk_nrm)
  refine F.esr ?_; simp only [rg, Nat.reduceAdd]; iterate 2 (refine F.oq rfl rfl rfl (by simp [go_sem]) fun d K h => ?_; go_simp; refine h _ ?_; clear h K d; try walk_nrm)
  refine F.re ?_; refine F.cf rfl ?_; refine F.sk ?_; refine F.sr ?_; simp only [rg, Nat.reduceAdd]; refine F.op rfl rfl (by decide) (fun d K hK => ?_); go_simp; rw [alloc_at']; refine hK _ _ ⟨DX.alloc _ _ (fun e he => ?_), ?_⟩
  · have hm := mem_listed he
    simp [go_sem] at hm
  clear hK K d; try walk_nrm
  generalize ew3 : World.alloc w2 _ = w3; generalize hn3 : (World.heap w2).size = n3; have sz3 := sz_al2 ew3 hn3; replace zr0 := fz_al zr0 hr0 ew3; replace zr1 := fz_al zr1 hr1 ew3; replace hr0 := cl_al hr0 ew3; replace hr1 := cl_al hr1 ew3; have hj0 := cl_new (i := 0) ew3 hn3 rfl; have zj0 := fz_new ew3 hn3 0; try simp only [List.getElem_toArray, List.getElem_cons_zero, List.getElem_cons_succ] at hj0
  replace kp := kp.alN ew3; refine F.esr ?_; simp only [rg, Nat.reduceAdd]; iterate 2 (refine F.oq rfl rfl rfl (by simp [go_sem]) fun d K h => ?_; go_simp; refine h _ ?_; clear h K d; try walk_nrm)
  have q1 : w0.heap.size ≤ n1 ∧ n1 < n3 ∧ n3 < w3.heap.size := by have := k1.size; exact ⟨by omega, by omega, by omega⟩
  clear hn1 hn3 sz1 sz3 ew1 ew3 k1 hk0; refine F.enter rfl rfl (by decide) (fun _ => run_call_body rfl Tryz.func34 (by rfl) (by rfl)) (fun _ => events_call_body rfl Tryz.func34 (by rfl) (by rfl) _) ?_; walk_nrm; refine stackN_x n3 sa n cap w3 h9 _ F _ _ (fun v w4 hp => ?_); obtain ⟨B, HD, rfl, k2, g1, g2, g3, bn⟩ := hp; replace zr0 := (Kp.frozC k2 _ _ (by simp only [List.mem_cons, List.not_mem_nil, or_false, not_or]; first | omega | simp_all | (refine ⟨?_, ?_⟩ <;> first | omega | assumption) | assumption) (by first | (simp; done) | (simp; omega)) hr0).trans zr0; replace zr1 := (Kp.frozC k2 _ _ (by simp only [List.mem_cons, List.not_mem_nil, or_false, not_or]; first | omega | simp_all | (refine ⟨?_, ?_⟩ <;> first | omega | assumption) | assumption) (by first | (simp; done) | (simp; omega)) hr1).trans zr1; replace zj0 := (Kp.frozC k2 _ _ (by simp only [List.mem_cons, List.not_mem_nil, or_false, not_or]; first | omega | simp_all | (refine ⟨?_, ?_⟩ <;> first | omega | assumption) | assumption) (by first | (simp; done) | (simp; omega)) hj0).trans zj0; replace hr0 := Kp.cellC k2 _ _ (by simp only [List.mem_cons, List.not_mem_nil, or_false, not_or]; first | omega | simp_all | (refine ⟨?_, ?_⟩ <;> first | omega | assumption) | assumption) (by first | (simp; done) | (simp; omega)) hr0; replace hr1 := Kp.cellC k2 _ _ (by simp only [List.mem_cons, List.not_mem_nil, or_false, not_or]; first | omega | simp_all | (refine ⟨?_, ?_⟩ <;> first | omega | assumption) | assumption) (by first | (simp; done) | (simp; omega)) hr1
  replace hj0 := Kp.cellC k2 _ _ (by simp only [List.mem_cons, List.not_mem_nil, or_false, not_or]; first | omega | simp_all | (refine ⟨?_, ?_⟩ <;> first | omega | assumption) | assumption) (by first | (simp; done) | (simp; omega)) hj0; replace kp := kp.callN (k2) (by intro x hx; first | (exact absurd hx List.not_mem_nil) | (simp at hx; first | (left; simp [hx]; done) | (right; omega) | (rcases hx with rfl | hx <;> first | (left; simp; done) | (left; simp [hx]; done) | (right; omega)))) (by intro x hx; simp at hx; try (subst hx); first | (left; simp; done) | (right; left; simp; done) | (right; right; dsimp only; omega)); have q2 : n3 < HD ∧ HD < B ∧ B < w4.heap.size := ⟨by omega, g2, g3⟩; clear g1 g2 g3 k2; rw [Frame.finish_at]; try walk_nrm
  refine F.op rfl rfl (by decide) (fun d K hK => ?_); go_simp; rw [alloc_at']; refine hK _ _ ⟨DX.alloc _ _ (fun e he => ?_), ?_⟩
  · have hm := mem_listed he
    simp [go_sem] at hm
  clear hK K d; try walk_nrm
  generalize ew5 : World.alloc w4 _ = w5; generalize hn5 : (World.heap w4).size = n5; have sz5 := sz_al2 ew5 hn5; replace zr0 := fz_al zr0 hr0 ew5; replace zr1 := fz_al zr1 hr1 ew5; replace zj0 := fz_al zj0 hj0 ew5; replace hr0 := cl_al hr0 ew5; replace hr1 := cl_al hr1 ew5; replace hj0 := cl_al hj0 ew5; have hv0 := cl_new (i := 0) ew5 hn5 rfl; have zv0 := fz_new ew5 hn5 0; try simp only [List.getElem_toArray, List.getElem_cons_zero, List.getElem_cons_succ] at hv0
  replace kp := kp.alN ew5; refine F.op rfl rfl (by decide) (fun d K hK => ?_); go_simp; rw [setCell_at']; refine hK _ _ ⟨DX.set _ (by (first | assumption | exact hrb _ rfl | (apply hfr <;> dsimp only <;> omega))) (fun e he => ?_), ?_⟩
  · have hm := mem_listed he
    simp [go_sem, storedEv, evst_slice, evst_ptr, evst_iface, evst_nil, evst_bool, evst_func, *] at hm; subst hm; exact .inl ⟨_, rfl, rfl, by (first | assumption | exact hrb _ rfl | (apply hfr <;> dsimp only <;> omega)), by simp only [size_at, size_set]; first | omega | exact lt_of_cell (by assumption)⟩
  clear hK K d; try walk_nrm
  generalize ew6 : World.setCell w5 _ _ = w6; have sz6 := sz_st2 ew6; replace zr0 := fz_st zr0 ew6; replace zr1 := fz_st zr1 ew6; replace zj0 := fz_st zj0 ew6; replace zv0 := fz_st zv0 ew6; replace hr0 := cl_st hr0 ew6 (by simp <;> omega); replace hr1 := cl_st hr1 ew6 (by simp <;> omega); replace hj0 := cl_st hj0 ew6 (by simp <;> omega); replace hv0 := cl_st' hv0 ew6; replace kp := kp.stN ew6 (by first | (left; simp; done) | (right; left; simp; done) | (right; right; dsimp only; omega)); refine F.esr ?_; simp only [rg, Nat.reduceAdd]; iterate 2 (refine F.oq rfl rfl rfl (by simp [go_sem]) fun d K h => ?_; go_simp; refine h _ ?_; clear h K d; try walk_nrm)
  have kz : Kp [] w4 w6 := (Kp.alloc (L := []) ew5).stN ew6 (.inr (.inr (by dsimp only; omega))); have q3 : B < n5 ∧ n5 < w6.heap.size := by have := (Kp.setC ew6).size; exact ⟨by omega, by omega⟩
  clear hn5 sz5 ew5 ew6; refine F.op rfl rfl (by decide) (fun d K hK => ?_); go_simp; rw [mkO n h9]; go_simp; rw [alloc_at']; refine hK _ _ ⟨DX.alloc _ _ (fun e he => ?_), ?_⟩
  · have hm := mem_listed he
    simp [go_sem, mkO n h9, mkOe n h9] at hm
  clear hK K d; try walk_nrm
  generalize ew7 : World.alloc w6 _ = w7; generalize hn7 : (World.heap w6).size = n7; have sz7 := sz_al2 ew7 hn7; replace kp := kp.alN ew7; replace kz := kz.alN ew7
  have zO : ∀ j, j < n → OutAt w7 n7 j 0 0 0 none 0 0 ∧ ∀ x ∈ outC n7 j, w7.frozen? x = false := fun j hj => by
    obtain ⟨c0, c1, c2, c3⟩ := zoL_at n j hj; refine ⟨⟨cl_new ew7 hn7 (by simpa using c0), cl_new ew7 hn7 (by simpa using c1), cl_new ew7 hn7 (by simpa using c2), cl_new ew7 hn7 (by simpa using c3)⟩, fun x hx => ?_⟩; simp only [outC, List.mem_cons, List.not_mem_nil, or_false] at hx; rcases hx with rfl | rfl | rfl | rfl <;> exact fz_new ew7 hn7 _
  have k7 : Kp [] w6 w7 := Kp.alloc ew7; replace zr0 := (k7.froz _ _ (by simp) hr0).trans zr0; replace zr1 := (k7.froz _ _ (by simp) hr1).trans zr1; replace zj0 := (k7.froz _ _ (by simp) hj0).trans zj0; replace hr0 := k7.cell _ _ (by simp) hr0; replace hr1 := k7.cell _ _ (by simp) hr1; replace hj0 := k7.cell _ _ (by simp) hj0; replace hv0 := k7.cell _ _ (by simp) hv0; refine F.op rfl rfl (by decide) (fun d K hK => ?_); go_simp; rw [alloc_at']; refine hK _ _ ⟨DX.alloc _ _ (fun e he => ?_), ?_⟩
  · have hm := mem_listed he
    simp [go_sem] at hm
  clear hK K d; try walk_nrm
  generalize ew8 : World.alloc w7 _ = w8; generalize hn8 : (World.heap w7).size = n8; have sz8 := sz_al2 ew8 hn8; replace zr0 := fz_al zr0 hr0 ew8; replace zr1 := fz_al zr1 hr1 ew8; replace zj0 := fz_al zj0 hj0 ew8; replace hr0 := cl_al hr0 ew8; replace hr1 := cl_al hr1 ew8; replace hj0 := cl_al hj0 ew8; replace hv0 := cl_al hv0 ew8; have hq0 := cl_new (i := 0) ew8 hn8 rfl; have zq0 := fz_new ew8 hn8 0; try simp only [List.getElem_toArray, List.getElem_cons_zero, List.getElem_cons_succ] at hq0
  replace kp := kp.alN ew8; refine F.op rfl rfl (by decide) (fun d K hK => ?_); go_simp; rw [setCell_at']; refine hK _ _ ⟨DX.set _ (by (first | assumption | exact hrb _ rfl | (apply hfr <;> dsimp only <;> omega))) (fun e he => ?_), ?_⟩
  · have hm := mem_listed he
    simp [go_sem, storedEv, evst_slice, evst_ptr, evst_iface, evst_nil, evst_bool, evst_func, *] at hm; subst hm; exact .inl ⟨_, rfl, rfl, by (first | assumption | exact hrb _ rfl | (apply hfr <;> dsimp only <;> omega)), by simp only [size_at, size_set]; first | omega | exact lt_of_cell (by assumption)⟩
  clear hK K d; try walk_nrm
  generalize ew9 : World.setCell w8 _ _ = w9; have sz9 := sz_st2 ew9; replace zr0 := fz_st zr0 ew9; replace zr1 := fz_st zr1 ew9; replace zj0 := fz_st zj0 ew9; replace zq0 := fz_st zq0 ew9; replace hr0 := cl_st hr0 ew9 (by simp <;> omega); replace hr1 := cl_st hr1 ew9 (by simp <;> omega); replace hj0 := cl_st hj0 ew9 (by simp <;> omega); replace hv0 := cl_st hv0 ew9 (by simp <;> omega); replace hq0 := cl_st' hq0 ew9; replace kp := kp.stN ew9 (by first | (left; simp; done) | (right; left; simp; done) | (right; right; dsimp only; omega)); refine F.esr ?_; simp only [rg, Nat.reduceAdd]; have ky : Kp [] w7 w9 := (Kp.alloc (L := []) ew8).stN ew9 (.inr (.inr (by dsimp only; omega))); replace kz := kz.callN ky (by simp) (by simp); have q4 : n5 < n7 ∧ n7 < n8 ∧ n8 < w9.heap.size := by have := (Kp.setC ew9).size; exact ⟨by omega, by omega, by omega⟩
  clear hn7 hn8 sz7 sz8 ew7 ew8 ew9 k7; have hz9 : w0.heap.size ≤ w9.heap.size := kp.size; refine At.shun (Shun' := ShL ((w9.heap.size + 2) :: l)) (fun x h => shl_cons h) (fun x h => (shl_new h).imp id fun ⟨a, e1, e2⟩ => ⟨a, e1, by omega⟩) ?_; clear F hfr hrdC; have F := fut0 (P := Tryz.prog) (Post := Post) (wI := w0) (l := (w9.heap.size + 2) :: l) ng; refine F.enter rfl rfl (by decide) (fun _ => run_call_body rfl Tryz.func35 (by rfl) (by rfl)) (fun _ => events_call_body rfl Tryz.func35 (by rfl) (by rfl) _) ?_; walk_nrm; refine new_agenda_x w9 _ F _ _ (fun v w10 hp => ?_); obtain ⟨wc, ec, rfl, k3, e1, e2, e3, e4, e5, e6, oc1, oc2, ag⟩ := hp; have q5 : w9.heap.size ≤ wc ∧ wc < w9.heap.size + 2 ∧ w9.heap.size ≤ ec ∧ ec < w9.heap.size + 2 ∧ w9.heap.size + 2 < w10.heap.size ∧ w10.heap.size ≤ w9.heap.size + 3 := ⟨e2, e3, e4, e5, by omega, by omega⟩; clear e1 e2 e3 e4 e5; generalize hA : w9.heap.size + 2 = A at *; have q6 : n8 < wc ∧ wc < A ∧ n8 < ec ∧ ec < A ∧ A < w10.heap.size ∧ w10.heap.size ≤ A + 1 := by omega
  clear q5 hA hz9; replace zr0 := (Kp.frozC k3 _ _ (by simp only [List.mem_cons, List.not_mem_nil, or_false, not_or]; first | omega | simp_all | (refine ⟨?_, ?_⟩ <;> first | omega | assumption) | assumption) (by first | (simp; done) | (simp; omega)) hr0).trans zr0; replace zr1 := (Kp.frozC k3 _ _ (by simp only [List.mem_cons, List.not_mem_nil, or_false, not_or]; first | omega | simp_all | (refine ⟨?_, ?_⟩ <;> first | omega | assumption) | assumption) (by first | (simp; done) | (simp; omega)) hr1).trans zr1; replace zj0 := (Kp.frozC k3 _ _ (by simp only [List.mem_cons, List.not_mem_nil, or_false, not_or]; first | omega | simp_all | (refine ⟨?_, ?_⟩ <;> first | omega | assumption) | assumption) (by first | (simp; done) | (simp; omega)) hj0).trans zj0; replace zq0 := (Kp.frozC k3 _ _ (by simp only [List.mem_cons, List.not_mem_nil, or_false, not_or]; first | omega | simp_all | (refine ⟨?_, ?_⟩ <;> first | omega | assumption) | assumption) (by first | (simp; done) | (simp; omega)) hq0).trans zq0; replace hr0 := Kp.cellC k3 _ _ (by simp only [List.mem_cons, List.not_mem_nil, or_false, not_or]; first | omega | simp_all | (refine ⟨?_, ?_⟩ <;> first | omega | assumption) | assumption) (by first | (simp; done) | (simp; omega)) hr0; replace hr1 := Kp.cellC k3 _ _ (by simp only [List.mem_cons, List.not_mem_nil, or_false, not_or]; first | omega | simp_all | (refine ⟨?_, ?_⟩ <;> first | omega | assumption) | assumption) (by first | (simp; done) | (simp; omega)) hr1; replace hj0 := Kp.cellC k3 _ _ (by simp only [List.mem_cons, List.not_mem_nil, or_false, not_or]; first | omega | simp_all | (refine ⟨?_, ?_⟩ <;> first | omega | assumption) | assumption) (by first | (simp; done) | (simp; omega)) hj0
  replace hv0 := Kp.cellC k3 _ _ (by simp only [List.mem_cons, List.not_mem_nil, or_false, not_or]; first | omega | simp_all | (refine ⟨?_, ?_⟩ <;> first | omega | assumption) | assumption) (by first | (simp; done) | (simp; omega)) hv0; replace hq0 := Kp.cellC k3 _ _ (by simp only [List.mem_cons, List.not_mem_nil, or_false, not_or]; first | omega | simp_all | (refine ⟨?_, ?_⟩ <;> first | omega | assumption) | assumption) (by first | (simp; done) | (simp; omega)) hq0; replace kp := kp.callN (k3) (by intro x hx; first | (exact absurd hx List.not_mem_nil) | (simp at hx; first | (left; simp [hx]; done) | (right; omega) | (rcases hx with rfl | hx <;> first | (left; simp; done) | (left; simp [hx]; done) | (right; omega)))) (by intro x hx; simp at hx; try (subst hx); first | (left; simp; done) | (right; left; simp; done) | (right; right; dsimp only; omega)); replace kz := kz.callN k3 (by simp) (by simp); replace ky := ky.callN k3 (by simp) (by simp); clear k3
  have hl' : ∀ B ∈ A :: l, B < w10.heap.size := fun B hB => by
    rcases List.mem_cons.1 hB with rfl | hB
    · omega
    · have := hl B hB; omega
  have hfr : ∀ (a : Addr) (wr : Bool), w10.heap.size ≤ a.block → OkS w0.heap.size (A :: l) [] a wr := fun a wr h => ok_fr (N := w10.heap.size) hl' (by omega) h (by simp) wr
  rw [Frame.finish_at]; try walk_nrm
  refine F.oq rfl rfl rfl (by simp [go_sem]) fun d K h => ?_; go_simp; refine h _ ?_; clear h K d; try walk_nrm
  refine F.es ?_; refine F.sr ?_; simp only [rg, Nat.reduceAdd]; iterate 3 (refine F.oq rfl rfl rfl (by simp [go_sem]) fun d K h => ?_; go_simp; refine h _ ?_; clear h K d; try walk_nrm)
  refine F.re ?_; refine F.bl ?_; refine F.ctl (fun _ => stepG_loop) ?_; have L0 : LpN w10 A wc ec n5 n8 g 0 ⟨fun _ => 0, fun _ => 0, fun _ => 0, fun _ => 0, fun _ => 0, fun _ => 0⟩ [] (.slice none 0 0) w10 := ⟨Kp.refl _, ag.a1, ag.z 1, ag.a2, ag.z 2, ⟨(fun e he => by cases he), .inl ⟨rfl, rfl⟩⟩, List.nodup_nil, fun j => by simp, rfl, fun j hj => absurd hj (Nat.not_lt_zero _), fun j hj => absurd hj (Nat.not_lt_zero _), fun i hi => absurd hi (Nat.not_lt_zero _), fun j hj => absurd hj (Nat.not_lt_zero _), oc1, oc2⟩; refine loopN n (fun k a w => ∃ (y : Int) (x2 x3 x7 x8 x13 x14 x15 x16 x17 x18 x19 x20 x21 x22 x23 x24 x25 x26 x27 x28 x29 x30 x31 x32 x36 x37 x38 x39 x40 x41 x42 x43 x44 x45 x46 x47 x48 x49 x50 x51 x52 : Value) (f : Cbs) (js : List Nat) (en : Value), a = ⟨List.toArray (.slice none 0 0 :: .slice sa n cap :: x2 :: x3 :: .pointer (some ⟨n1, 0, none⟩) :: .int .i64 0 :: .int .i64 0 :: x7 :: x8 :: .pointer (some ⟨n3, 0, none⟩) :: .pointer (some ⟨n5, 0, none⟩) :: .pointer (some ⟨n8, 0, none⟩) :: .pointer (some ⟨A, 0, none⟩) :: x13 :: x14 :: x15 :: x16 :: x17 :: x18 :: x19 :: x20 :: x21 :: x22 :: x23 :: x24 :: x25 :: x26 :: x27 :: x28 :: x29 :: x30 :: x31 :: x32 :: .slice sa n cap :: .int .i64 (n : Int) :: .int .i64 y :: x36 :: x37 :: x38 :: x39 :: x40 :: x41 :: x42 :: x43 :: x44 :: x45 :: x46 :: x47 :: x48 :: x49 :: x50 :: x51 :: x52 :: []), []⟩ ∧ y = k ∧ LpN w10 A wc ec n5 n8 g k f js en w) ?_ ?_ ⟨0, _, _, _, _, _, _, _, _, _, _, _, _, _, _, _, _, _, _, _, _, _, _, _, _, _, _, _, _, _, _, _, _, _, _, _, _, _, _, _, _, _, _, _, _, rfl, rfl, L0⟩
  · intro k a w hk hI hnext
    obtain ⟨y, x2, x3, x7, x8, x13, x14, x15, x16, x17, x18, x19, x20, x21, x22, x23, x24, x25, x26, x27, x28, x29, x30, x31, x32, x36, x37, x38, x39, x40, x41, x42, x43, x44, x45, x46, x47, x48, x49, x50, x51, x52, f, js, en, rfl, rfl, LP⟩ := hI; obtain ⟨pb, po, rfl, l0, l1, hT⟩ := hC k hk
    have hrb : ∀ a : Addr, a.block = pb → OkS w0.heap.size (A :: l) [] a false := fun a ha => ok_rdb (fun z => by
      rcases List.mem_cons.1 z with z | z
      · have : pb < w0.heap.size := lt_of_cell l0
        omega
      · exact hoff.1 _ rfl (ha ▸ z))
    have hk' : (k : Int) < (n : Int) := by omega
    have hk0 : (0 : Int) ≤ (k : Int) := by omega
    have hwk : IntKind.i64.wrap ((k : Int) + 1) = (k : Int) + 1 := wr (by omega) (by omega); have hAf : ∀ x ∈ [(⟨A, 1, none⟩ : Addr), ⟨A, 2, none⟩], x.block = A := by intro x hx; simp at hx; rcases hx with rfl | rfl <;> rfl
    have kpw : Kp [] w0 w := kp.callN LP.kp (by simp) (fun x hx => .inr (.inr (by rw [hAf x hx]; omega))); have l0 := kpw.cell _ _ (by simp) l0; have l1 := kpw.cell _ _ (by simp) l1; have hsz := LP.kp.size; clear hr0 hr1 hj0 hv0 hq0 zr0 zr1 zj0 zq0 zv0 ag oc1 oc2 L0 bn zO kz ky; clear kp; have kp : Kp [] w w := Kp.refl _; refine F.sr ?_; simp only [rg, Nat.reduceAdd]; refine F.oq rfl rfl rfl (by simp [go_sem]) fun d K h => ?_; go_simp; refine h _ ?_; clear h K d; try walk_nrm
    refine F.es ?_; refine F.ct rfl ?_; refine F.sk ?_; refine F.sq ?_; refine F.bl ?_; refine F.sr ?_; simp only [rg, Nat.reduceAdd]; iterate 2 (refine F.oq rfl rfl rfl (fun _ => by first | (simp [go_sem]; done) | simp [go_sem, Instr.makeInterface, Instr.makeFunc, *]) fun d K hK => ?_; go_simp; refine hK _ ?_; clear hK K d; try walk_nrm)
    refine F.ol rfl rfl rfl fun d K hK => ?_
    go_simp; refine hK _ (fun e hm => ?_) ?_
    · simp [go_sem, *] at hm
      rcases hm with rfl | rfl <;> exact evr (w := w) (by assumption) (by first | assumption | exact hrb _ rfl | (apply hfr <;> dsimp only <;> omega))
    clear hK K d; try walk_nrm
    clear l0 l1; refine F.op rfl rfl (by decide) (fun d K hK => ?_); go_simp; rw [alloc_at']; refine hK _ _ ⟨DX.alloc _ _ (fun e he => ?_), ?_⟩
    · have hm := mem_listed he
      simp [go_sem] at hm
    clear hK K d; try walk_nrm
    generalize ew11 : World.alloc w _ = w11; generalize hn11 : (World.heap w).size = n11; have sz11 := sz_al2 ew11 hn11; have hi0 := cl_new (i := 0) ew11 hn11 rfl; have zi0 := fz_new ew11 hn11 0; try simp only [List.getElem_toArray, List.getElem_cons_zero, List.getElem_cons_succ] at hi0
    replace kp := kp.alN ew11; refine F.op rfl rfl (by decide) (fun d K hK => ?_); go_simp; rw [alloc_at']; refine hK _ _ ⟨DX.alloc _ _ (fun e he => ?_), ?_⟩
    · have hm := mem_listed he
      simp [go_sem] at hm
    clear hK K d; try walk_nrm
    generalize ew12 : World.alloc w11 _ = w12; generalize hn12 : (World.heap w11).size = n12; have sz12 := sz_al2 ew12 hn12; replace zi0 := fz_al zi0 hi0 ew12; replace hi0 := cl_al hi0 ew12; have hc0 := cl_new (i := 0) ew12 hn12 rfl; have zc0 := fz_new ew12 hn12 0; have hc1 := cl_new (i := 1) ew12 hn12 rfl; have zc1 := fz_new ew12 hn12 1; try simp only [List.getElem_toArray, List.getElem_cons_zero, List.getElem_cons_succ] at hc0 hc1
    replace kp := kp.alN ew12; refine F.op rfl rfl (by decide) (fun d K hK => ?_); go_simp; rw [setCell_at']; refine hK _ _ ⟨DX.set _ (by (first | assumption | exact hrb _ rfl | (apply hfr <;> dsimp only <;> omega))) (fun e he => ?_), ?_⟩
    · have hm := mem_listed he
      simp [go_sem, storedEv, evst_slice, evst_ptr, evst_iface, evst_nil, evst_bool, evst_func, *] at hm; subst hm; exact .inl ⟨_, rfl, rfl, by (first | assumption | exact hrb _ rfl | (apply hfr <;> dsimp only <;> omega)), by simp only [size_at, size_set]; first | omega | exact lt_of_cell (by assumption)⟩
    clear hK K d; try walk_nrm
    generalize ew13 : World.setCell w12 _ _ = w13; have sz13 := sz_st2 ew13; replace zi0 := fz_st zi0 ew13; replace zc0 := fz_st zc0 ew13; replace zc1 := fz_st zc1 ew13; replace hi0 := cl_st' hi0 ew13; replace hc0 := cl_st hc0 ew13 (by simp <;> omega); replace hc1 := cl_st hc1 ew13 (by simp <;> omega); replace kp := kp.stN ew13 (by first | (left; simp; done) | (right; left; simp; done) | (right; right; dsimp only; omega)); refine F.op rfl rfl (by decide) (fun d K hK => ?_); go_simp
    repeat rw [setCell_at']
    refine hK _ _ ⟨DX.set2 _ (by (first | assumption | exact hrb _ rfl | (apply hfr <;> dsimp only <;> omega))) (by (first | assumption | exact hrb _ rfl | (apply hfr <;> dsimp only <;> omega))) (fun e he => ?_), ?_⟩
    · have hm := mem_listed he
      simp [go_sem, storedEv, evst_slice, evst_ptr, evst_iface, evst_nil, evst_bool, evst_func, *] at hm; rcases hm with rfl | rfl <;> exact .inl ⟨_, rfl, rfl, by (first | assumption | exact hrb _ rfl | (apply hfr <;> dsimp only <;> omega)), by simp only [size_at, size_set]; first | omega | exact lt_of_cell (by assumption)⟩
    clear hK K d; try walk_nrm
    generalize ew14 : World.setCell w13 _ _ = w14; have sz14 := sz_st2 ew14; replace zi0 := fz_st zi0 ew14; replace zc0 := fz_st zc0 ew14; replace zc1 := fz_st zc1 ew14; replace hi0 := cl_st hi0 ew14 (by simp <;> omega); replace hc0 := cl_st' hc0 ew14; replace hc1 := cl_st hc1 ew14 (by simp <;> omega); replace kp := kp.stN ew14 (by first | (left; simp; done) | (right; left; simp; done) | (right; right; dsimp only; omega)); generalize ew15 : World.setCell w14 _ _ = w15; have sz15 := sz_st2 ew15; replace zi0 := fz_st zi0 ew15; replace zc0 := fz_st zc0 ew15; replace zc1 := fz_st zc1 ew15; replace hi0 := cl_st hi0 ew15 (by simp <;> omega); replace hc0 := cl_st hc0 ew15 (by simp <;> omega); replace hc1 := cl_st' hc1 ew15; replace kp := kp.stN ew15 (by first | (left; simp; done) | (right; left; simp; done) | (right; right; dsimp only; omega)); refine F.er ?_; simp only [rg, Nat.reduceAdd]; refine F.oq rfl rfl rfl (by simp [go_sem]) fun d K h => ?_; go_simp; refine h _ ?_; clear h K d; try walk_nrm
    refine F.ol rfl rfl rfl fun d K h => ?_; go_simp; refine h _ (fun e m => ?_) ?_; simp [go_sem, *] at m; subst m; exact evr (w := w15) (by assumption) (by first | assumption | exact hrb _ rfl | (apply hfr <;> dsimp only <;> omega)); clear h K d; try walk_nrm
    refine F.oq rfl rfl rfl (by simp [go_sem]) fun d K h => ?_; go_simp; refine h _ ?_; clear h K d; try walk_nrm
    refine F.ol rfl rfl rfl fun d K h => ?_; go_simp; refine h _ (fun e m => ?_) ?_; simp [go_sem, *] at m; subst m; exact evr (w := w15) (by assumption) (by first | assumption | exact hrb _ rfl | (apply hfr <;> dsimp only <;> omega)); clear h K d; try walk_nrm
    refine F.oq rfl rfl rfl (by simp [go_sem]) fun d K h => ?_; go_simp; refine h _ ?_; clear h K d; try walk_nrm
    have ka : Kp [] w w15 := ((((Kp.alloc (L := []) ew11).alN ew12).stN ew13 (.inr (.inr (by dsimp only; omega)))).stN ew14 (.inr (.inr (by dsimp only; omega)))).stN ew15 (.inr (.inr (by dsimp only; omega))); have q7 : w.heap.size ≤ n11 ∧ n11 < w15.heap.size := by have := (Kp.setC ew13).size; have := (Kp.setC ew14).size; have := (Kp.setC ew15).size; exact ⟨by omega, by omega⟩
    have occ : OpenCh w15 wc ∧ OpenCh w15 ec ∧ ∀ j, j < k → OpenCh w15 (f.tch j) :=
      ⟨((((LP.o1.al ew11).al ew12).st ew13).st ew14).st ew15, ((((LP.o2.al ew11).al ew12).st ew13).st ew14).st ew15, fun j hj => (((((LP.cli j hj).ch.al ew11).al ew12).st ew13).st ew14).st ew15⟩
    clear ew11 ew12 ew13 ew14 ew15 hn11 hn12 sz11 sz12 hc0 hc1 zc0 zc1; have hs15 : w.heap.size ≤ w15.heap.size := ka.size; have he15 := ka.ents LP.ent (fun b hb => ⟨by simp, by simp⟩); have b1 := ka.cell _ _ (by simp) LP.a1; have b2 := ka.cell _ _ (by simp) LP.a2; have y1 := (ka.froz _ _ (by simp) LP.a1).trans LP.z1; have y2 := (ka.froz _ _ (by simp) LP.a2).trans LP.z2; have IA : w0.heap.size ≤ A := by omega
    have hlen : (js.map (entN f g)).length < 900 := by rw [List.length_map, LP.len]; omega
    refine F.enter rfl rfl (by decide) (fun _ => run_call_body rfl Tryz.func36 (by rfl) (by rfl)) (fun _ => events_call_body rfl Tryz.func36 (by rfl) (by rfl) _) ?_; walk_nrm; refine (CallsX.keep (R := fun w => OpenCh w wc ∧ OpenCh w ec ∧ ∀ j, j < k → OpenCh w (f.tch j)) (fun _ _ h => h) (fun _ _ _ D h => ⟨h.1.dx D, h.2.1.dx D, fun j hj => (h.2.2 j hj).dx D⟩) (beginQ_x w10.heap.size A n5 n8 n11 k k (g k).st en (js.map (entN f g)) w15 (by omega) (by omega) he15 hlen (by omega) b1 b2 y1 y2 (ok_rd (by decide) (by decide)) (ok_wr (by decide) (by decide) IA (by simp [StL]) _) (ok_rd (by decide) (by decide)) (ok_wr (by decide) (by decide) IA (by simp [StL]) _) (fun a wr h => hfr a wr (by rcases h with h | h; exact (LP.row h).1; omega))) occ) _ F _ _ (fun v w16 hp => ?_); obtain ⟨⟨ba, bw, tch, T, bt, P, en', kk, rfl, kb, f1, f2, f3, f4, f5, f6, f7, f8, f9, f10, f11, f12, f13⟩, oc1', oc2', ocj⟩ := hp; have hi1 := kb.cellC _ _ (fun z => by have := (LP.row z).2; dsimp only at *; omega) (by simp <;> omega) hi0; rw [Frame.finish_at]; try walk_nrm
    refine F.re ?_; refine F.ib ?_; refine F.rr ?_; simp only [rg, Nat.reduceAdd]; iterate 2 (refine F.oq rfl rfl rfl (by simp [go_sem]) fun d K h => ?_; go_simp; refine h _ ?_; clear h K d; try walk_nrm)
    refine F.re ?_; refine F.ctl (fun _ => stepG_inLoop) ?_; exact hnext _ _ ⟨_, _, _, _, _, _, _, _, _, _, _, _, _, _, _, _, _, _, _, _, _, _, _, _, _, _, _, _, _, _, _, _, _, _, _, _, _, _, _, _, _, _, _, _, _, rfl, by omega, LP.step (by omega) ka kb q7 f1 hi1 f2 f3 f4 f5 f6 f7 f8 f9 f10 f11 f12 f13 oc1' oc2' ocj⟩
  · intro a w hI
    obtain ⟨y, x2, x3, x7, x8, x13, x14, x15, x16, x17, x18, x19, x20, x21, x22, x23, x24, x25, x26, x27, x28, x29, x30, x31, x32, x36, x37, x38, x39, x40, x41, x42, x43, x44, x45, x46, x47, x48, x49, x50, x51, x52, f, js, en, rfl, rfl, LP⟩ := hI; have hAf : ∀ x ∈ [(⟨A, 1, none⟩ : Addr), ⟨A, 2, none⟩], x.block = A := by intro x hx; simp at hx; rcases hx with rfl | rfl <;> rfl
    have cA : ∀ b o, b ≠ A → (⟨b, o, none⟩ : Addr) ∉ [(⟨A, 1, none⟩ : Addr), ⟨A, 2, none⟩] := fun b o hb z => hb (hAf _ z)
    have cA' : ∀ o, o ≠ 1 → o ≠ 2 → (⟨A, o, none⟩ : Addr) ∉ [(⟨A, 1, none⟩ : Addr), ⟨A, 2, none⟩] := fun o h1 h2 z => by simp at z <;> omega
    have kL := LP.kp; have hs := kL.size
    have M : Made w0 w10 w l n3 n7 n8 n5 B HD A wc ec n cap sa g f js en :=
      { L := LP
        BN := (bn.kp kz (by simp)).kp kL (fun x hx => by rw [hAf x hx]; exact ⟨by omega, by omega⟩)
        a0 := kL.cellC _ _ (by simp) (cA' _ (by decide) (by decide)) ag.a0
        z0 := (kL.frozC _ _ (by simp) (cA' _ (by decide) (by decide)) ag.a0).trans (ag.z 0)
        a3 := kL.cellC _ _ (by simp) (cA' _ (by decide) (by decide)) ag.a3
        a4 := kL.cellC _ _ (by simp) (cA' _ (by decide) (by decide)) ag.a4
        a5 := ⟨kL.cellC _ _ (by simp) (cA' _ (by decide) (by decide)) ag.a5, (kL.frozC _ _ (by simp) (cA' _ (by decide) (by decide)) ag.a5).trans (ag.z 5)⟩
        a6 := ⟨kL.cellC _ _ (by simp) (cA' _ (by decide) (by decide)) ag.a6, (kL.frozC _ _ (by simp) (cA' _ (by decide) (by decide)) ag.a6).trans (ag.z 6)⟩
        ne := ⟨by omega, by omega, by omega, by omega, by omega, by omega, by omega, by omega, by omega, by omega, by omega, e6⟩
        out := fun j hj => by
          obtain ⟨o, oz⟩ := zO j hj; have kk : Kp [] w7 w [⟨A, 1, none⟩, ⟨A, 2, none⟩] := (ky.old (by simp) (by simp)).callN kL (by simp) (fun x hx => .inl hx); have hO : n7 ≠ A := by omega
          refine ⟨⟨kk.cellC _ _ (by simp) (cA _ _ hO) o.c0, kk.cellC _ _ (by simp) (cA _ _ hO) o.c1, kk.cellC _ _ (by simp) (cA _ _ hO) o.c2, kk.cellC _ _ (by simp) (cA _ _ hO) o.c3⟩, fun x hx => ?_⟩; have hz := oz x hx; simp only [outC, List.mem_cons, List.not_mem_nil, or_false] at hx; rcases hx with rfl | rfl | rfl | rfl
          · exact (kk.frozC _ _ (by simp) (cA _ _ hO) o.c0).trans hz
          · exact (kk.frozC _ _ (by simp) (cA _ _ hO) o.c1).trans hz
          · exact (kk.frozC _ _ (by simp) (cA _ _ hO) o.c2).trans hz
          · exact (kk.frozC _ _ (by simp) (cA _ _ hO) o.c3).trans hz
        j0 := kL.cellC _ _ (by simp) (cA _ _ (by omega)) hj0
        zj := (kL.frozC _ _ (by simp) (cA _ _ (by omega)) hj0).trans zj0
        bo := kL.cellC _ _ (by simp) (cA _ _ (by omega)) hq0
        bl := kL.cellC _ _ (by simp) (cA _ _ (by omega)) hv0
        hl := hl
        n9 := h9
        h0 := h0
        vG := vG
        cls := hC
        good := hgood
        off := hoff }
    have r1 : n1 ≠ A := by omega
    replace zr0 := (kL.frozC _ _ (by simp) (cA _ _ r1) hr0).trans zr0; replace zr1 := (kL.frozC _ _ (by simp) (cA _ _ r1) hr1).trans zr1; replace hr0 := kL.cellC _ _ (by simp) (cA _ _ r1) hr0; replace hr1 := kL.cellC _ _ (by simp) (cA _ _ r1) hr1; replace hq0 := M.bo; clear kp bn kz ky zO ag oc1 oc2 L0 hj0 hv0 zj0 zv0 zq0 LP hch hfr; refine F.sr ?_; simp only [rg, Nat.reduceAdd]; refine F.oq rfl rfl rfl (by simp [go_sem]) fun d K h => ?_; go_simp; refine h _ ?_; clear h K d; try walk_nrm
    refine F.es ?_; refine F.cf rfl ?_; refine F.ctl (fun _ => stepG_exit rfl) ?_; refine F.sr ?_; simp only [rg, Nat.reduceAdd]; refine F.oq rfl rfl rfl (by simp [go_sem]) fun d K h => ?_; go_simp; refine h _ ?_; clear h K d; try walk_nrm
    refine F.enter rfl rfl (by decide) (fun _ => run_call_body rfl Tryz.func39 (by rfl) (by rfl)) (fun _ => events_call_body rfl Tryz.func39 (by rfl) (by rfl) _) ?_; walk_nrm; refine At.assume old_at (fun hO' => ?_); refine agenda_at M hng hO' (fun ng' w' ev hng' RN pj hkeep => ?_); obtain ⟨N, m, _, _, hrow, _⟩ := id RN.ev; obtain ⟨xe, ce, rfl⟩ := row_form hrow; clear hrow; replace F := fut0 (P := Tryz.prog) (Post := Post) (wI := w0) (l := A :: l) ng'; have s1 := hkeep ⟨n1, 0, none⟩ _ (by dsimp only; omega) (by dsimp only; omega) (by dsimp only; omega) (by dsimp only; omega) (by dsimp only; omega) (by dsimp only; omega) hr0; have s2 := hkeep ⟨n1, 1, none⟩ _ (by dsimp only; omega) (by dsimp only; omega) (by dsimp only; omega) (by dsimp only; omega) (by dsimp only; omega) (by dsimp only; omega) hr1; have s3 := hkeep ⟨n8, 0, none⟩ _ (by dsimp only; omega) (by dsimp only; omega) (by dsimp only; omega) (by dsimp only; omega) (by dsimp only; omega) (by dsimp only; omega) hq0; replace zr0 := s1.2.trans zr0; replace zr1 := s2.2.trans zr1; replace hr0 := s1.1; replace hr1 := s2.1; replace hq0 := s3.1; have pj' : w'.cell? ⟨n3, 0, none⟩ = some (.slice xe (2 * n) ce) := pj; have i1 : n1 ≠ n3 := by omega
    have i2 : n1 ≠ n8 := by omega
    have o1 : OkS w0.heap.size (A :: l) [] ⟨n8, 0, none⟩ false := ok_rd (by decide) (by decide); have o2 : OkS w0.heap.size (A :: l) [] ⟨n3, 0, none⟩ false := ok_rd (by decide) (by decide); have o3 : OkS w0.heap.size (A :: l) [] ⟨n1, 0, none⟩ true := ok_wr (by decide) (by decide) (by omega) (by simp [StL]) _; have o4 : OkS w0.heap.size (A :: l) [] ⟨n1, 1, none⟩ true := ok_wr (by decide) (by decide) (by omega) (by simp [StL]) _; have o5 : OkS w0.heap.size (A :: l) [] ⟨n1, 0, none⟩ false := ok_rd (by decide) (by decide); have o6 : OkS w0.heap.size (A :: l) [] ⟨n1, 1, none⟩ false := ok_rd (by decide) (by decide); have q8 : n1 < A ∧ n1 ≠ n7 := ⟨by omega, by omega⟩; have ln1 : n1 < w'.heap.size := lt_of_cell hr0; clear s1 s2 s3 hkeep M pj kL; have kp : Kp [] w' w' [⟨n1, 0, none⟩, ⟨n1, 1, none⟩] := Kp.refl _; rw [Frame.finish_at]; try walk_nrm
    refine F.esr ?_; simp only [rg, Nat.reduceAdd]; refine F.ol rfl rfl rfl fun d K h => ?_; go_simp; refine h _ (fun e m => ?_) ?_; simp [go_sem, *] at m; subst m; exact evr (w := w') (by assumption) (by first | assumption | exact hrb _ rfl | (apply hfr <;> dsimp only <;> omega)); clear h K d; try walk_nrm
    refine F.oq rfl rfl rfl (by simp [go_sem]) fun d K h => ?_; go_simp; refine h _ ?_; clear h K d; try walk_nrm
    refine F.ol rfl rfl rfl fun d K h => ?_; go_simp; refine h _ (fun e m => ?_) ?_; simp [go_sem, *] at m; subst m; exact evr (w := w') (by assumption) (by first | assumption | exact hrb _ rfl | (apply hfr <;> dsimp only <;> omega)); clear h K d; try walk_nrm
    refine F.oq rfl rfl rfl (by simp [go_sem]) fun d K h => ?_; go_simp; refine h _ ?_; clear h K d; try walk_nrm
    refine F.op rfl rfl (by decide) (fun d K hK => ?_); go_simp
    repeat rw [setCell_at']
    refine hK _ _ ⟨DX.set2 _ (by (first | assumption | exact hrb _ rfl | (apply hfr <;> dsimp only <;> omega))) (by (first | assumption | exact hrb _ rfl | (apply hfr <;> dsimp only <;> omega))) (fun e he => ?_), ?_⟩
    · have hm := mem_listed he
      simp [go_sem, storedEv, evst_slice, evst_ptr, evst_iface, evst_nil, evst_bool, evst_func, *] at hm; rcases hm with rfl | rfl <;> exact .inl ⟨_, rfl, rfl, by (first | assumption | exact hrb _ rfl | (apply hfr <;> dsimp only <;> omega)), by simp only [size_at, size_set]; first | omega | exact lt_of_cell (by assumption)⟩
    clear hK K d; try walk_nrm
    generalize ew31 : World.setCell w' _ _ = w31; have sz31 := sz_st2 ew31; replace zr0 := fz_st zr0 ew31; replace zr1 := fz_st zr1 ew31; replace hr0 := cl_st' hr0 ew31; replace hr1 := cl_st hr1 ew31 (by simp <;> omega); replace hq0 := cl_st hq0 ew31 (by simp <;> omega); replace pj' := cl_st pj' ew31 (by simp <;> omega); replace kp := kp.stN ew31 (by first | (left; simp; done) | (right; left; simp; done) | (right; right; dsimp only; omega)); generalize ew32 : World.setCell w31 _ _ = w32; have sz32 := sz_st2 ew32; replace zr0 := fz_st zr0 ew32; replace zr1 := fz_st zr1 ew32; replace hr0 := cl_st hr0 ew32 (by simp <;> omega); replace hr1 := cl_st' hr1 ew32; replace hq0 := cl_st hq0 ew32 (by simp <;> omega); replace pj' := cl_st pj' ew32 (by simp <;> omega); replace kp := kp.stN ew32 (by first | (left; simp; done) | (right; left; simp; done) | (right; right; dsimp only; omega)); iterate 2 (refine F.oq rfl rfl rfl (by simp [go_sem]) fun d K h => ?_; go_simp; refine h _ ?_; clear h K d; try walk_nrm)
    refine F.re ?_; refine F.ctl (fun _ => stepG_ret') ?_; refine F.leaveE (v := .tuple #[.agg #[.slice (some ⟨n7, 0, none⟩) n n, .slice xe (2 * n) ce], .int .i64 0, .int .i64 0]) rfl rfl Tryz.func24 (fun d => ?_) (fun d es hes => DX.still _ (fun e he => ?_)) ?_
    · simp [results, go_sem, *]
    · have hm := hes e he
      simp [results, go_sem, *] at hm; rcases hm with rfl | rfl <;> exact .inl ⟨_, rfl, rfl, by assumption, by first | exact lt_of_cell hr0 | exact lt_of_cell hr1⟩
    refine At.assume old_at (fun hO2 => ?_); refine hret ng' A n7 _ _ hng' (RN.kp kp (fun x hx => by simp at hx; rcases hx with rfl | rfl <;> exact q8) hO2 (Nat.le_refl _))
end
end Go.Proofs.YtobagnjnbmgidaaGreatDoor
