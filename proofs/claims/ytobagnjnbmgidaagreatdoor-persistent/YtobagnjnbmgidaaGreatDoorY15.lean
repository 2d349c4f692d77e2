/- The report of one client and one layer. -/
import Derived.Test.YtobagnjnbmgidaaGreatDoorY14
set_option linter.unusedSimpArgs false
set_option linter.unusedVariables false
namespace Go.Proofs.YtobagnjnbmgidaaGreatDoor
open Go.Conc Go.RowKit Go.Extern
open Go.ConcN (sumTo upd sumTo_upd upd_ne upd_same)

theorem Stay.trans {N N' : Nat} {w w1 w2 : World} (h : Stay [] N w w1) (h' : Stay [] N' w1 w2) (hN : N ≤ N') : Stay [] N w w2 := fun a v ha _ hv => by
  obtain ⟨h1, h2⟩ := h a v ha (by simp) hv
  obtain ⟨h3, h4⟩ := h' a v (by omega) (by simp) h1
  exact ⟨h3, h4.trans h2⟩
theorem Stay.of {N : Nat} {L : List Nat} {C : List Addr} {w w1 : World} (k : Kp L w w1 C) (hL : ∀ x ∈ L, N ≤ x) (hC : ∀ x ∈ C, N ≤ x.block) : Stay [] N w w1 := fun a v ha _ hv =>
  ⟨k.cellC a v (fun z => by have := hL _ z; omega) (fun z => by have := hC _ z; omega) hv, k.frozC a v (fun z => by have := hL _ z; omega) (fun z => by have := hC _ z; omega) hv⟩
theorem TurnsAt.stay {N : Nat} {w w' : World} {ta : Option Addr} {n : Nat} {T : Nat → Nat → Int} (h : TurnsAt w ta n T) (s : Stay [] N w w') (hb : 0 < n → ∀ p : Addr, ta = some p → p.block < N) : TurnsAt w' ta n T := fun i hi => by
  obtain ⟨b, o, e, hj⟩ := h i hi
  exact ⟨b, o, e, fun j hj' => (s ⟨b, o + i * 3 + j, none⟩ _ (show b < N from hb (by omega) _ e) (by simp) (hj j hj')).1⟩

/-- What the law lays before it asks. -/
structure Asks (wI : World) (w0 : World) (LB C : Nat) (ta : Option Addr) (nt cap : Nat) (T : Nat → Nat → Int) (a bb cc d ee st : Int) : Prop where
  iL : wI.heap.size ≤ LB
  lC : LB < C
  hg : w0.cell? ⟨0, 0, none⟩ = some (.iface 217 (.agg #[.pointer (some ⟨1, 121, none⟩)]))
  hL : ∀ j, j < 6 → w0.cell? ⟨LB, j, none⟩ = some (.int .i64 (LP a bb cc d ee 0 j))
  hC0 : w0.cell? ⟨C, 0, none⟩ = some (.int .i64 st)
  hC1 : w0.cell? ⟨C, 1, none⟩ = some (.slice ta nt cap)
  tat : TurnsAt w0 ta nt T
  bt : 0 < nt → ∀ p : Addr, ta = some p → p.block < wI.heap.size
theorem Asks.stay {wI w0 w' : World} {LB C : Nat} {ta : Option Addr} {nt cap : Nat} {T : Nat → Nat → Int} {a bb cc d ee st : Int} {N : Nat} (h : Asks wI w0 LB C ta nt cap T a bb cc d ee st) (s : Stay [] N w0 w') (hN : w0.heap.size ≤ N) (i0 : wI.heap.size ≤ w0.heap.size) : Asks wI w' LB C ta nt cap T a bb cc d ee st :=
  ⟨h.iL, h.lC, (s _ _ (by have := lt_of_cell h.hg; omega) (by simp) h.hg).1, fun j hj => (s _ _ (by have := lt_of_cell (h.hL j hj); omega) (by simp) (h.hL j hj)).1, (s _ _ (by have := lt_of_cell h.hC0; omega) (by simp) h.hC0).1, (s _ _ (by have := lt_of_cell h.hC1; omega) (by simp) h.hC1).1, h.tat.stay s (fun h0 p hp => by have := h.bt h0 p hp; omega), h.bt⟩

section
variable {wI : World} {Post : Value → World → Prop}

theorem asks_check {main : Bool} {l : List Nat} {w0 w : World} {LB C : Nat} {ta : Option Addr} {nt cap : Nat} {T : Nat → Nat → Int} {a bb cc d ee st : Int} (h : Asks wI w0 LB C ta nt cap T a bb cc d ee st) (k : Kp [] w0 w) (hl : ∀ B ∈ l, C < B ∧ wI.heap.size ≤ B) (hfr : ∀ a wr, w0.heap.size ≤ a.block → OkS wI.heap.size l [] a wr) :
    CallsX Tryz.prog main (DX (OkS wI.heap.size l [])) 16 #[.slice (some ⟨LB, 0, none⟩) 1 1, .slice (some ⟨C, 0, none⟩) 1 1] w fun v w' => v = .tuple #[.int .i64 (chk 1 (LP a bb cc d ee) 1 (fun _ => ⟨st, ta, nt, cap, T⟩)).1, .int .i64 (chk 1 (LP a bb cc d ee) 1 (fun _ => ⟨st, ta, nt, cap, T⟩)).2] ∧ Kp [] w w' :=
  check_x (Ok := OkS wI.heap.size l []) (main := main) w0.heap.size 1 1 1 1 (some ⟨LB, 0, none⟩) (some ⟨C, 0, none⟩) (LP a bb cc d ee) (fun _ => ⟨st, ta, nt, cap, T⟩) w k.size (fun i hi => ⟨LB, 0, rfl, fun j hj => by have : i = 0 := (by omega); subst this; have := k.cell _ _ (by simp) (h.hL j hj); simpa using this⟩)
      (fun i hi => ⟨C, 0, rfl, by have : i = 0 := (by omega); subst this; exact k.cell _ _ (by simp) h.hC0, by have : i = 0 := (by omega); subst this; exact k.cell _ _ (by simp) h.hC1, h.tat.kp k⟩)
      (fun p hp a ha => by cases hp; exact ok_rdb (fun z => by have := hl _ z; have := h.lC; dsimp only at ha; omega)) ⟨fun p hp a ha => by cases hp; exact ok_rdb (fun z => by have := hl _ z; dsimp only at ha; omega), fun i hi h0 p hp a ha => ok_rdb (fun z => by have := hl _ z; have := h.bt h0 p hp; omega)⟩ hfr

set_option maxRecDepth 100000 in
set_option maxHeartbeats 8000000 in
theorem reportG_at (LB C : Nat) (ta : Option Addr) (nt cap : Nat) (T : Nat → Nat → Int) (A : Nat) (a bb cc d ee st : Int) (k0 : Nat) (w0 : World) (cR : Frame) (csR : List Frame) (i0 : 0 < wI.heap.size) (hI : wI.heap.size ≤ w0.heap.size) (h : Asks wI w0 LB C ta nt cap T a bb cc d ee st)
    (hck : chk 1 (LP a bb cc d ee) 1 (fun _ => ⟨st, ta, nt, cap, T⟩) = (0, 0)) (GL : GoodL A a bb cc d) (GT : GoodT T nt) (hst : 0 ≤ st ∧ st ≤ 1000) (hk0 : k0 < A) (hk1 : ∀ i, i < k0 → turnK T nt i 0 = 2) (hk2 : turnK T nt k0 0 ≠ 2 ∨ k0 + 1 = A)
    (hret : ∀ (l : List Nat) (O N : Nat) (x : Option Addr) (q cp : Nat) (xe : Option Addr) (m ce : Nat) (w' : World), (∀ B ∈ l, w0.heap.size ≤ B ∧ B < w'.heap.size) → w0.heap.size ≤ O → w0.heap.size ≤ N → (∀ B ∈ l, B < N) → ChainP (turnK T nt k0 0) (turnK T nt k0 1) N x q cp w' →
      w'.cell? ⟨O, 0, none⟩ = some (.int .i64 (tmK st (fun k => turnK T nt k 2) (pzK bb cc d) k0 + turnK T nt k0 2)) → w'.cell? ⟨O, 1, none⟩ = some (.int .i64 (kdO (turnK T nt k0 0))) → w'.cell? ⟨O, 2, none⟩ = some (.int .i64 (nnO (turnK T nt k0 0) (turnK T nt k0 1))) → w'.cell? ⟨O, 3, none⟩ = some (.slice x q cp) → Stay [] w0.heap.size w0 w' → w0.heap.size ≤ w'.heap.size →
      At0 Tryz.prog Post (Old wI) (ShL l) 3 (G (cR.finish (.tuple #[.agg #[.slice (some ⟨O, 0, none⟩) 1 1, .slice xe m ce], .bool true, .bool true])) csR) w') :
    At0 Tryz.prog Post (Old wI) (ShL []) 1 (G (Frame.enter Tryz.prog 19 #[.slice (some ⟨LB, 0, none⟩) 1 1, .slice (some ⟨C, 0, none⟩) 1 1] .normal) (cR :: csR)) w0 := by
  have F := fut0 (P := Tryz.prog) (Post := Post) (wI := wI) (l := []) 1
  have lC : C < w0.heap.size := lt_of_cell h.hC0
  have lL := h.lC
  have iL := h.iL
  rw [enter_at _ Tryz.func19 rfl]
  simp only [Tryz.ntmps19, List.size_toArray, List.length_cons, List.length_nil, Nat.reduceAdd, Nat.reduceSub, Array.replicate_succ, Array.replicate_zero, List.push_toArray, List.append_toArray, List.nil_append, List.cons_append]
  refine F.sr ?_
  simp only [rg, Nat.reduceAdd]
  refine F.op rfl rfl (by decide) (fun d K hK => ?_)
  go_simp
  rw [alloc_at']
  refine hK _ _ ⟨DX.alloc _ _ (fun e he => ?_), ?_⟩
  · have hm := mem_listed he
    simp [go_sem] at hm
  clear hK K d
  try walk_nrm
  generalize ew1 : World.alloc w0 _ = w1
  generalize hn1 : (World.heap w0).size = n1
  have sz1 := sz_al2 ew1 hn1
  have hr0 := cl_new (i := 0) ew1 hn1 rfl
  have zr0 := fz_new ew1 hn1 0
  have hr1 := cl_new (i := 1) ew1 hn1 rfl
  have zr1 := fz_new ew1 hn1 1
  try simp only [List.getElem_toArray, List.getElem_cons_zero, List.getElem_cons_succ] at hr0 hr1
  have kp : Kp [] w0 w0 [] := Kp.refl _
  replace kp := kp.alN ew1
  iterate 2 (refine F.oq rfl rfl rfl (by simp [go_sem]) fun d K h => ?_; go_simp; refine h _ ?_; clear h K d; try walk_nrm)
  refine F.esr ?_
  simp only [rg, Nat.reduceAdd]
  refine F.enter rfl rfl (by decide) (fun _ => run_call_body rfl Tryz.func30 (by rfl) (by rfl)) (fun _ => events_call_body rfl Tryz.func30 (by rfl) (by rfl) _) ?_
  walk_nrm
  have s1 : Stay [] w0.heap.size w0 w1 := Stay.of kp (by simp) (by simp)
  have h1 := h.stay s1 (Nat.le_refl _) hI
  have z1 : w0.heap.size ≤ n1 ∧ n1 < w1.heap.size := ⟨by omega, by omega⟩
  clear hn1 sz1 ew1 kp
  refine works_at w1 _ _ i0 (by omega) h1.hg (fun A1 w2 g1 g2 s2 g3 => ?_)
  clear F
  have F := fut0 (P := Tryz.prog) (Post := Post) (wI := wI) (l := [A1]) 2
  have hfr : ∀ (a : Addr) (wr : Bool), w2.heap.size ≤ a.block → OkS wI.heap.size [A1] [] a wr := fun a wr h => ok_fr (N := w2.heap.size) (by simp; omega) (by omega) h (by simp) wr
  have h2 := h1.stay s2 (Nat.le_refl _) (by omega)
  obtain ⟨hr0, z0⟩ := s2 _ _ (by dsimp only; omega) (by simp) hr0
  obtain ⟨hr1, z1'⟩ := s2 _ _ (by dsimp only; omega) (by simp) hr1
  replace zr0 := z0.trans zr0
  replace zr1 := z1'.trans zr1
  clear z0 z1'
  rw [Frame.finish_at]
  try walk_nrm
  refine F.oq rfl rfl rfl (by simp [go_sem]) fun d K h => ?_; go_simp; refine h _ ?_; clear h K d; try walk_nrm
  refine F.esr ?_
  simp only [rg, Nat.reduceAdd]
  iterate 2 (refine F.oq rfl rfl rfl (by simp [go_sem]) fun d K h => ?_; go_simp; refine h _ ?_; clear h K d; try walk_nrm)
  refine F.enter rfl rfl (by decide) (fun _ => run_call_body rfl Tryz.func16 (by rfl) (by rfl)) (fun _ => events_call_body rfl Tryz.func16 (by rfl) (by rfl) _) ?_
  walk_nrm
  refine asks_check h2 (Kp.refl _) (by simp; omega) hfr _ F _ _ (fun v w3 hp => ?_)
  obtain ⟨hv, k3⟩ := hp
  rw [hck] at hv
  subst hv
  have s3 : Stay [] w2.heap.size w2 w3 := Stay.of k3 (by simp) (by simp)
  have h3 := h2.stay s3 (Nat.le_refl _) (by omega)
  have z3 := k3.size
  replace zr0 := (k3.froz _ _ (by simp) hr0).trans zr0
  replace zr1 := (k3.froz _ _ (by simp) hr1).trans zr1
  replace hr0 := k3.cell _ _ (by simp) hr0
  replace hr1 := k3.cell _ _ (by simp) hr1
  rw [Frame.finish_at]
  try walk_nrm
  iterate 5 (refine F.oq rfl rfl rfl (by simp [go_sem]) fun d K h => ?_; go_simp; refine h _ ?_; clear h K d; try walk_nrm)
  refine F.esr ?_
  simp only [rg, Nat.reduceAdd]
  iterate 2 (refine F.oq rfl rfl rfl (by simp [go_sem]) fun d K h => ?_; go_simp; refine h _ ?_; clear h K d; try walk_nrm)
  refine F.enter rfl rfl (by decide) (fun _ => run_call_body rfl Tryz.func24 (by rfl) (by rfl)) (fun _ => events_call_body rfl Tryz.func24 (by rfl) (by rfl) _) ?_
  walk_nrm
  refine runP_at LB C ta nt cap T A a bb cc d ee st k0 w3 _ _ (by decide) i0 (by omega) (by simp; omega) iL (by omega) (by simp; omega) (by simp; omega) h3.hg h3.hL h3.hC0 h3.hC1 h3.tat (fun h0 p hp => ⟨by have := h.bt h0 p hp; omega, .inl (h.bt h0 p hp)⟩) hck GL GT hst hk0 hk1 hk2 (fun Ag O N x q cp xe m ce w4 e1 e2 e3 e4 e5 hx p0 p1 p2 p3 s4 e6 => ?_)
  clear F hfr
  have F := fut0 (P := Tryz.prog) (Post := Post) (wI := wI) (l := [Ag, A1]) 3
  have hfr : ∀ (a : Addr) (wr : Bool), w4.heap.size ≤ a.block → OkS wI.heap.size [Ag, A1] [] a wr := fun a wr h => ok_fr (N := w4.heap.size) (by simp; omega) (by omega) h (by simp) wr
  have lO : O < w4.heap.size := lt_of_cell p0
  obtain ⟨hr0, z0⟩ := s4 _ _ (by dsimp only; omega) (by simp) hr0
  obtain ⟨hr1, z1'⟩ := s4 _ _ (by dsimp only; omega) (by simp) hr1
  replace zr0 := z0.trans zr0
  replace zr1 := z1'.trans zr1
  clear z0 z1'
  have oR : ∀ j wr, j = 0 ∨ j = 1 → OkS wI.heap.size [Ag, A1] [] ⟨n1, j, none⟩ wr := fun j wr hj => ok_wr (by omega) (by omega) (by omega) (by simp [StL]) wr
  have oR0 := oR 0 true (.inl rfl)
  have oR1 := oR 1 true (.inr rfl)
  have oQ0 := oR 0 false (.inl rfl)
  have oQ1 := oR 1 false (.inr rfl)
  have kp : Kp [n1] w4 w4 := Kp.refl _
  have s04 : Stay [] w0.heap.size w0 w4 := ((s1.trans s2 (by omega)).trans s3 (by omega)).trans s4 (by omega)
  generalize hT : tmK st (fun k => turnK T nt k 2) (pzK bb cc d) k0 + turnK T nt k0 2 = tmv at *
  rw [Frame.finish_at]
  try walk_nrm
  iterate 4 (refine F.oq rfl rfl rfl (by simp [go_sem]) fun d K h => ?_; go_simp; refine h _ ?_; clear h K d; try walk_nrm)
  refine F.op rfl rfl (by decide) (fun d K hK => ?_)
  go_simp
  rw [alloc_at']
  refine hK _ _ ⟨DX.alloc _ _ (fun e he => ?_), ?_⟩
  · have hm := mem_listed he
    simp [go_sem] at hm
  clear hK K d
  try walk_nrm
  generalize ew5 : World.alloc w4 _ = w5
  generalize hn5 : (World.heap w4).size = n5
  have sz5 := sz_al2 ew5 hn5
  replace zr0 := fz_al zr0 hr0 ew5
  replace zr1 := fz_al zr1 hr1 ew5
  replace hr0 := cl_al hr0 ew5
  replace hr1 := cl_al hr1 ew5
  replace p0 := cl_al p0 ew5
  replace p1 := cl_al p1 ew5
  replace p2 := cl_al p2 ew5
  replace p3 := cl_al p3 ew5
  have hs0 := cl_new (i := 0) ew5 hn5 rfl
  have zs0 := fz_new ew5 hn5 0
  have hs1 := cl_new (i := 1) ew5 hn5 rfl
  have zs1 := fz_new ew5 hn5 1
  try simp only [List.getElem_toArray, List.getElem_cons_zero, List.getElem_cons_succ] at hs0 hs1
  replace kp := kp.alN ew5
  have i1 : O ≠ n5 := by omega
  have i2 : n1 ≠ n5 := by omega
  have i3 : O ≠ n1 := by omega
  refine F.op rfl rfl (by decide) (fun d K hK => ?_)
  go_simp
  repeat rw [setCell_at']
  refine hK _ _ ⟨DX.set2 _ (by (first | assumption | (apply hfr <;> dsimp only <;> omega))) (by (first | assumption | (apply hfr <;> dsimp only <;> omega))) (fun e he => ?_), ?_⟩
  · have hm := mem_listed he
    simp [go_sem, storedEv, evst_slice, evst_ptr, evst_iface, evst_nil, evst_bool, *] at hm
    rcases hm with rfl | rfl <;> exact .inl ⟨_, rfl, rfl, by (first | assumption | (apply hfr <;> dsimp only <;> omega)), by simp only [size_at, size_set]; first | omega | exact lt_of_cell (by assumption)⟩
  clear hK K d
  try walk_nrm
  generalize ew6 : World.setCell w5 _ _ = w6
  have sz6 := sz_st2 ew6
  replace zr0 := fz_st zr0 ew6
  replace zr1 := fz_st zr1 ew6
  replace zs0 := fz_st zs0 ew6
  replace zs1 := fz_st zs1 ew6
  replace hr0 := cl_st hr0 ew6 (by intro e; simp at e <;> omega)
  replace hr1 := cl_st hr1 ew6 (by intro e; simp at e <;> omega)
  replace p0 := cl_st p0 ew6 (by intro e; simp at e <;> omega)
  replace p1 := cl_st p1 ew6 (by intro e; simp at e <;> omega)
  replace p2 := cl_st p2 ew6 (by intro e; simp at e <;> omega)
  replace p3 := cl_st p3 ew6 (by intro e; simp at e <;> omega)
  replace hs0 := cl_st' hs0 ew6
  replace hs1 := cl_st hs1 ew6 (by intro e; simp at e <;> omega)
  replace kp := kp.stN ew6 (by first | (left; simp; done) | (right; left; simp; done) | (right; right; dsimp only; omega))
  generalize ew7 : World.setCell w6 _ _ = w7
  have sz7 := sz_st2 ew7
  replace zr0 := fz_st zr0 ew7
  replace zr1 := fz_st zr1 ew7
  replace zs0 := fz_st zs0 ew7
  replace zs1 := fz_st zs1 ew7
  replace hr0 := cl_st hr0 ew7 (by intro e; simp at e <;> omega)
  replace hr1 := cl_st hr1 ew7 (by intro e; simp at e <;> omega)
  replace p0 := cl_st p0 ew7 (by intro e; simp at e <;> omega)
  replace p1 := cl_st p1 ew7 (by intro e; simp at e <;> omega)
  replace p2 := cl_st p2 ew7 (by intro e; simp at e <;> omega)
  replace p3 := cl_st p3 ew7 (by intro e; simp at e <;> omega)
  replace hs0 := cl_st hs0 ew7 (by intro e; simp at e <;> omega)
  replace hs1 := cl_st' hs1 ew7
  replace kp := kp.stN ew7 (by first | (left; simp; done) | (right; left; simp; done) | (right; right; dsimp only; omega))
  iterate 2 (refine F.oq rfl rfl rfl (by simp [go_sem]) fun d K h => ?_; go_simp; refine h _ ?_; clear h K d; try walk_nrm)
  refine F.es ?_
  refine F.sr ?_
  simp only [rg, Nat.reduceAdd]
  iterate 2 (refine F.oq rfl rfl rfl (by simp [go_sem]) fun d K h => ?_; go_simp; refine h _ ?_; clear h K d; try walk_nrm)
  refine F.re ?_
  refine F.cf rfl ?_
  refine F.sk ?_
  refine F.sr ?_
  simp only [rg, Nat.reduceAdd]
  iterate 4 (refine F.oq rfl rfl rfl (by simp [go_sem]) fun d K h => ?_; go_simp; refine h _ ?_; clear h K d; try walk_nrm)
  refine F.ol rfl rfl rfl fun d K h => ?_; go_simp; refine h _ (fun e m => ?_) ?_; simp [go_sem, *] at m; subst m; exact evr (w := w7) (by assumption) (by first | assumption | (apply hfr <;> dsimp only <;> omega)); clear h K d; try walk_nrm
  iterate 6 (refine F.oq rfl rfl rfl (by simp [go_sem]) fun d K h => ?_; go_simp; refine h _ ?_; clear h K d; try walk_nrm)
  refine F.esr ?_
  simp only [rg, Nat.reduceAdd]
  refine F.ol rfl rfl rfl fun d K hK => ?_
  go_simp
  refine hK _ (fun e hm => ?_) ?_
  · simp [go_sem, *] at hm
    rcases hm with rfl | rfl <;> exact evr (w := w7) (by assumption) (by first | assumption | (apply hfr <;> dsimp only <;> omega))
  clear hK K d
  try walk_nrm
  iterate 5 (refine F.oq rfl rfl rfl (by simp [go_sem]) fun d K h => ?_; go_simp; refine h _ ?_; clear h K d; try walk_nrm)
  refine F.op rfl rfl (by decide) (fun d K hK => ?_)
  go_simp
  repeat rw [setCell_at']
  refine hK _ _ ⟨DX.set2 _ (by (first | assumption | (apply hfr <;> dsimp only <;> omega))) (by (first | assumption | (apply hfr <;> dsimp only <;> omega))) (fun e he => ?_), ?_⟩
  · have hm := mem_listed he
    simp [go_sem, storedEv, evst_slice, evst_ptr, evst_iface, evst_nil, evst_bool, *] at hm
    rcases hm with rfl | rfl <;> exact .inl ⟨_, rfl, rfl, by (first | assumption | (apply hfr <;> dsimp only <;> omega)), by simp only [size_at, size_set]; first | omega | exact lt_of_cell (by assumption)⟩
  clear hK K d
  try walk_nrm
  generalize ew8 : World.setCell w7 _ _ = w8
  have sz8 := sz_st2 ew8
  replace zr0 := fz_st zr0 ew8
  replace zr1 := fz_st zr1 ew8
  replace zs0 := fz_st zs0 ew8
  replace zs1 := fz_st zs1 ew8
  replace hr0 := cl_st' hr0 ew8
  replace hr1 := cl_st hr1 ew8 (by intro e; simp at e <;> omega)
  replace p0 := cl_st p0 ew8 (by intro e; simp at e <;> omega)
  replace p1 := cl_st p1 ew8 (by intro e; simp at e <;> omega)
  replace p2 := cl_st p2 ew8 (by intro e; simp at e <;> omega)
  replace p3 := cl_st p3 ew8 (by intro e; simp at e <;> omega)
  replace hs0 := cl_st hs0 ew8 (by intro e; simp at e <;> omega)
  replace hs1 := cl_st hs1 ew8 (by intro e; simp at e <;> omega)
  replace kp := kp.stN ew8 (by first | (left; simp; done) | (right; left; simp; done) | (right; right; dsimp only; omega))
  generalize ew9 : World.setCell w8 _ _ = w9
  have sz9 := sz_st2 ew9
  replace zr0 := fz_st zr0 ew9
  replace zr1 := fz_st zr1 ew9
  replace zs0 := fz_st zs0 ew9
  replace zs1 := fz_st zs1 ew9
  replace hr0 := cl_st hr0 ew9 (by intro e; simp at e <;> omega)
  replace hr1 := cl_st' hr1 ew9
  replace p0 := cl_st p0 ew9 (by intro e; simp at e <;> omega)
  replace p1 := cl_st p1 ew9 (by intro e; simp at e <;> omega)
  replace p2 := cl_st p2 ew9 (by intro e; simp at e <;> omega)
  replace p3 := cl_st p3 ew9 (by intro e; simp at e <;> omega)
  replace hs0 := cl_st hs0 ew9 (by intro e; simp at e <;> omega)
  replace hs1 := cl_st hs1 ew9 (by intro e; simp at e <;> omega)
  replace kp := kp.stN ew9 (by first | (left; simp; done) | (right; left; simp; done) | (right; right; dsimp only; omega))
  iterate 2 (refine F.oq rfl rfl rfl (by simp [go_sem]) fun d K h => ?_; go_simp; refine h _ ?_; clear h K d; try walk_nrm)
  refine F.re ?_
  refine F.ctl (fun _ => stepG_ret') ?_
  refine F.leaveE (v := .tuple #[.agg #[.slice (some ⟨O, 0, none⟩) 1 1, .slice xe m ce], .bool true, .bool true]) rfl rfl Tryz.func19 (fun d => ?_) (fun d es hes => DX.still _ (fun e he => ?_)) ?_
  · simp [results, go_sem, *]
  · have hm := hes e he
    simp [results, go_sem, *] at hm
    rcases hm with rfl | rfl <;> exact .inl ⟨_, rfl, rfl, by assumption, lt_of_cell (by assumption)⟩
  have hks := kp.size
  refine hret [Ag, A1] O N x q cp xe m ce _ (by simp; omega) (by omega) (by omega) (by simp; omega) ?_ p0 p1 p2 p3 (s04.trans (Stay.of kp (N := w0.heap.size) (by simp; omega) (by simp)) (Nat.le_refl _)) (by omega)
  intro hk
  obtain ⟨g, f1, f2, f3, f4⟩ := hx hk
  exact ⟨g, f1, f2, f3, f4.kp kp (by simp; omega) (by simp)⟩
end

end Go.Proofs.YtobagnjnbmgidaaGreatDoor
