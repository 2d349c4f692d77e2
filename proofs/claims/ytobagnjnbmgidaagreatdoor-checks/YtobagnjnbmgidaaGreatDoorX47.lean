/- The last hand-over and the join; the task's goroutine from its start to its end. -/
import Derived.Test.YtobagnjnbmgidaaGreatDoorX43
import Derived.Test.YtobagnjnbmgidaaGreatDoorX46
set_option linter.unusedSimpArgs false
set_option linter.unusedVariables false
namespace Go.Proofs.YtobagnjnbmgidaaGreatDoor
open Go.Conc Go.RowKit
open Go.ConcN (sumTo upd sumTo_upd upd_ne upd_same)

section
variable {wI : World} {l : List Nat} {e : Env} {c n : Nat} {Post : Value → World → Prop} {cs0 : List Frame}

theorem futw (R : Rig wI l e c n) (hN0 : wI.heap.size ≤ e.N) : FutW e (OkS wI.heap.size l (st0 e)) (Psi0 wI l e c n Post cs0) (Psi1 wI l e c n Post cs0) := by
  have hcf : (c == 0) = false := by have := R.c0; simp; omega
  refine ⟨fut_c0 R, fut_c1 R, fun g g' w o hs hst hn => ?_, fun x c' cs w now t en H hc => wait_at R hN0 x c' cs w now t en H hc⟩
  refine At.grow (o := o) ko_at (fun w h => ⟨old_alloc o w h.1, kl_alloc o w h.2⟩) (.inr rfl) hs (fun d => by rw [hcf]; exact hst d) (fun y ⟨p, hp, z⟩ => ⟨p, List.mem_cons_of_mem _ hp, z⟩) (fun y hy => ?_) (fun _ h => h) (fun _ h => .inl h) hn
  obtain ⟨p, hp, rfl⟩ := hy
  rcases List.mem_cons.1 hp with rfl | hp
  · exact .inr ⟨_, rfl, Nat.le_refl _⟩
  · exact .inl ⟨p, hp, rfl⟩

/-- What is held of the world from the last hand-over on. -/
def KJ (wI : World) (e : Env) (wS w : World) : Prop := Old wI w ∧ Kp [e.ech] wS w [⟨e.A, 5, none⟩, ⟨e.A, 6, none⟩] ∧ w.heap.size = wS.heap.size ∧ (∃ v, w.cell? ⟨e.A, 5, none⟩ = some v) ∧ ∃ v, w.cell? ⟨e.A, 6, none⟩ = some v
theorem kj_jk (R : Rig wI l e c n) {wS : World} (hl : e.A < wS.heap.size) : JK (KJ wI e wS) (ShL l) wS.heap.size (grp e.A) := by
  have hI := (R.l0 _ R.hA).1
  refine ⟨fun w d h => ⟨h.1, ⟨h.2.1.size, h.2.1.cellC, h.2.1.frozC, h.2.1.blk⟩, h.2.2⟩, fun w v h => ?_, fun w v h => ?_, ⟨e.A, R.hA, .inl rfl⟩, ⟨e.A, R.hA, .inr rfl⟩, hl, hl⟩
  · obtain ⟨h1, h2, h3, ⟨v5, h5⟩, v6, h6⟩ := h
    exact ⟨old_set hI h1, h2.stN rfl (.inr (.inl (by simp [grp]))), by simp [World.setCell, h3], ⟨v, World.cell?_setCell_same _ _ _ h5⟩, v6, (World.cell?_setCell_other _ _ _ _ (by simp [grp])).trans h6⟩
  · obtain ⟨h1, h2, h3, ⟨v5, h5⟩, v6, h6⟩ := h
    exact ⟨old_set hI h1, h2.stN rfl (.inr (.inl (by simp [grp]))), by simp [World.setCell, h3], ⟨v5, (World.cell?_setCell_other _ _ _ _ (by simp [grp])).trans h5⟩, v, World.cell?_setCell_same _ _ _ h6⟩

set_option maxRecDepth 100000 in
set_option maxHeartbeats 8000000 in
theorem join_at (R : Rig wI l e c n) (cR : Frame) (csR : List Frame) (w : World) (a : Goroutine) (bs : Option Addr) (cap : Nat) (hN : e.N ≤ w.heap.size) (ha1 : w.cell? ⟨e.A, 1, none⟩ = some (.slice bs 0 cap)) (hst : Num .u64 ⟨e.A, 5, none⟩ w 4294967296) (hse : Num .u32 ⟨e.A, 6, none⟩ w 0)
    (hrun : a.status = .running) (hsend : ∀ d, stepG Tryz.prog false a (w.at d) = .comm a #[scase e.ech (.agg #[]) (.tuple #[])] true .send (w.at d) #[]) (hCS : ∃ nc, CS Tryz.prog (KJ wI e w) (grp e.A) 0 nc (Go.Conc.served a undef))
    (hcont : ∀ w', KJ wI e w w' → At0 Tryz.prog Post (Old wI) (ShL l) n (G (cR.finish (.tuple #[])) csR) w') : Psi0 wI l e c n Post (cR :: csR) a w := by
  have hcf : (c == 0) = false := by have := R.c0; simp; omega
  have hc0 := R.c0
  have hcn := R.cn
  have hle := R.le
  have hnb := R.nb e.ech (by simp)
  have hlA : e.A < w.heap.size := lt_of_cell ha1
  obtain ⟨nc, hCS⟩ := hCS
  refine At.assume ko_at (fun hKO => ?_)
  refine At.join (a₂ := a) (es := #[]) (kk := 1) (z := .agg #[]) (ch := e.ech) (KJ := KJ wI e w) (KJ' := Old wI) (Gp := grp e.A) (Anchor := fun g => g = G (cR.finish (.tuple #[])) csR) ko_at (keepc0 R st0_blk) (fun y ⟨p, hp, z⟩ => still_shun (x := 0) y ⟨p, List.mem_cons_of_mem _ hp, z⟩) hc0 (by omega) rfl (fun y hy => by simp [Inb0, hy]) rfl (.inr rfl) (.inl rfl) hrun (fun d => by rw [hcf]; exact hsend d) (fun e he => by simp at he) (fun w h => h.2.2 e.ech (by simp [cc0]))
    (kj_jk R hlA) (fun k hk => ⟨old_chan hle.1 hKO.1, (Kp.chan hk).old (by simp) (by simp), size_chan .., ⟨_, ((cell_chan hnb.1 ..).1).trans hst.1⟩, _, ((cell_chan hnb.1 ..).1).trans hse.1⟩) (fun w' h => h.2.2.1) hst hse ⟨hnb.1, hnb.1⟩ (fun g₂ hh => ?_) hCS (fun w' h => h.1) (fun g w' hg hw' _ _ => by rw [hg]; exact hcont w' hw')
  refine hh 1 (by omega) (fun g => ∃ nm, MS Tryz.prog (KJ wI e w) (ShL l) w.heap.size (grp e.A) (fun g => g = G (cR.finish (.tuple #[])) csR) 0 nm g) (cf_qf (qf_ms 0)) (fun y1 y2 y3 y4 y5 y6 y7 y8 y9 y10 y11 y12 y13 y14 y15 y16 y17 y18 y19 y20 y21 y22 y23 y24 y25 y26 y27 y28 y29 y30 y31 y32 y33 y34 => ?_)
  have F := qf_ms (P := Tryz.prog) (K := KJ wI e w) (Shun := ShL l) (B := w.heap.size) (Gp := grp e.A) (Anchor := fun g => g = G (cR.finish (.tuple #[])) csR) 0
  have f1 : ∀ w', KJ wI e w w' → w'.cell? ⟨e.A, 1, none⟩ = some (.slice bs 0 cap) := fun w' h => h.2.1.cellC _ _ (by simp; omega) (by simp) ha1
  have ev1 : EvR (ShL l) (fun _ => False) w.heap.size 0 ⟨.cell ⟨e.A, 1, none⟩, false, false⟩ := by
    refine ⟨fun x hx => ?_, hlA⟩
    simp [MemAct.ofEvent, MemAct.touch?] at hx
    subst hx
    exact ⟨fun z => z.elim, fun ⟨A, _, z⟩ => by rcases z with z | z <;> simp at z⟩
  unfold hdOf
  refine F.sq ?_
  refine F.sr ?_
  simp only [rg, Nat.reduceAdd]
  iterate 3 (refine F.oq rfl rfl rfl (fun w hw => by simp [go_sem]) (fun w hw => by go_simp; first | exact ⟨rfl, rfl⟩ | exact rfl) ?_; try walk_nrm)
  apply F.op rfl rfl (by decide)
  · intro w hw e he
    have hfact := f1 w hw
    simp [go_sem, hfact] at he
    subst he
    exact ⟨ev1, by simp, by simp⟩
  · intro w hw
    have hfact := f1 w hw
    go_simp
    first | exact ⟨rfl, rfl⟩ | exact rfl
  try walk_nrm
  iterate 2 (refine F.oq rfl rfl rfl (fun w hw => by simp [go_sem]) (fun w hw => by go_simp; first | exact ⟨rfl, rfl⟩ | exact rfl) ?_; try walk_nrm)
  refine F.re ?_
  refine F.cf rfl ?_
  refine F.ctl (fun _ => stepG_exit rfl) ?_
  refine F.rr ?_
  simp only [rg, Nat.reduceAdd]
  iterate 3 (refine F.oq rfl rfl rfl (fun w hw => by simp [go_sem]) (fun w hw => by go_simp; first | exact ⟨rfl, rfl⟩ | exact rfl) ?_; try walk_nrm)
  refine F.enter rfl rfl (by decide) (fun _ => run_call_body rfl Tryz.func56 (by rfl) (by rfl)) (fun _ => events_call_body rfl Tryz.func56 (by rfl) (by rfl) _) ?_
  walk_nrm
  refine wait56_ms e.A (fun w h => h.2.2.2.1) (fun w h => h.2.2.2.2) _ _ ?_
  clear F
  have F := qf_ms (P := Tryz.prog) (K := KJ wI e w) (Shun := ShL l) (B := w.heap.size) (Gp := grp e.A) (Anchor := fun g => g = G (cR.finish (.tuple #[])) csR) 8
  rw [Frame.finish_at]
  try walk_nrm
  refine F.re ?_
  refine F.ctl (fun _ => stepG_end) ?_
  refine F.leave rfl rfl Tryz.func39 (resultsC_none (by rfl) _) ?_
  exact ⟨0, .anchor rfl rfl⟩
end

end Go.Proofs.YtobagnjnbmgidaaGreatDoor
