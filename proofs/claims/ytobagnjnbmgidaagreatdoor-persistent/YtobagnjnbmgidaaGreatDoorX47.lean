/- The last hand-over and the join; the task's goroutine from its start to its end. -/
import Derived.Test.YtobagnjnbmgidaaGreatDoorX43
import Derived.Test.YtobagnjnbmgidaaGreatDoorX46
set_option linter.unusedSimpArgs false
set_option linter.unusedVariables false
namespace Go.Proofs.YtobagnjnbmgidaaGreatDoor
open Go.Conc Go.RowKit
open Go.ConcN (sumTo upd sumTo_upd upd_ne upd_same)

section
variable {wI : World} {l : List Nat} {e : Env} {c n : Nat} {Post : Value → World → Prop} {cs0 : List Frame}

theorem futw (R : Rig wI l e c n) (hN0 : wI.heap.size ≤ e.N) : FutW e (OkS wI.heap.size l (st0 e)) (Psi0 wI l e c n Post cs0) (Psi1 wI l e c n Post cs0) := by
  have hcf : (c == 0) = false := by have := R.c0; simp; omega
  refine ⟨fut_c0 R, fut_c1 R, fun g g' w o hs hst hn => ?_, fun x c' cs w now t en H hc => wait_at R hN0 x c' cs w now t en H hc⟩
  refine At.grow (o := o) ko_at (fun w h => ⟨old_alloc o w h.1, kl_alloc o w h.2⟩) (.inr rfl) hs (fun d => by rw [hcf]; exact hst d) (fun y ⟨p, hp, z⟩ => ⟨p, List.mem_cons_of_mem _ hp, z⟩) (fun y hy => ?_) (fun _ h => h) (fun _ h => .inl h) hn
  obtain ⟨p, hp, rfl⟩ := hy
  rcases List.mem_cons.1 hp with rfl | hp
  · exact .inr ⟨_, rfl, Nat.le_refl _⟩
  · exact .inl ⟨p, hp, rfl⟩

/-- What is held of the world from the last hand-over on. -/
def KJ (wI : World) (e : Env) (wS w : World) : Prop := Old wI w ∧ Kp [e.ech] wS w [⟨e.A, 5, none⟩, ⟨e.A, 6, none⟩] ∧ w.heap.size = wS.heap.size ∧ (∃ v, w.cell? ⟨e.A, 5, none⟩ = some v) ∧ ∃ v, w.cell? ⟨e.A, 6, none⟩ = some v
theorem kj_jk (R : Rig wI l e c n) {wS : World} (hl : e.A < wS.heap.size) : JK (KJ wI e wS) (ShL l) wS.heap.size (grp e.A) := by
  have hI := (R.l0 _ R.hA).1
  refine ⟨fun w d h => ⟨h.1, ⟨h.2.1.size, h.2.1.cellC, h.2.1.frozC, h.2.1.blk⟩, h.2.2⟩, fun w v h => ?_, fun w v h => ?_, ⟨e.A, R.hA, .inl rfl⟩, ⟨e.A, R.hA, .inr rfl⟩, hl, hl⟩
  · obtain ⟨h1, h2, h3, ⟨v5, h5⟩, v6, h6⟩ := h
    exact ⟨old_set hI h1, h2.stN rfl (.inr (.inl (by simp [grp]))), by simp [World.setCell, h3], ⟨v, World.cell?_setCell_same _ _ _ h5⟩, v6, (World.cell?_setCell_other _ _ _ _ (by simp [grp])).trans h6⟩
  · obtain ⟨h1, h2, h3, ⟨v5, h5⟩, v6, h6⟩ := h
    exact ⟨old_set hI h1, h2.stN rfl (.inr (.inl (by simp [grp]))), by simp [World.setCell, h3], ⟨v5, (World.cell?_setCell_other _ _ _ _ (by simp [grp])).trans h5⟩, v, World.cell?_setCell_same _ _ _ h6⟩

set_option maxRecDepth 100000 in
set_option maxHeartbeats 8000000 in
theorem join_at (R : Rig wI l e c n) (cR : Frame) (csR : List Frame) (w : World) (a : Goroutine) (bs : Option Addr) (cap : Nat) (hN : e.N ≤ w.heap.size) (ha1 : w.cell? ⟨e.A, 1, none⟩ = some (.slice bs 0 cap)) (hst : Num .u64 ⟨e.A, 5, none⟩ w 4294967296) (hse : Num .u32 ⟨e.A, 6, none⟩ w 0)
    (hrun : a.status = .running) (hsend : ∀ d, stepG Tryz.prog false a (w.at d) = .comm a #[scase e.ech (.agg #[]) (.tuple #[])] true .send (w.at d) #[]) (hCS : ∃ nc, CS Tryz.prog (KJ wI e w) (grp e.A) 0 nc (Go.Conc.served a undef))
    (hcont : ∀ w', KJ wI e w w' → At0 Tryz.prog Post (Old wI) (ShL l) n (G (cR.finish (.tuple #[])) csR) w') : Psi0 wI l e c n Post (cR :: csR) a w := by
  have hcf : (c == 0) = false := by have := R.c0; simp; omega
  have hc0 := R.c0
  have hcn := R.cn
  have hle := R.le
  have hnb := R.nb e.ech (by simp)
  have hlA : e.A < w.heap.size := lt_of_cell ha1
  obtain ⟨nc, hCS⟩ := hCS
  refine At.assume ko_at (fun hKO => ?_)
  refine At.join (a₂ := a) (es := #[]) (kk := 1) (z := .agg #[]) (ch := e.ech) (KJ := KJ wI e w) (KJ' := Old wI) (Gp := grp e.A) (Anchor := fun g => g = G (cR.finish (.tuple #[])) csR) ko_at (keepc0 R st0_blk) (fun y ⟨p, hp, z⟩ => still_shun (x := 0) y ⟨p, List.mem_cons_of_mem _ hp, z⟩) hc0 (by omega) rfl (fun y hy => by simp [Inb0, hy]) rfl (.inr rfl) (.inl rfl) hrun (fun d => by rw [hcf]; exact hsend d) (fun e he => by simp at he) (fun w h => h.2.2 e.ech (by simp [cc0]))
    (kj_jk R hlA) (fun k hk => ⟨old_chan hle.1 hKO.1, (Kp.chan hk).old (by simp) (by simp), size_chan .., ⟨_, ((cell_chan hnb.1 ..).1).trans hst.1⟩, _, ((cell_chan hnb.1 ..).1).trans hse.1⟩) (fun w' h => h.2.2.1) hst hse ⟨hnb.1, hnb.1⟩ (fun g₂ hh => ?_) hCS (fun w' h => h.1) (fun g w' hg hw' _ _ => by rw [hg]; exact hcont w' hw')
  refine hh 1 (by omega) (fun g => ∃ nm, MS Tryz.prog (KJ wI e w) (ShL l) w.heap.size (grp e.A) (fun g => g = G (cR.finish (.tuple #[])) csR) 0 nm g) (cf_qf (qf_ms 0)) (fun y1 y2 y3 y4 y5 y6 y7 y8 y9 y10 y11 y12 y13 y14 y15 y16 y17 y18 y19 y20 y21 y22 y23 y24 y25 y26 y27 y28 y29 y30 y31 y32 y33 y34 => ?_)
  have F := qf_ms (P := Tryz.prog) (K := KJ wI e w) (Shun := ShL l) (B := w.heap.size) (Gp := grp e.A) (Anchor := fun g => g = G (cR.finish (.tuple #[])) csR) 0
  have f1 : ∀ w', KJ wI e w w' → w'.cell? ⟨e.A, 1, none⟩ = some (.slice bs 0 cap) := fun w' h => h.2.1.cellC _ _ (by simp; omega) (by simp) ha1
  have ev1 : EvR (ShL l) (fun _ => False) w.heap.size 0 ⟨.cell ⟨e.A, 1, none⟩, false, false⟩ := by
    refine ⟨fun x hx => ?_, hlA⟩
    simp [MemAct.ofEvent, MemAct.touch?] at hx
    subst hx
    exact ⟨fun z => z.elim, fun ⟨A, _, z⟩ => by rcases z with z | z <;> simp at z⟩
  unfold hdOf
  refine F.sq ?_
  refine F.sr ?_
  simp only [rg, Nat.reduceAdd]
  iterate 3 (refine F.oq rfl rfl rfl (by simp [go_sem]) (fun w hw => by go_simp; first | exact ⟨rfl, rfl⟩ | exact rfl) ?_; try walk_nrm)
  apply F.op rfl rfl (by decide)
  · intro w hw e he
    have hfact := f1 w hw
    simp [go_sem, hfact] at he
    subst he
    exact ⟨ev1, by simp, by simp⟩
  · intro w hw
    have hfact := f1 w hw
    go_simp
    first | exact ⟨rfl, rfl⟩ | exact rfl
  try walk_nrm
  iterate 2 (refine F.oq rfl rfl rfl (by simp [go_sem]) (fun w hw => by go_simp; first | exact ⟨rfl, rfl⟩ | exact rfl) ?_; try walk_nrm)
  refine F.re ?_
  refine F.cf rfl ?_
  refine F.ctl (fun _ => stepG_exit rfl) ?_
  refine F.rr ?_
  simp only [rg, Nat.reduceAdd]
  iterate 3 (refine F.oq rfl rfl rfl (by simp [go_sem]) (fun w hw => by go_simp; first | exact ⟨rfl, rfl⟩ | exact rfl) ?_; try walk_nrm)
  refine F.enter rfl rfl (by decide) (fun _ => run_call_body rfl Tryz.func56 (by rfl) (by rfl)) (fun _ => events_call_body rfl Tryz.func56 (by rfl) (by rfl) _) ?_
  walk_nrm
  refine wait56_ms e.A (fun w h => h.2.2.2.1) (fun w h => h.2.2.2.2) _ _ ?_
  clear F
  have F := qf_ms (P := Tryz.prog) (K := KJ wI e w) (Shun := ShL l) (B := w.heap.size) (Gp := grp e.A) (Anchor := fun g => g = G (cR.finish (.tuple #[])) csR) 8
  rw [Frame.finish_at]
  try walk_nrm
  refine F.re ?_
  refine F.ctl (fun _ => stepG_end) ?_
  refine F.leave rfl rfl Tryz.func39 (resultsC_none (by rfl) _) ?_
  exact ⟨0, .anchor rfl rfl⟩
end

end Go.Proofs.YtobagnjnbmgidaaGreatDoor

/-! The task's goroutine from its start to its end. -/
namespace Go.Proofs.YtobagnjnbmgidaaGreatDoor
open Go.Conc Go.RowKit
open Go.ConcN (sumTo upd sumTo_upd upd_ne upd_same)

section
variable {wI : World} {l : List Nat} {e : Env} {c n : Nat} {Post : Value → World → Prop} {cs0 : List Frame}

/-- What the way out needs. -/
structure Fin (e : Env) (bt bg : Nat) (w : World) : Prop where
  bt : w.cell? ⟨bt, 0, none⟩ = some (.pointer (some ⟨e.T, 0, none⟩))
  bg : w.cell? ⟨bg, 0, none⟩ = some (.pointer (some ⟨e.A, 5, none⟩))
  t7 : w.cell? ⟨e.T, 7, none⟩ = some (.bool false)
  z7 : w.frozen? ⟨e.T, 7, none⟩ = false
  a1 : ∃ bs cap, w.cell? ⟨e.A, 1, none⟩ = some (.slice bs 0 cap)
  st : Num .u64 ⟨e.A, 5, none⟩ w 4294967296
  se : Num .u32 ⟨e.A, 6, none⟩ w 0
  N : e.N ≤ w.heap.size

set_option maxRecDepth 100000 in
set_option maxHeartbeats 8000000 in
theorem child_at (R : Rig wI l e c n) (hN0 : wI.heap.size ≤ e.N) (K : EnvOk e (OkS wI.heap.size l (st0 e))) (cR : Frame) (csR : List Frame) (bg bf bw bt O bo bi bl : Nat) (ov : Value) (Q : Int → Int → Int → Option Addr → Nat → Nat → World → Prop) (hQ : ∀ a b c x n cap w w', Kp [O] w w' → Q a b c x n cap w → Q a b c x n cap w') (w0 : World)
    (nbt : bt ≠ e.T) (nbg : bg ≠ e.T) (ngA : bg ≠ e.ech ∧ bg ≠ e.A)
    (hbf : w0.cell? ⟨bf, 0, none⟩ = some (.func (.func 62) #[] #[.pointer (some ⟨bw, 0, none⟩), .pointer (some ⟨bt, 0, none⟩), .pointer (some ⟨e.X, 0, none⟩)])) (hbw : w0.cell? ⟨bw, 0, none⟩ = some (.func (.func 37) #[] #[.pointer (some ⟨bl, 0, none⟩), .pointer (some ⟨bo, 0, none⟩), .pointer (some ⟨bi, 0, none⟩)])) (hbt : w0.cell? ⟨bt, 0, none⟩ = some (.pointer (some ⟨e.T, 0, none⟩)))
    (hO : w0.cell? ⟨bo, 0, none⟩ = some (.slice (some ⟨O, 0, none⟩) 1 1)) (hi : w0.cell? ⟨bi, 0, none⟩ = some (.int .i64 0)) (hl : w0.cell? ⟨bl, 0, none⟩ = some ov)
    (ho0 : w0.cell? ⟨O, 0, none⟩ = some (.int .i64 0)) (ho1 : w0.cell? ⟨O, 1, none⟩ = some (.int .i64 0)) (ho2 : w0.cell? ⟨O, 2, none⟩ = some (.int .i64 0)) (ho3 : w0.cell? ⟨O, 3, none⟩ = some (.slice none 0 0))
    (zo0 : w0.frozen? ⟨O, 0, none⟩ = false) (zo1 : w0.frozen? ⟨O, 1, none⟩ = false) (zo2 : w0.frozen? ⟨O, 2, none⟩ = false) (zo3 : w0.frozen? ⟨O, 3, none⟩ = false)
    (d1 : O ≠ bo) (d2 : O ≠ bi) (d3 : O ≠ bl) (hok : ∀ a wr, a.block = O → OkS wI.heap.size l (st0 e) a wr)
    (hcall : CallsW e (OkS wI.heap.size l (st0 e)) 38 #[ov, .pointer (some ⟨e.T, 0, none⟩)] w0 fun v w' => ∃ a b c x n cap, v = .agg #[.int .i64 a, .int .i64 b, .int .i64 c, .slice x n cap] ∧ Q a b c x n cap w' ∧ Same [bo, bi, bl, O] w0 w')
    (hfin : ∀ a b c x n cap w, Q a b c x n cap w → Fin e bt bg w)
    (hcont : ∀ a b c x m cap w1 wS, Q a b c x m cap w1 → w1.cell? ⟨O, 0, none⟩ = some (.int .i64 a) → w1.cell? ⟨O, 1, none⟩ = some (.int .i64 b) → w1.cell? ⟨O, 2, none⟩ = some (.int .i64 c) → w1.cell? ⟨O, 3, none⟩ = some (.slice x m cap) → Kp [] w1 wS [⟨e.T, 7, none⟩] → ∀ w', KJ wI e wS w' → At0 Tryz.prog Post (Old wI) (ShL l) n (G (cR.finish (.tuple #[])) csR) w') :
    Psi0 wI l e c n Post (cR :: csR) (born Tryz.prog (call89 bg bf)) w0 := by
  have W := futw (Post := Post) (cs0 := cR :: csR) R hN0
  have F := W.f0
  have t6 := evNe20
  have t7 := evNN20
  refine (cf_fut F w0).step _ _ rfl (fun w _ => ⟨#[], born89 bg bf w, by simp⟩) ?_
  have o1 : OkS wI.heap.size l (st0 e) ⟨bf, 0, none⟩ false := ok_rd (by decide) (by decide)
  have o2 : OkS wI.heap.size l (st0 e) ⟨bw, 0, none⟩ false := ok_rd (by decide) (by decide)
  have o3 : OkS wI.heap.size l (st0 e) ⟨bt, 0, none⟩ false := ok_rd (by decide) (by decide)
  have o4 : OkS wI.heap.size l (st0 e) ⟨e.X, 0, none⟩ false := ok_rd (by decide) (by decide)
  have o5 : OkS wI.heap.size l (st0 e) ⟨e.A, 4, none⟩ false := ok_rd (by decide) (by decide)
  have o6 := K.t7w
  have hcf : (c == 0) = false := by have := R.c0; simp; omega
  refine F.sr ?_
  simp only [rg, Nat.reduceAdd]
  refine F.oq rfl rfl rfl (by simp [go_sem]) fun d K h => ?_; go_simp; refine h _ ?_; clear h K d; try walk_nrm
  refine F.deferC rfl rfl (by decide) rfl rfl rfl ?_
  walk_nrm
  refine F.er ?_
  simp only [rg, Nat.reduceAdd]
  refine F.ol rfl rfl rfl fun d K h => ?_; go_simp; refine h _ (fun e m => ?_) ?_; simp [go_sem, *] at m; subst m; exact evr (w := w0) (by assumption) (by first | assumption | (apply hfr <;> dsimp only <;> omega) | (apply hok; simp)); clear h K d; try walk_nrm
  refine F.enterV rfl rfl (by decide) rfl rfl Tryz.func62 (by rfl) (by rfl) ?_
  try walk_nrm
  rw [enter_at _ Tryz.func62 rfl]
  simp only [Tryz.ntmps62, List.size_toArray, List.length_cons, List.length_nil, Nat.reduceAdd, Nat.reduceSub, Array.replicate_succ, Array.replicate_zero, List.push_toArray, List.append_toArray, List.nil_append, List.cons_append]
  refine F.sr ?_
  simp only [rg, Nat.reduceAdd]
  refine F.ol rfl rfl rfl fun d K h => ?_; go_simp; refine h _ (fun e m => ?_) ?_; simp [go_sem, *] at m; subst m; exact evr (w := w0) (by assumption) (by first | assumption | (apply hfr <;> dsimp only <;> omega) | (apply hok; simp)); clear h K d; try walk_nrm
  refine F.ol rfl rfl rfl fun d K h => ?_; go_simp; refine h _ (fun e m => ?_) ?_; simp [go_sem, *] at m; subst m; exact evr (w := w0) (by assumption) (by first | assumption | (apply hfr <;> dsimp only <;> omega) | (apply hok; simp)); clear h K d; try walk_nrm
  refine F.enterV rfl rfl (by decide) rfl rfl Tryz.func37 (by rfl) (by rfl) ?_
  try walk_nrm
  refine run1_w e K O bo bi bl ov Q hQ w0 hO hi hl ho0 ho1 ho2 ho3 zo0 zo1 zo2 zo3 d1 d2 d3 (ok_rd (by decide) (by decide)) (ok_rd (by decide) (by decide)) (ok_rd (by decide) (by decide)) hok hcall _ _ W _ _ (fun v w1 hp => ?_)
  obtain ⟨rfl, y1, y2, y3, y4, y5, y6, hq, p0, p1, p2, p3⟩ := hp
  have hf := hfin _ _ _ _ _ _ _ hq
  refine At.assume ko_at (fun hKO => ?_)
  have hX0 := hKO.2.1 (⟨e.X, 0, none⟩, .pointer (some ⟨e.A, 0, none⟩)) (by simp [st0])
  have hA4 := hKO.2.1 (⟨e.A, 4, none⟩, .chan (some e.ech)) (by simp [st0])
  dsimp only at hX0 hA4
  have hbt1 := hf.bt
  have ht7 := hf.t7
  have zt7 := hf.z7
  have hNX := R.nX
  have hlT := R.lT
  have nAT := R.nAT
  clear hbf hbw hbt hO hi hl ho0 ho1 ho2 ho3 zo0 zo1 zo2 zo3 hcall
  have kp : Kp [] w1 w1 [⟨e.T, 7, none⟩] := Kp.refl _
  rw [Frame.finish_at]
  try walk_nrm
  refine F.esr ?_
  simp only [rg, Nat.reduceAdd]
  refine F.ol rfl rfl rfl fun d K h => ?_; go_simp; refine h _ (fun e m => ?_) ?_; simp [go_sem, *] at m; subst m; exact evr (w := w1) (by assumption) (by first | assumption | (apply hfr <;> dsimp only <;> omega) | (apply hok; simp)); clear h K d; try walk_nrm
  iterate 2 (refine F.oq rfl rfl rfl (by simp [go_sem]) fun d K h => ?_; go_simp; refine h _ ?_; clear h K d; try walk_nrm)
  refine F.op rfl rfl (by decide) (fun d K hK => ?_)
  go_simp
  rw [setCell_at']
  refine hK _ _ ⟨DX.set _ (by (first | assumption | (apply hfr <;> dsimp only <;> omega) | (apply hok; simp))) (fun e he => ?_), ?_⟩
  · have hm := mem_listed he
    simp [go_sem, storedEv, evst_slice, evst_ptr, evst_iface, evst_nil, evst_bool, *] at hm
    subst hm
    exact .inl ⟨_, rfl, rfl, by (first | assumption | (apply hfr <;> dsimp only <;> omega) | (apply hok; simp)), by simp only [size_at, size_set]; first | omega | exact lt_of_cell (by assumption)⟩
  clear hK K d
  try walk_nrm
  generalize ew2 : World.setCell w1 _ _ = w2
  have sz2 := sz_st2 ew2
  replace zt7 := fz_st zt7 ew2
  replace hX0 := cl_st hX0 ew2 (by intro e; simp at e <;> omega)
  replace hA4 := cl_st hA4 ew2 (by intro e; simp at e <;> omega)
  replace hbt1 := cl_st hbt1 ew2 (by intro e; simp at e <;> omega)
  replace ht7 := cl_st' ht7 ew2
  replace kp := kp.stN ew2 (by first | (left; simp; done) | (right; left; simp; done) | (right; right; dsimp only; omega))
  refine F.er ?_
  simp only [rg, Nat.reduceAdd]
  refine F.ol rfl rfl rfl fun d K h => ?_; go_simp; refine h _ (fun e m => ?_) ?_; simp [go_sem, *] at m; subst m; exact evr (w := w2) (by assumption) (by first | assumption | (apply hfr <;> dsimp only <;> omega) | (apply hok; simp)); clear h K d; try walk_nrm
  iterate 2 (refine F.oq rfl rfl rfl (by simp [go_sem]) fun d K h => ?_; go_simp; refine h _ ?_; clear h K d; try walk_nrm)
  refine F.ol rfl rfl rfl fun d K h => ?_; go_simp; refine h _ (fun e m => ?_) ?_; simp [go_sem, *] at m; subst m; exact evr (w := w2) (by assumption) (by first | assumption | (apply hfr <;> dsimp only <;> omega) | (apply hok; simp)); clear h K d; try walk_nrm
  refine F.oq rfl rfl rfl (by simp [go_sem]) fun d K h => ?_; go_simp; refine h _ ?_; clear h K d; try walk_nrm
  obtain ⟨bs, cap, ha1⟩ := hf.a1
  have kS := Kp.setC ew2
  refine join_at R cR csR w2 _ bs cap (Nat.le_trans hf.N kS.size) (kS.cellC _ _ (by simp) (by simp <;> omega) ha1) ⟨kS.cellC _ _ (by simp) (by simp <;> omega) hf.st.1, (kS.frozC _ _ (by simp) (by simp <;> omega) hf.st.1).trans hf.st.2⟩ ⟨kS.cellC _ _ (by simp) (by simp <;> omega) hf.se.1, (kS.frozC _ _ (by simp) (by simp <;> omega) hf.se.1).trans hf.se.2⟩ rfl (fun d => ?_) ?_ (hcont _ _ _ _ _ _ _ _ hq p0 p1 p2 p3 kp)
  · rw [stepG_comm (cases := #[scase e.ech (.agg #[]) (.tuple #[])]) (blocking := true) (shape := .send) (w' := w2.at d) rfl rfl (by decide) (by simp [execOp, scase, Act.eval])]
    rw [listed_nil (by simp [go_sem, execOp, Act.eval])]
  clear F
  have F := qf_cs (P := Tryz.prog) (K := KJ wI e w2) (Gp := grp e.A) 0
  have hbgS : w2.cell? ⟨bg, 0, none⟩ = some (.pointer (some ⟨e.A, 5, none⟩)) := kS.cellC _ _ (by simp) (by simp <;> omega) hf.bg
  have fbg : ∀ w, KJ wI e w2 w → w.cell? ⟨bg, 0, none⟩ = some (.pointer (some ⟨e.A, 5, none⟩)) := fun w h => h.2.1.cellC _ _ (by simp; exact ngA.1) (by simp <;> omega) hbgS
  rw [served_fr, Frame.finish_at]
  try walk_nrm
  refine F.re ?_
  refine F.ctl (fun _ => stepG_end) ?_
  refine F.leave rfl rfl Tryz.func62 (resultsC_none (by rfl) _) ?_
  rw [Frame.finish_at]
  try walk_nrm
  refine F.re ?_
  refine F.ctl (fun _ => stepG_end) ?_
  refine F.ctl (fun _ => stepG_unwindC rfl Tryz.func90 (by rfl) rfl) ?_
  simp only [Tryz.ntmps90, List.size_toArray, List.length_cons, List.length_nil, Nat.reduceAdd, Nat.reduceSub, Array.replicate_succ, Array.replicate_zero, List.push_toArray, List.append_toArray, List.nil_append, List.cons_append]
  refine F.sq ?_
  refine F.sr ?_
  simp only [rg, Nat.reduceAdd]
  refine F.ctl (fun _ => stepG_recoverNil rfl rfl rfl rfl rfl rfl) ?_
  walk_nrm
  refine F.oq rfl rfl rfl (by simp [go_sem]) (fun w hw => by go_simp; first | exact ⟨rfl, rfl⟩ | exact rfl) ?_; try walk_nrm
  refine F.esr ?_
  simp only [rg, Nat.reduceAdd]
  iterate 2 (refine F.oq rfl rfl rfl (fun w hw => by first | (simp [go_sem]; done) | simp [go_sem, Instr.makeInterface, Instr.makeFunc, *]) (fun w hw => by go_simp; first | exact ⟨rfl, rfl⟩ | exact rfl) ?_; try walk_nrm)
  refine F.re ?_
  refine F.cf rfl ?_
  refine F.sk ?_
  refine F.rr ?_
  simp only [rg, Nat.reduceAdd]
  apply F.opn rfl rfl (by decide)
  · intro w hw
    exact listed_norace (ad := ⟨bg, 0, none⟩) (by kernel_rfl) (by simp [go_sem, fbg w hw])
  · intro w hw
    have hfact := fbg w hw
    go_simp
    first | exact ⟨rfl, rfl⟩ | exact rfl
  try walk_nrm
  refine F.enter rfl rfl (by decide) (fun _ => run_call_body rfl Tryz.func91 (by rfl) (by rfl)) (fun _ => events_call_body rfl Tryz.func91 (by rfl) (by rfl) _) ?_
  walk_nrm
  rw [enter_at _ Tryz.func91 rfl]
  simp only [Tryz.ntmps91, List.size_toArray, List.length_cons, List.length_nil, Nat.reduceAdd, Nat.reduceSub, Array.replicate_succ, Array.replicate_zero, List.push_toArray, List.append_toArray, List.nil_append, List.cons_append]
  refine F.rr ?_
  simp only [rg, Nat.reduceAdd]
  refine F.oq rfl rfl rfl (by simp [go_sem]) (fun w hw => by go_simp; first | exact ⟨rfl, rfl⟩ | exact rfl) ?_; try walk_nrm
  refine F.enter rfl rfl (by decide) (fun _ => run_call_body rfl Tryz.func88 (by rfl) (by rfl)) (fun _ => events_call_body rfl Tryz.func88 (by rfl) (by rfl) _) ?_
  walk_nrm
  refine done88_cs e.A (fun w h => h.2.2.2.1) _ _ ?_
  clear F
  have F := qf_quits (P := Tryz.prog) 0
  rw [Frame.finish_at]
  try walk_nrm
  refine F.re ?_
  refine F.ctl (fun _ => stepG_end) ?_
  refine F.leave rfl rfl Tryz.func91 (resultsC_none (by rfl) _) ?_
  rw [Frame.finish_at]
  try walk_nrm
  refine F.re ?_
  refine F.ctl (fun _ => stepG_end) ?_
  refine F.ctl (fun w => stepG_leave_deferred rfl rfl Tryz.func90 (resultsC_none (by rfl) _ w).1 (resultsC_none (by rfl) _ w).2 rfl) ?_
  exact quits89 _
end

end Go.Proofs.YtobagnjnbmgidaaGreatDoor
