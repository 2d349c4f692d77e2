/- The agenda is run: up to the go statement. -/
import Derived.Test.YtobagnjnbmgidaaGreatDoorX47
import Derived.Test.YtobagnjnbmgidaaGreatDoorX38
set_option linter.unusedSimpArgs false
set_option linter.unusedVariables false
namespace Go.Proofs.YtobagnjnbmgidaaGreatDoor
open Go.Conc Go.RowKit
open Go.ConcN (sumTo upd sumTo_upd upd_ne upd_same)

def mkEnv (P X A T J wch ech tch : Nat) : Env := { N := P, X := X, A := A, T := T, J := J, wch := wch, ech := ech, tch := tch, cl := 0 }

theorem fut0c {P : Program} {Post : Value → World → Prop} {wI : World} {l cc : List Nat} (n : Nat) : Fut P true (DX (OkS wI.heap.size l [])) (At0 P Post (KO wI [] cc) (ShL l) n) :=
  at_fut (h := 0) ko_at (dx_dr (fun ad z => z.elim) (fun ad wr z o => o.1 z) (ko_dx (fun a o => (o.2 rfl).1) (fun p hp => by simp at hp))) DX.idle rfl

theorem kl_set {cc : List Nat} {w : World} {a : Addr} {v : Value} (h : KL [] cc w) : KL [] cc (w.setCell a v) := by
  refine ⟨by simp, fun c hc => ?_⟩
  obtain ⟨k, hk⟩ := h.2 c hc
  refine ⟨k, ?_⟩
  simp only [World.setCell, Array.getElem?_modify, hk]
  split <;> rfl
theorem At.hireG {P : Program} {Post : Value → World → Prop} {K K' : World → Prop} {Shun Still : Loc → Prop} {n : Nat} {w : World} {a a' child : Goroutine} {s : Seat} (hKat : ∀ w d, K w → K (w.at d)) (hSm : ∀ l, Still l → l.isMemory = true) (hSS : ∀ l, Still l → ¬ Shun l) (hs : a.status = .running) (hgo : ∀ d, stepG P true a (w.at d) = .spawn a' child (w.at d) #[])
    (hK' : ∀ d, K' (w.at d)) (hwf : s.Wf) (hch : ∀ c, s.has c → ∃ k, w.heap[c]? = some (.chan 0 #[] false k k false)) (hcB : ∀ c, s.has c → c < w.heap.size) (hway : ∃ m, Goes P true (RK K') (DS Still w.heap.size) (fun g _ => ∃ g₂, AtIn P true K' Still w.heap.size s g g₂) m a' w)
    (hn : At P Post K' Shun Still (fun g => g = 0 ∨ g = n) (fun x => if x = 0 then some s else none) n (n + 1) child w) : At0 P Post K Shun n a w := by
  obtain ⟨m, hm⟩ := hway
  exact At.hire (es := #[]) hKat hSm hSS hs hgo (fun e he => by simp at he) hK' hwf hch hcB (.inl ⟨m, w, rfl, hm⟩) hn

/-- What the task's goroutine finds. -/
structure Begun (e : Env) (w0 w1 : World) (at' : Int) (en1 : Value) (bg bf bw bt bl bo bi : Nat) : Prop where
  cw : CW e w1 at' en1 (.slice none 0 0) []
  kp : Kp [] w0 w1 [⟨e.A, 0, none⟩, ⟨e.A, 1, none⟩, ⟨e.A, 5, none⟩]
  cbg : w1.cell? ⟨bg, 0, none⟩ = some (.pointer (some ⟨e.A, 5, none⟩))
  cbf : w1.cell? ⟨bf, 0, none⟩ = some (.func (.func 62) #[] #[.pointer (some ⟨bw, 0, none⟩), .pointer (some ⟨bt, 0, none⟩), .pointer (some ⟨e.X, 0, none⟩)])
  cbw : w1.cell? ⟨bw, 0, none⟩ = some (.func (.func 37) #[] #[.pointer (some ⟨bl, 0, none⟩), .pointer (some ⟨bo, 0, none⟩), .pointer (some ⟨bi, 0, none⟩)])
  cbt : w1.cell? ⟨bt, 0, none⟩ = some (.pointer (some ⟨e.T, 0, none⟩))
  lX : w0.heap.size ≤ e.X
  len : ∀ g ∈ rowL en1, g < w0.heap.size
  lbt : e.X < bt
  lbg : e.X < bg
  lt : bt < w1.heap.size
  lg : bg < w1.heap.size
  st : Num .u64 ⟨e.A, 5, none⟩ w1 4294967296
  se : Num .u32 ⟨e.A, 6, none⟩ w1 0

set_option maxRecDepth 100000 in
set_option maxHeartbeats 16000000 in
theorem run39_at {wI : World} {l : List Nat} {n : Nat} {Post : Value → World → Prop} (P A T J wch ech tch ba bt0 bw0 bl bo bi : Nat) (at' : Int) (en : Value) (cR : Frame) (csR : List Frame) (w0 : World) (hA : A ∈ l) (hl : ∀ B ∈ l, wI.heap.size ≤ B ∧ B < P) (hn0 : 0 < n)
    (hP : P ≤ w0.heap.size) (lT : T < P) (lJ : J < P) (IT : wI.heap.size ≤ T) (IJ : wI.heap.size ≤ J) (lw : wI.heap.size ≤ wch ∧ wch < P) (le : wI.heap.size ≤ ech ∧ ech < P) (lt : wI.heap.size ≤ tch ∧ tch < P) (ne : wch ≠ ech ∧ wch ≠ tch ∧ ech ≠ tch) (nb : ∀ k, k = wch ∨ k = ech ∨ k = tch → k ≠ A ∧ k ≠ T) (nAT : A ≠ T) (nAJ : A ≠ J) (nTJ : T ≠ J)
    (hA0 : w0.cell? ⟨A, 0, none⟩ = some (.int .i64 0)) (hA1 : w0.cell? ⟨A, 1, none⟩ = some en) (hA3 : w0.cell? ⟨A, 3, none⟩ = some (.chan (some wch))) (hA4 : w0.cell? ⟨A, 4, none⟩ = some (.chan (some ech))) (hA5 : w0.cell? ⟨A, 5, none⟩ = some (.int .u64 0)) (hA6 : w0.cell? ⟨A, 6, none⟩ = some (.int .u32 0))
    (zA0 : w0.frozen? ⟨A, 0, none⟩ = false) (zA1 : w0.frozen? ⟨A, 1, none⟩ = false) (zA5 : w0.frozen? ⟨A, 5, none⟩ = false) (zA6 : w0.frozen? ⟨A, 6, none⟩ = false)
    (hone : One P w0 en at' (.func (.func 50) #[] #[.pointer (some ⟨ba, 0, none⟩), .pointer (some ⟨bt0, 0, none⟩), .pointer (some ⟨bw0, 0, none⟩)]))
    (hba : w0.cell? ⟨ba, 0, none⟩ = some (.pointer (some ⟨A, 0, none⟩))) (hbt0 : w0.cell? ⟨bt0, 0, none⟩ = some (.pointer (some ⟨T, 0, none⟩))) (hbw0 : w0.cell? ⟨bw0, 0, none⟩ = some (.func (.func 37) #[] #[.pointer (some ⟨bl, 0, none⟩), .pointer (some ⟨bo, 0, none⟩), .pointer (some ⟨bi, 0, none⟩)]))
    (htn : TaskNew w0 T A tch 0) (hj0 : w0.cell? ⟨J, 0, none⟩ = some (.slice none 0 0)) (zj0 : w0.frozen? ⟨J, 0, none⟩ = false) (c1 : OpenCh w0 wch) (c2 : OpenCh w0 ech) (c3 : OpenCh w0 tch) (nba : ba ≠ A) (nbt : bt0 ≠ A) (nbw : bw0 ≠ A)
    (hcli : ∀ (X : Nat) (w1 : World) (en1 : Value) (bg bf bw bt : Nat), Rig wI l (mkEnv P X A T J wch ech tch) n (n + 1) → Begun (mkEnv P X A T J wch ech tch) w0 w1 at' en1 bg bf bw bt bl bo bi → Psi0 wI l (mkEnv P X A T J wch ech tch) n (n + 1) Post (cR :: csR) (born Tryz.prog (call89 bg bf)) w1) :
    At0 Tryz.prog Post (Old wI) (ShL l) n (G (Frame.enter Tryz.prog 39 #[.pointer (some ⟨A, 0, none⟩)] .normal) (cR :: csR)) w0 := by
  have lA := (hl A hA).2
  have IA := (hl A hA).1
  refine At.assume old_at (fun hOld => ?_)
  refine At.keep (K' := KO wI [] [wch, ech, tch]) (fun d => ⟨hOld, by simp, fun ch hch => by simp at hch; rcases hch with rfl | rfl | rfl; exact ⟨0, c1⟩; exact ⟨0, c2⟩; exact ⟨0, c3⟩⟩) ?_
  have F := fut0c (P := Tryz.prog) (Post := Post) (wI := wI) (l := l) (cc := [wch, ech, tch]) n
  obtain ⟨E, off, cap, cur, hen, hNE, hblk, hroom, hcu0, hcu1⟩ := id hone
  have hE0 : w0.cell? ⟨E, off, none⟩ = some (.int .i64 at') := by simp only [World.cell?, hblk]; simpa using hcu0
  have hE1 : w0.cell? ⟨E, off + 1, none⟩ = some (.func (.func 50) #[] #[.pointer (some ⟨ba, 0, none⟩), .pointer (some ⟨bt0, 0, none⟩), .pointer (some ⟨bw0, 0, none⟩)]) := by simp only [World.cell?, hblk]; simpa using hcu1
  rw [hen] at hA1
  have hEl : E < w0.heap.size := (Array.getElem?_eq_some_iff.1 hblk).1
  have hfr : ∀ (a : Addr) (wr : Bool), w0.heap.size ≤ a.block → OkS wI.heap.size l [] a wr := fun a wr h => ok_fr (N := w0.heap.size) (fun B hB => by have := (hl B hB).2; omega) (by omega) h (by simp) wr
  have hrb : ∀ a : Addr, a.block = E → OkS wI.heap.size l [] a false := fun a h => ⟨fun ⟨B, hB, z⟩ => by have := (hl B hB).2; rcases z with z | z <;> (simp at z; subst z; dsimp only at h; omega), fun h => by cases h⟩
  have o1 : OkS wI.heap.size l [] ⟨A, 1, none⟩ false := ok_rd (by decide) (by decide)
  have o2 : OkS wI.heap.size l [] ⟨A, 1, none⟩ true := ok_wr (by decide) (by decide) IA (by simp [StL]) _
  have o3 : OkS wI.heap.size l [] ⟨A, 0, none⟩ true := ok_wr (by decide) (by decide) IA (by simp [StL]) _
  have o4 : OkS wI.heap.size l [] ⟨ba, 0, none⟩ false := ok_rd (by decide) (by decide)
  have o5 : OkS wI.heap.size l [] ⟨bt0, 0, none⟩ false := ok_rd (by decide) (by decide)
  have o6 : OkS wI.heap.size l [] ⟨bw0, 0, none⟩ false := ok_rd (by decide) (by decide)
  have hrsf := rst_func
  have lba := lt_of_cell hba
  have lbt := lt_of_cell hbt0
  have lbw := lt_of_cell hbw0
  dsimp only at lba lbt lbw
  have kp : Kp [] w0 w0 [⟨A, 0, none⟩, ⟨A, 1, none⟩, ⟨A, 5, none⟩] := Kp.refl _
  rw [enter_at _ Tryz.func39 rfl]
  simp only [Tryz.ntmps39, List.size_toArray, List.length_cons, List.length_nil, Nat.reduceAdd, Nat.reduceSub, Array.replicate_succ, Array.replicate_zero, List.push_toArray, List.append_toArray, List.nil_append, List.cons_append]
  refine F.sq ?_
  refine F.bl ?_
  refine F.ctl (fun _ => stepG_loop) ?_
  refine F.sq ?_
  refine F.sr ?_
  simp only [rg, Nat.reduceAdd]
  iterate 3 (refine F.oq rfl rfl rfl (by simp [go_sem]) fun d K h => ?_; go_simp; refine h _ ?_; clear h K d; try walk_nrm)
  refine F.ol rfl rfl rfl fun d K h => ?_; go_simp; refine h _ (fun e m => ?_) ?_; simp [go_sem, *] at m; subst m; exact evr (w := w0) (by assumption) (by first | assumption | exact hrb _ rfl | (apply hfr <;> dsimp only <;> omega)); clear h K d; try walk_nrm
  iterate 2 (refine F.oq rfl rfl rfl (by simp [go_sem]) fun d K h => ?_; go_simp; refine h _ ?_; clear h K d; try walk_nrm)
  refine F.re ?_
  refine F.ct rfl ?_
  refine F.sk ?_
  refine F.bl ?_
  refine F.sr ?_
  simp only [rg, Nat.reduceAdd]
  iterate 3 (refine F.oq rfl rfl rfl (by simp [go_sem]) fun d K h => ?_; go_simp; refine h _ ?_; clear h K d; try walk_nrm)
  refine F.ol rfl rfl rfl fun d K h => ?_; go_simp; refine h _ (fun e m => ?_) ?_; simp [go_sem, *] at m; subst m; exact evr (w := w0) (by assumption) (by first | assumption | exact hrb _ rfl | (apply hfr <;> dsimp only <;> omega)); clear h K d; try walk_nrm
  refine F.oq rfl rfl rfl (by simp [go_sem]) fun d K h => ?_; go_simp; refine h _ ?_; clear h K d; try walk_nrm
  refine F.ol rfl rfl rfl fun d K hK => ?_
  go_simp
  refine hK _ (fun e hm => ?_) ?_
  · simp [go_sem, *] at hm
    rcases hm with rfl | rfl <;> exact evr (w := w0) (by assumption) (by first | assumption | exact hrb _ rfl | (apply hfr <;> dsimp only <;> omega))
  clear hK K d
  try walk_nrm
  clear hE0 hE1
  refine F.op rfl rfl (by decide) (fun d K hK => ?_)
  go_simp
  rw [alloc_at']
  refine hK _ _ ⟨DX.alloc _ _ (fun e he => ?_), ?_⟩
  · have hm := mem_listed he
    simp [go_sem] at hm
  clear hK K d
  try walk_nrm
  generalize ew1 : World.alloc w0 _ = w1
  generalize hn1 : (World.heap w0).size = n1
  have sz1 := sz_al2 ew1 hn1
  replace zA0 := fz_al zA0 hA0 ew1
  replace zA1 := fz_al zA1 hA1 ew1
  replace zA5 := fz_al zA5 hA5 ew1
  replace zA6 := fz_al zA6 hA6 ew1
  replace hA0 := cl_al hA0 ew1
  replace hA1 := cl_al hA1 ew1
  replace hba := cl_al hba ew1
  replace hbt0 := cl_al hbt0 ew1
  replace hbw0 := cl_al hbw0 ew1
  replace hA5 := cl_al hA5 ew1
  replace hA6 := cl_al hA6 ew1
  have hf0 := cl_new (i := 0) ew1 hn1 rfl
  have zf0 := fz_new ew1 hn1 0
  have hf1 := cl_new (i := 1) ew1 hn1 rfl
  have zf1 := fz_new ew1 hn1 1
  try simp only [List.getElem_toArray, List.getElem_cons_zero, List.getElem_cons_succ] at hf0 hf1
  replace kp := kp.alN ew1
  refine F.op rfl rfl (by decide) (fun d K hK => ?_)
  go_simp
  repeat rw [setCell_at']
  refine hK _ _ ⟨DX.set2 _ (by (first | assumption | exact hrb _ rfl | (apply hfr <;> dsimp only <;> omega))) (by (first | assumption | exact hrb _ rfl | (apply hfr <;> dsimp only <;> omega))) (fun e he => ?_), ?_⟩
  · have hm := mem_listed he
    simp [go_sem, storedEv, evst_slice, evst_ptr, evst_iface, evst_nil, evst_bool, evst_func, *] at hm
    rcases hm with rfl | rfl <;> exact .inl ⟨_, rfl, rfl, by (first | assumption | exact hrb _ rfl | (apply hfr <;> dsimp only <;> omega)), by simp only [size_at, size_set]; first | omega | exact lt_of_cell (by assumption)⟩
  clear hK K d
  try walk_nrm
  generalize ew2 : World.setCell w1 _ _ = w2
  have sz2 := sz_st2 ew2
  replace zA0 := fz_st zA0 ew2
  replace zA1 := fz_st zA1 ew2
  replace zA5 := fz_st zA5 ew2
  replace zA6 := fz_st zA6 ew2
  replace zf0 := fz_st zf0 ew2
  replace zf1 := fz_st zf1 ew2
  replace hA0 := cl_st hA0 ew2 (by intro e; simp at e <;> omega)
  replace hA1 := cl_st hA1 ew2 (by intro e; simp at e <;> omega)
  replace hba := cl_st hba ew2 (by intro e; simp at e <;> omega)
  replace hbt0 := cl_st hbt0 ew2 (by intro e; simp at e <;> omega)
  replace hbw0 := cl_st hbw0 ew2 (by intro e; simp at e <;> omega)
  replace hA5 := cl_st hA5 ew2 (by intro e; simp at e <;> omega)
  replace hA6 := cl_st hA6 ew2 (by intro e; simp at e <;> omega)
  replace hf0 := cl_st' hf0 ew2
  replace hf1 := cl_st hf1 ew2 (by intro e; simp at e <;> omega)
  replace kp := kp.stN ew2 (by first | (left; simp; done) | (right; left; simp; done) | (right; right; dsimp only; omega))
  generalize ew3 : World.setCell w2 _ _ = w3
  have sz3 := sz_st2 ew3
  replace zA0 := fz_st zA0 ew3
  replace zA1 := fz_st zA1 ew3
  replace zA5 := fz_st zA5 ew3
  replace zA6 := fz_st zA6 ew3
  replace zf0 := fz_st zf0 ew3
  replace zf1 := fz_st zf1 ew3
  replace hA0 := cl_st hA0 ew3 (by intro e; simp at e <;> omega)
  replace hA1 := cl_st hA1 ew3 (by intro e; simp at e <;> omega)
  replace hba := cl_st hba ew3 (by intro e; simp at e <;> omega)
  replace hbt0 := cl_st hbt0 ew3 (by intro e; simp at e <;> omega)
  replace hbw0 := cl_st hbw0 ew3 (by intro e; simp at e <;> omega)
  replace hA5 := cl_st hA5 ew3 (by intro e; simp at e <;> omega)
  replace hA6 := cl_st hA6 ew3 (by intro e; simp at e <;> omega)
  replace hf0 := cl_st hf0 ew3 (by intro e; simp at e <;> omega)
  replace hf1 := cl_st' hf1 ew3
  replace kp := kp.stN ew3 (by first | (left; simp; done) | (right; left; simp; done) | (right; right; dsimp only; omega))
  refine F.esr ?_
  simp only [rg, Nat.reduceAdd]
  iterate 4 (refine F.oq rfl rfl rfl (by simp [go_sem]) fun d K h => ?_; go_simp; refine h _ ?_; clear h K d; try walk_nrm)
  refine F.ol rfl rfl rfl fun d K h => ?_; go_simp; refine h _ (fun e m => ?_) ?_; simp [go_sem, *] at m; subst m; exact evr (w := w3) (by assumption) (by first | assumption | exact hrb _ rfl | (apply hfr <;> dsimp only <;> omega)); clear h K d; try walk_nrm
  refine F.opq rfl rfl (by decide) (fun _ => (by first | (simp [go_sem, ev_sl0, ev_sl1]; done) | (simp [go_sem, Instr.makeInterface, Instr.makeFunc]; done) | (simp [go_sem, *]; done))) (fun d K hK => ?_)
  go_simp
  refine hK _ ?_
  clear hK K d
  try walk_nrm
  iterate 2 (refine F.oq rfl rfl rfl (by simp [go_sem]) fun d K h => ?_; go_simp; refine h _ ?_; clear h K d; try walk_nrm)
  refine F.op rfl rfl (by decide) (fun d K hK => ?_)
  go_simp
  rw [setCell_at']
  refine hK _ _ ⟨DX.set _ (by (first | assumption | exact hrb _ rfl | (apply hfr <;> dsimp only <;> omega))) (fun e he => ?_), ?_⟩
  · have hm := mem_listed he
    simp [go_sem, storedEv, evst_slice, evst_ptr, evst_iface, evst_nil, evst_bool, evst_func, *] at hm
    subst hm
    exact .inl ⟨_, rfl, rfl, by (first | assumption | exact hrb _ rfl | (apply hfr <;> dsimp only <;> omega)), by simp only [size_at, size_set]; first | omega | exact lt_of_cell (by assumption)⟩
  clear hK K d
  try walk_nrm
  generalize ew4 : World.setCell w3 _ _ = w4
  have sz4 := sz_st2 ew4
  replace zA0 := fz_st zA0 ew4
  replace zA1 := fz_st zA1 ew4
  replace zA5 := fz_st zA5 ew4
  replace zA6 := fz_st zA6 ew4
  replace zf0 := fz_st zf0 ew4
  replace zf1 := fz_st zf1 ew4
  replace hA0 := cl_st hA0 ew4 (by intro e; simp at e <;> omega)
  replace hA1 := cl_st' hA1 ew4
  replace hba := cl_st hba ew4 (by intro e; simp at e <;> omega)
  replace hbt0 := cl_st hbt0 ew4 (by intro e; simp at e <;> omega)
  replace hbw0 := cl_st hbw0 ew4 (by intro e; simp at e <;> omega)
  replace hA5 := cl_st hA5 ew4 (by intro e; simp at e <;> omega)
  replace hA6 := cl_st hA6 ew4 (by intro e; simp at e <;> omega)
  replace hf0 := cl_st hf0 ew4 (by intro e; simp at e <;> omega)
  replace hf1 := cl_st hf1 ew4 (by intro e; simp at e <;> omega)
  replace kp := kp.stN ew4 (by first | (left; simp; done) | (right; left; simp; done) | (right; right; dsimp only; omega))
  refine F.esr ?_
  simp only [rg, Nat.reduceAdd]
  iterate 2 (refine F.oq rfl rfl rfl (by simp [go_sem]) fun d K h => ?_; go_simp; refine h _ ?_; clear h K d; try walk_nrm)
  refine F.ol rfl rfl rfl fun d K h => ?_; go_simp; refine h _ (fun e m => ?_) ?_; simp [go_sem, *] at m; subst m; exact evr (w := w4) (by assumption) (by first | assumption | exact hrb _ rfl | (apply hfr <;> dsimp only <;> omega)); clear h K d; try walk_nrm
  iterate 2 (refine F.oq rfl rfl rfl (by simp [go_sem]) fun d K h => ?_; go_simp; refine h _ ?_; clear h K d; try walk_nrm)
  refine F.op rfl rfl (by decide) (fun d K hK => ?_)
  go_simp
  rw [setCell_at']
  refine hK _ _ ⟨DX.set _ (by (first | assumption | exact hrb _ rfl | (apply hfr <;> dsimp only <;> omega))) (fun e he => ?_), ?_⟩
  · have hm := mem_listed he
    simp [go_sem, storedEv, evst_slice, evst_ptr, evst_iface, evst_nil, evst_bool, evst_func, *] at hm
    subst hm
    exact .inl ⟨_, rfl, rfl, by (first | assumption | exact hrb _ rfl | (apply hfr <;> dsimp only <;> omega)), by simp only [size_at, size_set]; first | omega | exact lt_of_cell (by assumption)⟩
  clear hK K d
  try walk_nrm
  generalize ew5 : World.setCell w4 _ _ = w5
  have sz5 := sz_st2 ew5
  replace zA0 := fz_st zA0 ew5
  replace zA1 := fz_st zA1 ew5
  replace zA5 := fz_st zA5 ew5
  replace zA6 := fz_st zA6 ew5
  replace zf0 := fz_st zf0 ew5
  replace zf1 := fz_st zf1 ew5
  replace hA0 := cl_st' hA0 ew5
  replace hA1 := cl_st hA1 ew5 (by intro e; simp at e <;> omega)
  replace hba := cl_st hba ew5 (by intro e; simp at e <;> omega)
  replace hbt0 := cl_st hbt0 ew5 (by intro e; simp at e <;> omega)
  replace hbw0 := cl_st hbw0 ew5 (by intro e; simp at e <;> omega)
  replace hA5 := cl_st hA5 ew5 (by intro e; simp at e <;> omega)
  replace hA6 := cl_st hA6 ew5 (by intro e; simp at e <;> omega)
  replace hf0 := cl_st hf0 ew5 (by intro e; simp at e <;> omega)
  replace hf1 := cl_st hf1 ew5 (by intro e; simp at e <;> omega)
  replace kp := kp.stN ew5 (by first | (left; simp; done) | (right; left; simp; done) | (right; right; dsimp only; omega))
  refine F.er ?_
  simp only [rg, Nat.reduceAdd]
  refine F.oq rfl rfl rfl (by simp [go_sem]) fun d K h => ?_; go_simp; refine h _ ?_; clear h K d; try walk_nrm
  refine F.ol rfl rfl rfl fun d K h => ?_; go_simp; refine h _ (fun e m => ?_) ?_; simp [go_sem, *] at m; subst m; exact evr (w := w5) (by assumption) (by first | assumption | exact hrb _ rfl | (apply hfr <;> dsimp only <;> omega)); clear h K d; try walk_nrm
  clear hf0 hf1 zf0 zf1
  refine F.enterV rfl rfl (by decide) rfl rfl Tryz.func50 (by rfl) (by rfl) ?_
  try walk_nrm
  rw [enter_at _ Tryz.func50 rfl]
  simp only [Tryz.ntmps50, List.size_toArray, List.length_cons, List.length_nil, Nat.reduceAdd, Nat.reduceSub, Array.replicate_succ, Array.replicate_zero, List.push_toArray, List.append_toArray, List.nil_append, List.cons_append]
  refine F.rr ?_
  simp only [rg, Nat.reduceAdd]
  refine F.ol rfl rfl rfl fun d K h => ?_; go_simp; refine h _ (fun e m => ?_) ?_; simp [go_sem, *] at m; subst m; exact evr (w := w5) (by assumption) (by first | assumption | exact hrb _ rfl | (apply hfr <;> dsimp only <;> omega)); clear h K d; try walk_nrm
  refine F.ol rfl rfl rfl fun d K h => ?_; go_simp; refine h _ (fun e m => ?_) ?_; simp [go_sem, *] at m; subst m; exact evr (w := w5) (by assumption) (by first | assumption | exact hrb _ rfl | (apply hfr <;> dsimp only <;> omega)); clear h K d; try walk_nrm
  refine F.ol rfl rfl rfl fun d K h => ?_; go_simp; refine h _ (fun e m => ?_) ?_; simp [go_sem, *] at m; subst m; exact evr (w := w5) (by assumption) (by first | assumption | exact hrb _ rfl | (apply hfr <;> dsimp only <;> omega)); clear h K d; try walk_nrm
  refine F.enter rfl rfl (by decide) (fun _ => run_call_body rfl Tryz.func51 (by rfl) (by rfl)) (fun _ => events_call_body rfl Tryz.func51 (by rfl) (by rfl) _) ?_
  walk_nrm
  rw [enter_at _ Tryz.func51 rfl]
  simp only [Tryz.ntmps51, List.size_toArray, List.length_cons, List.length_nil, Nat.reduceAdd, Nat.reduceSub, Array.replicate_succ, Array.replicate_zero, List.push_toArray, List.append_toArray, List.nil_append, List.cons_append]
  refine F.sr ?_
  simp only [rg, Nat.reduceAdd]
  refine F.op rfl rfl (by decide) (fun d K hK => ?_)
  go_simp
  rw [alloc_at']
  refine hK _ _ ⟨DX.alloc _ _ (fun e he => ?_), ?_⟩
  · have hm := mem_listed he
    simp [go_sem] at hm
  clear hK K d
  try walk_nrm
  generalize ew6 : World.alloc w5 _ = w6
  generalize hn6 : (World.heap w5).size = n6
  have sz6 := sz_al2 ew6 hn6
  replace zA0 := fz_al zA0 hA0 ew6
  replace zA1 := fz_al zA1 hA1 ew6
  replace zA5 := fz_al zA5 hA5 ew6
  replace zA6 := fz_al zA6 hA6 ew6
  replace hA0 := cl_al hA0 ew6
  replace hA1 := cl_al hA1 ew6
  replace hba := cl_al hba ew6
  replace hbt0 := cl_al hbt0 ew6
  replace hbw0 := cl_al hbw0 ew6
  replace hA5 := cl_al hA5 ew6
  replace hA6 := cl_al hA6 ew6
  have hx0 := cl_new (i := 0) ew6 hn6 rfl
  have zx0 := fz_new ew6 hn6 0
  try simp only [List.getElem_toArray, List.getElem_cons_zero, List.getElem_cons_succ] at hx0
  replace kp := kp.alN ew6
  refine F.op rfl rfl (by decide) (fun d K hK => ?_)
  go_simp
  rw [alloc_at']
  refine hK _ _ ⟨DX.alloc _ _ (fun e he => ?_), ?_⟩
  · have hm := mem_listed he
    simp [go_sem] at hm
  clear hK K d
  try walk_nrm
  generalize ew7 : World.alloc w6 _ = w7
  generalize hn7 : (World.heap w6).size = n7
  have sz7 := sz_al2 ew7 hn7
  replace zA0 := fz_al zA0 hA0 ew7
  replace zA1 := fz_al zA1 hA1 ew7
  replace zA5 := fz_al zA5 hA5 ew7
  replace zA6 := fz_al zA6 hA6 ew7
  replace zx0 := fz_al zx0 hx0 ew7
  replace hA0 := cl_al hA0 ew7
  replace hA1 := cl_al hA1 ew7
  replace hba := cl_al hba ew7
  replace hbt0 := cl_al hbt0 ew7
  replace hbw0 := cl_al hbw0 ew7
  replace hA5 := cl_al hA5 ew7
  replace hA6 := cl_al hA6 ew7
  replace hx0 := cl_al hx0 ew7
  have ht1 := cl_new (i := 0) ew7 hn7 rfl
  have zt1 := fz_new ew7 hn7 0
  try simp only [List.getElem_toArray, List.getElem_cons_zero, List.getElem_cons_succ] at ht1
  replace kp := kp.alN ew7
  refine F.op rfl rfl (by decide) (fun d K hK => ?_)
  go_simp
  rw [alloc_at']
  refine hK _ _ ⟨DX.alloc _ _ (fun e he => ?_), ?_⟩
  · have hm := mem_listed he
    simp [go_sem] at hm
  clear hK K d
  try walk_nrm
  generalize ew8 : World.alloc w7 _ = w8
  generalize hn8 : (World.heap w7).size = n8
  have sz8 := sz_al2 ew8 hn8
  replace zA0 := fz_al zA0 hA0 ew8
  replace zA1 := fz_al zA1 hA1 ew8
  replace zA5 := fz_al zA5 hA5 ew8
  replace zA6 := fz_al zA6 hA6 ew8
  replace zx0 := fz_al zx0 hx0 ew8
  replace zt1 := fz_al zt1 ht1 ew8
  replace hA0 := cl_al hA0 ew8
  replace hA1 := cl_al hA1 ew8
  replace hba := cl_al hba ew8
  replace hbt0 := cl_al hbt0 ew8
  replace hbw0 := cl_al hbw0 ew8
  replace hA5 := cl_al hA5 ew8
  replace hA6 := cl_al hA6 ew8
  replace hx0 := cl_al hx0 ew8
  replace ht1 := cl_al ht1 ew8
  have hwk := cl_new (i := 0) ew8 hn8 rfl
  have zwk := fz_new ew8 hn8 0
  try simp only [List.getElem_toArray, List.getElem_cons_zero, List.getElem_cons_succ] at hwk
  replace kp := kp.alN ew8
  refine F.esr ?_
  simp only [rg, Nat.reduceAdd]
  refine F.ol rfl rfl rfl fun d K h => ?_; go_simp; refine h _ (fun e m => ?_) ?_; simp [go_sem, *] at m; subst m; exact evr (w := w8) (by assumption) (by first | assumption | exact hrb _ rfl | (apply hfr <;> dsimp only <;> omega)); clear h K d; try walk_nrm
  iterate 3 (refine F.oq rfl rfl rfl (by simp [go_sem]) fun d K h => ?_; go_simp; refine h _ ?_; clear h K d; try walk_nrm)
  refine F.enter rfl rfl (by decide) (fun _ => run_call_body rfl Tryz.func61 (by rfl) (by rfl)) (fun _ => events_call_body rfl Tryz.func61 (by rfl) (by rfl) _) ?_
  walk_nrm
  rw [enter_at _ Tryz.func61 rfl]
  simp only [Tryz.ntmps61, List.size_toArray, List.length_cons, List.length_nil, Nat.reduceAdd, Nat.reduceSub, Array.replicate_succ, Array.replicate_zero, List.push_toArray, List.append_toArray, List.nil_append, List.cons_append]
  refine F.sr ?_
  simp only [rg, Nat.reduceAdd]
  refine F.op rfl rfl (by decide) (fun d K hK => ?_)
  go_simp
  rw [alloc_at']
  refine hK _ _ ⟨DX.alloc _ _ (fun e he => ?_), ?_⟩
  · have hm := mem_listed he
    simp [go_sem] at hm
  clear hK K d
  try walk_nrm
  generalize ew9 : World.alloc w8 _ = w9
  generalize hn9 : (World.heap w8).size = n9
  have sz9 := sz_al2 ew9 hn9
  replace zA0 := fz_al zA0 hA0 ew9
  replace zA1 := fz_al zA1 hA1 ew9
  replace zA5 := fz_al zA5 hA5 ew9
  replace zA6 := fz_al zA6 hA6 ew9
  replace zx0 := fz_al zx0 hx0 ew9
  replace zt1 := fz_al zt1 ht1 ew9
  replace zwk := fz_al zwk hwk ew9
  replace hA0 := cl_al hA0 ew9
  replace hA1 := cl_al hA1 ew9
  replace hba := cl_al hba ew9
  replace hbt0 := cl_al hbt0 ew9
  replace hbw0 := cl_al hbw0 ew9
  replace hA5 := cl_al hA5 ew9
  replace hA6 := cl_al hA6 ew9
  replace hx0 := cl_al hx0 ew9
  replace ht1 := cl_al ht1 ew9
  replace hwk := cl_al hwk ew9
  have hg0 := cl_new (i := 0) ew9 hn9 rfl
  have zg0 := fz_new ew9 hn9 0
  try simp only [List.getElem_toArray, List.getElem_cons_zero, List.getElem_cons_succ] at hg0
  replace kp := kp.alN ew9
  refine F.op rfl rfl (by decide) (fun d K hK => ?_)
  go_simp
  rw [alloc_at']
  refine hK _ _ ⟨DX.alloc _ _ (fun e he => ?_), ?_⟩
  · have hm := mem_listed he
    simp [go_sem] at hm
  clear hK K d
  try walk_nrm
  generalize ew10 : World.alloc w9 _ = w10
  generalize hn10 : (World.heap w9).size = n10
  have sz10 := sz_al2 ew10 hn10
  replace zA0 := fz_al zA0 hA0 ew10
  replace zA1 := fz_al zA1 hA1 ew10
  replace zA5 := fz_al zA5 hA5 ew10
  replace zA6 := fz_al zA6 hA6 ew10
  replace zx0 := fz_al zx0 hx0 ew10
  replace zt1 := fz_al zt1 ht1 ew10
  replace zwk := fz_al zwk hwk ew10
  replace zg0 := fz_al zg0 hg0 ew10
  replace hA0 := cl_al hA0 ew10
  replace hA1 := cl_al hA1 ew10
  replace hba := cl_al hba ew10
  replace hbt0 := cl_al hbt0 ew10
  replace hbw0 := cl_al hbw0 ew10
  replace hA5 := cl_al hA5 ew10
  replace hA6 := cl_al hA6 ew10
  replace hx0 := cl_al hx0 ew10
  replace ht1 := cl_al ht1 ew10
  replace hwk := cl_al hwk ew10
  replace hg0 := cl_al hg0 ew10
  have hfn := cl_new (i := 0) ew10 hn10 rfl
  have zfn := fz_new ew10 hn10 0
  try simp only [List.getElem_toArray, List.getElem_cons_zero, List.getElem_cons_succ] at hfn
  replace kp := kp.alN ew10
  refine F.esr ?_
  simp only [rg, Nat.reduceAdd]
  refine F.ol rfl rfl rfl fun d K h => ?_; go_simp; refine h _ (fun e m => ?_) ?_; simp [go_sem, *] at m; subst m; exact evr (w := w10) (by assumption) (by first | assumption | exact hrb _ rfl | (apply hfr <;> dsimp only <;> omega)); clear h K d; try walk_nrm
  refine F.enter rfl rfl (by decide) (fun _ => run_call_body rfl Tryz.func88 (by rfl) (by rfl)) (fun _ => events_call_body rfl Tryz.func88 (by rfl) (by rfl) _) ?_
  walk_nrm
  refine At.assume ko_at (fun hKO => ?_)
  refine At.keep (K' := Old wI) (fun d => hKO.1) ?_
  refine At0.of_d ?_
  refine add1_at A hA IA _ _ w10 ⟨hA5, zA5⟩ hA6 ?_
  refine AtD.of_0 ?_
  have hO11 : Old wI (w10.setCell ⟨A, 5, none⟩ (.int .u64 4294967296)) := old_set IA hKO.1
  have hL11 : KL [] [wch, ech, tch] (w10.setCell ⟨A, 5, none⟩ (.int .u64 4294967296)) := kl_set hKO.2
  generalize ew11 : World.setCell w10 _ _ = w11
  have sz11 := sz_st2 ew11
  replace zA0 := fz_st zA0 ew11
  replace zA1 := fz_st zA1 ew11
  replace zA5 := fz_st zA5 ew11
  replace zA6 := fz_st zA6 ew11
  replace zx0 := fz_st zx0 ew11
  replace zt1 := fz_st zt1 ew11
  replace zwk := fz_st zwk ew11
  replace zg0 := fz_st zg0 ew11
  replace zfn := fz_st zfn ew11
  replace hA0 := cl_st hA0 ew11 (by intro e; simp at e <;> omega)
  replace hA1 := cl_st hA1 ew11 (by intro e; simp at e <;> omega)
  replace hba := cl_st hba ew11 (by intro e; simp at e <;> omega)
  replace hbt0 := cl_st hbt0 ew11 (by intro e; simp at e <;> omega)
  replace hbw0 := cl_st hbw0 ew11 (by intro e; simp at e <;> omega)
  replace hA5 := cl_st' hA5 ew11
  replace hA6 := cl_st hA6 ew11 (by intro e; simp at e <;> omega)
  replace hx0 := cl_st hx0 ew11 (by intro e; simp at e <;> omega)
  replace ht1 := cl_st ht1 ew11 (by intro e; simp at e <;> omega)
  replace hwk := cl_st hwk ew11 (by intro e; simp at e <;> omega)
  replace hg0 := cl_st hg0 ew11 (by intro e; simp at e <;> omega)
  replace hfn := cl_st hfn ew11 (by intro e; simp at e <;> omega)
  replace kp := kp.stN ew11 (by first | (left; simp; done) | (right; left; simp; done) | (right; right; dsimp only; omega))
  rw [ew11] at hO11 hL11
  clear hKO F
  refine At.keep (K' := KO wI [] [wch, ech, tch]) (fun d => ⟨hO11, hL11⟩) ?_
  have F := fut0c (P := Tryz.prog) (Post := Post) (wI := wI) (l := l) (cc := [wch, ech, tch]) n
  rw [Frame.finish_at]
  try walk_nrm
  refine F.er ?_
  simp only [rg, Nat.reduceAdd]
  refine F.oq rfl rfl rfl (by simp [go_sem]) fun d K h => ?_; go_simp; refine h _ ?_; clear h K d; try walk_nrm
  have hA3' := kp.cellC _ _ (by simp) (by simp) hA3
  have hA4' := kp.cellC _ _ (by simp) (by simp) hA4
  have htn' := htn.kp kp (by simp) (by simp; exact nAT)
  have hK0 : KO wI (st0 (mkEnv P n6 A T J wch ech tch)) (cc0 (mkEnv P n6 A T J wch ech tch)) w11 := ⟨hO11, fun p hp => by
    simp only [st0, mkEnv, List.mem_cons, List.not_mem_nil, or_false] at hp
    rcases hp with rfl | rfl | rfl | rfl
    · exact hA3'
    · exact hA4'
    · exact hx0
    · exact htn'.t3, hL11.2⟩
  have hkps := kp.size
  have hR : Rig wI l (mkEnv P n6 A T J wch ech tch) n (n + 1) := ⟨hA, hl, lw, le, lt, ne, fun k hk => ⟨(nb k hk).1, (nb k hk).2, by show k ≠ n6; have : k < P := (by rcases hk with rfl | rfl | rfl; exact lw.2; exact le.2; exact lt.2); omega⟩, by show P ≤ n6; omega, lT, IT, nAT, hn0, by omega⟩
  apply At.hireG (K' := KO wI (st0 (mkEnv P n6 A T J wch ech tch)) (cc0 (mkEnv P n6 A T J wch ech tch))) (Still := StL (st0 (mkEnv P n6 A T J wch ech tch))) (s := seat0 wch ech (Home39 (mkEnv P n6 A T J wch ech tch) (cR :: csR))) ko_at (fun _ h => stl_mem h) (fun y ⟨p, hp, z⟩ => still_shun (x := 0) y ⟨p, List.mem_cons_of_mem _ hp, z⟩) rfl
  · intro d
    rw [stepG_spawn (d := call89 n9 n10) (f := .func 89) (c := #[.pointer (some ⟨n9, 0, none⟩), .pointer (some ⟨n10, 0, none⟩)]) (w' := w11.at d) rfl rfl (by decide) (by simp [execOp, call89, resolve, Deferred.ofValue, Act.eval]) rfl]
    rw [listed_nil (by simp [execOp, resolve, Deferred.ofValue, Act.eval])]
  · exact fun d => hK0
  · exact seat0_wf ne.1 _
  · intro ch hch
    rcases seat0_has hch with rfl | rfl
    · exact hL11.2 _ (by simp)
    · exact hL11.2 _ (by simp)
  · intro ch hch
    rcases seat0_has hch with rfl | rfl <;> omega
  · clear F
    have F := qf_seat (P := Tryz.prog) (K := KO wI (st0 (mkEnv P n6 A T J wch ech tch)) (cc0 (mkEnv P n6 A T J wch ech tch))) (Still := StL (st0 (mkEnv P n6 A T J wch ech tch))) (B := w11.heap.size) true (seat0 wch ech (Home39 (mkEnv P n6 A T J wch ech tch) (cR :: csR))) w11
    have fX : ∀ w, KO wI (st0 (mkEnv P n6 A T J wch ech tch)) (cc0 (mkEnv P n6 A T J wch ech tch)) w → w.cell? ⟨n6, 0, none⟩ = some (.pointer (some ⟨A, 0, none⟩)) := fun w h => h.2.1 (⟨n6, 0, none⟩, _) (by simp [st0, mkEnv])
    have hn6 : n6 < w11.heap.size := lt_of_cell hx0
    have hAl : A < w11.heap.size := by omega
    try walk_nrm
    refine F.re ?_
    refine F.ctl (fun _ => stepG_end) ?_
    refine F.leave rfl rfl Tryz.func61 (resultsC_none (by rfl) _) ?_
    rw [Frame.finish_at]
    try walk_nrm
    refine F.er ?_
    simp only [rg, Nat.reduceAdd]
    apply F.op rfl rfl (by decide)
    · intro w hw e he
      have hfact := fX w hw
      simp [go_sem, hfact] at he
      subst he
      exact ⟨_, rfl, ⟨(⟨n6, 0, none⟩, .pointer (some ⟨A, 0, none⟩)), by simp [st0, mkEnv], rfl⟩, hn6⟩
    · intro w hw
      have hfact := fX w hw
      go_simp
      first | exact ⟨rfl, rfl⟩ | exact rfl
    try walk_nrm
    refine F.enter rfl rfl (by decide) (fun _ => run_call_body rfl Tryz.func63 (by rfl) (by rfl)) (fun _ => events_call_body rfl Tryz.func63 (by rfl) (by rfl) _) ?_
    walk_nrm
    refine way63 A wch ech (fun w h => h.2.1 (⟨A, 3, none⟩, _) (by simp [st0, mkEnv])) (fun w h => h.2.1 (⟨A, 4, none⟩, _) (by simp [st0, mkEnv])) ⟨(⟨A, 3, none⟩, .chan (some wch)), by simp [st0, mkEnv], rfl⟩ ⟨(⟨A, 4, none⟩, .chan (some ech)), by simp [st0, mkEnv], rfl⟩ hAl _ _ (fun g hg kk hkk Φ F ht => hg kk hkk Φ F ?_) _
    rw [Frame.finish_at]
    try walk_nrm
    refine F.re ?_
    refine F.ctl (fun _ => stepG_end) ?_
    refine F.leave rfl rfl Tryz.func51 (resultsC_none (by rfl) _) ?_
    rw [Frame.finish_at]
    try walk_nrm
    refine F.re ?_
    refine F.ctl (fun _ => stepG_end) ?_
    refine F.leave rfl rfl Tryz.func50 (resultsC_none (by rfl) _) ?_
    rw [Frame.finish_at]
    try walk_nrm
    refine F.re ?_
    refine F.ib ?_
    refine F.ctl (fun _ => stepG_inLoop) ?_
    exact ht _ _ _ _ _ _ _ _ _ _ _ _ _ _ _ _ _ _ _ _ _ _ _ _ _ _ _ _ _ _ _ _ _ _
  have hEA : E ≠ A := by omega
  have hblk' := kp.blk E _ _ _ (by simp) (by simp; exact fun z => hEA z.symm) hblk
  refine hcli n6 w11 (.slice (if cap = 0 then some ⟨E, off, none⟩ else some ⟨E, off + 2, none⟩) 0 cap) n9 n10 n8 n7 hR ?_
  have hrow : rowL (Value.slice (if cap = 0 then some ⟨E, off, none⟩ else some ⟨E, off + 2, none⟩) 0 cap) = [E] := by by_cases hcap : cap = 0 <;> simp [rowL, Value.ownBlock, hcap]
  have hJA : ∀ i, (⟨J, i, none⟩ : Addr) ∉ [(⟨A, 0, none⟩ : Addr), ⟨A, 1, none⟩, ⟨A, 5, none⟩] := fun i z => by simp at z <;> omega
  exact { cw := { size := by show P ≤ _; omega
                  sX := lt_of_cell hx0
                  nX := by show P ≤ n6; omega
                  t0 := htn'.t0, t2 := htn'.t2, t3 := htn'.t3, t4 := ⟨_, htn'.t4⟩, z4 := htn'.z4, t6 := htn'.t6, t7 := htn'.t7, z7 := htn'.z7
                  a0 := hA0, za0 := zA0, a1 := hA1, z1 := zA1, a3 := hA3', a4 := hA4'
                  j0 := kp.cellC _ _ (by simp) (hJA _) hj0
                  zj := (kp.frozC _ _ (by simp) (hJA _) hj0).trans zj0
                  row := ⟨0, rfl, World.ownsRow_nil _ _ _ _⟩
                  emp := by
                    by_cases hcap : cap = 0
                    · exact .inr ⟨E, off, cap, cur, by simp [hcap], hNE, hblk', by omega⟩
                    · exact .inr ⟨E, off + 2, cap, cur, by simp [hcap], hNE, hblk', by omega⟩
                  sep := fun g hg => by simp [rowL, Value.ownBlock] at hg
                  xe := by rw [hrow]; show n6 ∉ [E]; simp; omega }
          kp := kp, cbg := hg0, cbf := hfn, cbw := hwk, cbt := ht1
          lX := by show _ ≤ n6; omega
          len := fun g hg => by rw [hrow] at hg; simp at hg; omega
          lbt := by show n6 < n7; omega
          lbg := by show n6 < n9; omega
          lt := lt_of_cell ht1
          lg := lt_of_cell hg0
          st := ⟨hA5, zA5⟩
          se := ⟨hA6, zA6⟩ }

end Go.Proofs.YtobagnjnbmgidaaGreatDoor

/-! The one client of a run. -/
namespace Go.Proofs.YtobagnjnbmgidaaGreatDoor
open Go.Conc Go.RowKit
open Go.ConcN (sumTo upd sumTo_upd upd_ne upd_same)

/-- Cells of blocks below N that L does not name stay. -/
def Stay (L : List Nat) (N : Nat) (w w' : World) : Prop := ∀ (a : Addr) (v : Value), a.block < N → a.block ∉ L → w.cell? a = some v → w'.cell? a = some v ∧ w'.frozen? a = w.frozen? a
theorem Stay.kp {L L' : List Nat} {C : List Addr} {N : Nat} {w w1 w2 : World} (h : Stay L N w w1) (k : Kp L' w1 w2 C) (hL : ∀ x ∈ L', x ∈ L ∨ N ≤ x) (hC : ∀ x ∈ C, x.block ∈ L ∨ N ≤ x.block) : Stay L N w w2 := fun a v ha hn hv => by
  obtain ⟨h1, h2⟩ := h a v ha hn hv
  have e1 : a.block ∉ L' := fun z => (hL _ z).elim hn fun y => by omega
  have e2 : a ∉ C := fun z => (hC _ z).elim hn fun y => by omega
  exact ⟨k.cellC a v e1 e2 h1, (k.frozC a v e1 e2 h1).trans h2⟩
theorem Stay.refl (L : List Nat) (N : Nat) (w : World) : Stay L N w w := fun a v _ _ h => ⟨h, rfl⟩

section
variable {wI : World} {l : List Nat} {e : Env} {c n : Nat} {Post : Value → World → Prop} {cs0 : List Frame}

theorem ok_rdl {N0 : Nat} {l : List Nat} {st : List (Addr × Value)} {b o : Nat} (h : b ∉ l) : OkS N0 l st ⟨b, o, none⟩ false :=
  ⟨fun ⟨A, hA, z⟩ => by rcases z with z | z <;> simp at z <;> exact h (z.1 ▸ hA), fun h => by cases h⟩
theorem ok_wrl {N0 : Nat} {l : List Nat} {e : Env} {b : Nat} (h : b ∉ l) (hb : N0 ≤ b) (nA : b ≠ e.A) (nX : b ≠ e.X) (nT : b ≠ e.T) (a : Addr) (wr : Bool) (ha : a.block = b) : OkS N0 l (st0 e) a wr :=
  ⟨fun ⟨A, hA, z⟩ => by rcases z with z | z <;> (simp at z; subst z; exact h (ha ▸ hA)), fun _ => ⟨by omega, fun ⟨p, hp, z⟩ => by simp at z; subst z; have := (st0_off hp).2.2.2; omega⟩⟩
/-- Apart from what a client's walk writes. -/
def Off (N J HD A T b : Nat) : Prop := b < N ∧ b ≠ J ∧ b ≠ HD ∧ b ≠ A ∧ b ≠ T

theorem envok (R : Rig wI l e c n) (hTl : e.T ∉ l) (lJ : e.J < e.N) (IJ : wI.heap.size ≤ e.J) (nAJ : e.A ≠ e.J) (nTJ : e.T ≠ e.J) : EnvOk e (OkS wI.heap.size l (st0 e)) := by
  have lA := (R.l0 _ R.hA)
  have lT := R.lT
  have nX := R.nX
  have nAT := R.nAT
  exact { lA := lA.2, lT := lT, lJ := lJ, nAT := nAT, nAJ := nAJ, nTJ := nTJ
          t0 := ok_rd (by decide) (by decide), t2 := ok_rd (by decide) (by decide), t3 := ok_rd (by decide) (by decide), t4 := ok_rd (by decide) (by decide)
          t4w := ok_wr (by decide) (by decide) R.hT (by simp [StL, st0]; omega) _
          t6 := ok_rdl hTl
          t7w := ok_wr (by decide) (by decide) R.hT (by simp [StL, st0]) _
          a0 := ok_rd (by decide) (by decide), a1 := ok_rd (by decide) (by decide)
          a1w := ok_wr (by decide) (by decide) lA.1 (by simp [StL, st0]) _
          a3 := ok_rd (by decide) (by decide), a4 := ok_rd (by decide) (by decide), j0 := ok_rd (by decide) (by decide)
          j0w := ok_wr (by decide) (by decide) IJ (by simp [StL, st0]; omega) _
          fr := fun a wr h hx => ok_fr (N := e.N) (fun B hB => (R.l0 B hB).2) (by omega) h (fun p hp => by have := (st0_off hp).2.2.2; omega) wr }

set_option maxHeartbeats 800000 in
theorem cli_at (R : Rig wI l e c n) (hTl : e.T ∉ l) (hN0 : wI.heap.size ≤ e.N) (lJ : e.J < e.N) (IJ : wI.heap.size ≤ e.J) (nAJ : e.A ≠ e.J) (nTJ : e.T ≠ e.J) (cR : Frame) (csR : List Frame) (bg bf bw bt O bo bi bl HD : Nat) (ov : Value) (at' tm kd nn tm' : Int) (w0 w1 : World) (en1 : Value)
    (Cx : Option Addr → Nat → Nat → World → Prop) (Mx : List Value → Prop) (hCx : ∀ x q cap w w' L C, Kp L w w' C → (∀ y ∈ L, y < e.N) → (∀ y ∈ C, y.block < e.N) → Cx x q cap w → Cx x q cap w')
    (hsz : e.N ≤ w0.heap.size) (c2 : OpenCh w0 e.ech) (B : Begun e w0 w1 at' en1 bg bf bw bt bl bo bi)
    (lO : wI.heap.size ≤ O) (oO : Off e.N e.J HD e.A e.T O) (hOl : O ∉ l) (nOe : O ≠ e.ech) (nJe : e.J ≠ e.ech) (nHD : HD ≠ e.A) (lHD : HD < e.N) (obo : Off e.N e.J HD e.A e.T bo) (obi : Off e.N e.J HD e.A e.T bi) (obl : Off e.N e.J HD e.A e.T bl) (dbo : O ≠ bo) (dbi : O ≠ bi) (dbl : O ≠ bl)
    (hO : w0.cell? ⟨bo, 0, none⟩ = some (.slice (some ⟨O, 0, none⟩) 1 1)) (hi : w0.cell? ⟨bi, 0, none⟩ = some (.int .i64 0)) (hl : w0.cell? ⟨bl, 0, none⟩ = some ov)
    (ho0 : w0.cell? ⟨O, 0, none⟩ = some (.int .i64 0)) (ho1 : w0.cell? ⟨O, 1, none⟩ = some (.int .i64 0)) (ho2 : w0.cell? ⟨O, 2, none⟩ = some (.int .i64 0)) (ho3 : w0.cell? ⟨O, 3, none⟩ = some (.slice none 0 0)) (zo : ∀ i, i < 4 → w0.frozen? ⟨O, i, none⟩ = false)
    (hc38 : CallsW e (OkS wI.heap.size l (st0 e)) 38 #[ov, .pointer (some ⟨e.T, 0, none⟩)] w1 fun v w' => ∃ x q cap, v = .agg #[.int .i64 tm, .int .i64 kd, .int .i64 nn, .slice x q cap] ∧ Cx x q cap w' ∧ ∃ en' ev' m, Mx m ∧ CW e w' tm' en' ev' m ∧ Ru e HD w1 en1 (.slice none 0 0) w' en' ev')
    (hdone : ∀ x q cap w' ev m xs, Cx x q cap w' → Mx xs → Stay [e.J, HD, e.A, e.T, O] e.N w0 w' → w'.cell? ⟨O, 0, none⟩ = some (.int .i64 tm) → w'.cell? ⟨O, 1, none⟩ = some (.int .i64 kd) → w'.cell? ⟨O, 2, none⟩ = some (.int .i64 nn) → w'.cell? ⟨O, 3, none⟩ = some (.slice x q cap) → w'.cell? ⟨e.J, 0, none⟩ = some ev → m * 5 = xs.length ∧ w'.ownsRow (e.X + 1) 55 5 ev m xs → w0.heap.size ≤ w'.heap.size → At0 Tryz.prog Post (Old wI) (ShL l) n (G (cR.finish (.tuple #[])) csR) w') :
    Psi0 wI l e c n Post (cR :: csR) (born Tryz.prog (call89 bg bf)) w1 := by
  have K := envok R hTl lJ IJ nAJ nTJ
  have H := B.cw
  have lA := K.lA
  have lT := K.lT
  have nAT := K.nAT
  have nX := H.nX
  have lX := B.lX
  have lbt := B.lbt
  have lbg := B.lbg
  have k01 := B.kp
  have hle := R.le
  have hnb := R.nb e.ech (by simp)
  have s01 : Stay [e.J, HD, e.A, e.T, O] e.N w0 w1 := (Stay.refl _ _ _).kp k01 (by simp) (by simp)
  have row0 : rowL (Value.slice none 0 0) = [] := rfl
  have sm : ∀ (w' : World) (en' ev' : Value), Ru e HD w1 en1 (.slice none 0 0) w' en' ev' → ∀ (b i : Nat) (v : Value), b ≠ e.J → b ≠ HD → b ∉ rowL en1 → (⟨b, i, none⟩ : Addr) ∉ [(⟨e.A, 0, none⟩ : Addr), ⟨e.A, 1, none⟩, ⟨e.T, 4, none⟩] → w1.cell? ⟨b, i, none⟩ = some v → w'.cell? ⟨b, i, none⟩ = some v ∧ w'.frozen? ⟨b, i, none⟩ = w1.frozen? ⟨b, i, none⟩ := by
    intro w' en' ev' r b i v h1 h2 h3 h4 hc
    have hb : (⟨b, i, none⟩ : Addr).block ∉ e.J :: HD :: (rowL (Value.slice none 0 0) ++ rowL en1) := by rw [row0]; simp; exact ⟨h1, h2, h3⟩
    exact ⟨r.kp.cellC _ _ hb h4 hc, r.kp.frozC _ _ hb h4 hc⟩
  have hent : ∀ b, b < e.N → b ∉ rowL en1 := fun b hb z => by have := (H.entN z).1; omega
  have hent2 : ∀ b, w0.heap.size ≤ b → b ∉ rowL en1 := fun b hb z => by have := B.len b z; omega
  have k1 : ∀ b, b ≠ e.A → ∀ i v, w0.cell? ⟨b, i, none⟩ = some v → w1.cell? ⟨b, i, none⟩ = some v ∧ w1.frozen? ⟨b, i, none⟩ = w0.frozen? ⟨b, i, none⟩ := fun b hb i v hv => ⟨k01.cellC _ _ (by simp) (by simp [hb]) hv, k01.frozC _ _ (by simp) (by simp [hb]) hv⟩
  have z1 : ∀ i v, i < 4 → w0.cell? ⟨O, i, none⟩ = some v → w1.cell? ⟨O, i, none⟩ = some v ∧ w1.frozen? ⟨O, i, none⟩ = false := fun i v h4 hv => ⟨(k1 O oO.2.2.2.1 i v hv).1, (k1 O oO.2.2.2.1 i v hv).2.trans (zo i h4)⟩
  have hbo := (k1 bo obo.2.2.2.1 _ _ hO).1
  have hbi := (k1 bi obi.2.2.2.1 _ _ hi).1
  have hbl := (k1 bl obl.2.2.2.1 _ _ hl).1
  have g1 : bt ≠ e.T := by omega
  have g2 : bg ≠ e.T := by omega
  have g3 : bg ≠ e.ech ∧ bg ≠ e.A := ⟨by omega, by omega⟩
  have g5 : O ≠ e.X := by have := oO.1; omega
  refine child_at R hN0 K cR csR bg bf bw bt O bo bi bl ov (fun a b c x q cap w => a = tm ∧ b = kd ∧ c = nn ∧ Cx x q cap w ∧ (∃ en ev m, Mx m ∧ CW e w tm' en ev m) ∧ w.cell? ⟨bt, 0, none⟩ = some (.pointer (some ⟨e.T, 0, none⟩)) ∧ w.cell? ⟨bg, 0, none⟩ = some (.pointer (some ⟨e.A, 5, none⟩)) ∧ Num .u64 ⟨e.A, 5, none⟩ w 4294967296 ∧ Num .u32 ⟨e.A, 6, none⟩ w 0 ∧ Stay [e.J, HD, e.A, e.T, O] e.N w0 w ∧ w0.heap.size ≤ w.heap.size) ?_ w1 g1 g2 g3 B.cbf B.cbw B.cbt
    hbo hbi hbl (z1 _ _ (by decide) ho0).1 (z1 _ _ (by decide) ho1).1 (z1 _ _ (by decide) ho2).1 (z1 _ _ (by decide) ho3).1 (z1 _ _ (by decide) ho0).2 (z1 _ _ (by decide) ho1).2 (z1 _ _ (by decide) ho2).2 (z1 _ _ (by decide) ho3).2 dbo dbi dbl (ok_wrl hOl lO oO.2.2.2.1 g5 oO.2.2.2.2) ?_ ?_ ?_
  · intro a b c x q cap w w' k ⟨h1, h2, h3, h4, ⟨en, ev, m, h5, h6⟩, h7, h8, h9, h10, h11, h12⟩
    have hO' := oO.1
    have gt : bt ≠ O := by omega
    have gg : bg ≠ O := by omega
    have gA : e.A ≠ O := Ne.symm oO.2.2.2.1
    refine ⟨h1, h2, h3, hCx _ _ _ _ _ _ _ k (by simp; exact hO') (by simp) h4, ⟨en, ev, m, h5, h6.keep k (by intro y hy; simp at hy; subst hy; exact .inl ⟨hO', oO.2.2.2.1, oO.2.2.2.2, oO.2.1⟩) lA lT lJ (by simp)⟩, k.cell _ _ (by simp [gt]) h7, k.cell _ _ (by simp [gg]) h8, ⟨k.cell _ _ (by simp [gA]) h9.1, (k.froz _ _ (by simp [gA]) h9.1).trans h9.2⟩, ⟨k.cell _ _ (by simp [gA]) h10.1, (k.froz _ _ (by simp [gA]) h10.1).trans h10.2⟩, h11.kp k (by simp) (by simp), Nat.le_trans h12 k.size⟩
  · intro Ψ0 Ψ1 W c' cs hc
    refine hc38 Ψ0 Ψ1 W c' cs (fun v w' hp => hc v w' ?_)
    obtain ⟨x, q, cap, rfl, hx, en', ev', m, hm, hcw, r⟩ := hp
    have hk := r.kp.size
    have hk0 := k01.size
    refine ⟨tm, kd, nn, x, q, cap, rfl, ⟨rfl, rfl, rfl, hx, ⟨en', ev', m, hm, hcw⟩, (sm w' en' ev' r bt 0 _ (by omega) (by omega) (hent2 _ (by omega)) (by simp <;> omega) B.cbt).1, (sm w' en' ev' r bg 0 _ (by omega) (by omega) (hent2 _ (by omega)) (by simp <;> omega) B.cbg).1, ?_, ?_, ?_, by omega⟩, ?_⟩
    · have := sm w' en' ev' r e.A 5 _ nAJ (Ne.symm nHD) (hent _ lA) (by simp) B.st.1
      exact ⟨this.1, this.2.trans B.st.2⟩
    · have := sm w' en' ev' r e.A 6 _ nAJ (Ne.symm nHD) (hent _ lA) (by simp) B.se.1
      exact ⟨this.1, this.2.trans B.se.2⟩
    · exact s01.kp r.kp (by intro y hy; rw [row0] at hy; simp at hy; rcases hy with rfl | rfl | hy; simp; simp; right; exact (H.entN hy).1) (by simp)
    · intro b hb i v hv
      simp at hb
      have hb' : Off e.N e.J HD e.A e.T b := by rcases hb with rfl | rfl | rfl | rfl; exact obo; exact obi; exact obl; exact oO
      exact sm w' en' ev' r b i v hb'.2.1 hb'.2.2.1 (hent _ hb'.1) (by simp [hb'.2.2.2.1, hb'.2.2.2.2]) hv
  · intro a b c x q cap w ⟨_, _, _, _, ⟨en, ev, m, _, h6⟩, h7, h8, h9, h10, h11, h12⟩
    obtain ⟨bs, cp, hv, _⟩ := h6.emp.form
    exact ⟨h7, h8, h6.t7, h6.z7, ⟨bs, cp, by rw [← hv]; exact h6.a1⟩, h9, h10, h6.size⟩
  · intro a b c x q cap w2 wS ⟨rfl, rfl, rfl, h4, ⟨en, ev, m, h5, h6⟩, _, _, _, _, h11, h12⟩ p0 p1 p2 p3 kS w' hKJ
    obtain ⟨_, kE, hs, _⟩ := hKJ
    obtain ⟨km, hkm, hrow⟩ := h6.row
    have kk : Kp [e.ech] w2 w' [⟨e.T, 7, none⟩, ⟨e.A, 5, none⟩, ⟨e.A, 6, none⟩] := (kS.old (by simp) (by simp)).callN kE (fun y hy => .inl hy) (fun y hy => .inl (by simp at hy; rcases hy with rfl | rfl <;> simp))
    have nO : ∀ i, (⟨O, i, none⟩ : Addr) ∉ [(⟨e.T, 7, none⟩ : Addr), ⟨e.A, 5, none⟩, ⟨e.A, 6, none⟩] := fun i => by simp [oO.2.2.2.1, oO.2.2.2.2]
    have nO2 : ∀ i, (⟨O, i, none⟩ : Addr).block ∉ [e.ech] := fun i => by simp [nOe]
    refine hdone x q cap w' ev km m (hCx _ _ _ _ _ _ _ kk (by simp; exact hle.2) (by simp; exact ⟨lT, lA⟩) h4) h5 ?_ (kk.cellC _ _ (nO2 _) (nO _) p0) (kk.cellC _ _ (nO2 _) (nO _) p1) (kk.cellC _ _ (nO2 _) (nO _) p2) (kk.cellC _ _ (nO2 _) (nO _) p3) (kk.cellC _ _ (by simp [nJe]) (by simp [Ne.symm nAJ, Ne.symm nTJ]) h6.j0) ⟨hkm, kk.row hrow (fun g hg => ⟨by simp; have := (h6.rowN hg).1; omega, by simp; have := (h6.rowN hg).1; omega⟩)⟩ (Nat.le_trans h12 kk.size)
    intro a v ha hn hv
    obtain ⟨e1, e2⟩ := h11 a v ha hn hv
    have hae : a.block ≠ e.ech := fun z => by simp [World.cell?, z, OpenCh] at c2 hv; rw [c2] at hv; simp at hv
    simp at hn
    exact ⟨kk.cellC a v (by simp; exact hae) (by simp; refine ⟨fun z => hn.2.2.2.1 (by rw [z]), fun z => hn.2.2.1 (by rw [z]), fun z => hn.2.2.1 (by rw [z])⟩) e1, (kk.frozC a v (by simp; exact hae) (by simp; refine ⟨fun z => hn.2.2.2.1 (by rw [z]), fun z => hn.2.2.1 (by rw [z]), fun z => hn.2.2.1 (by rw [z])⟩) e1).trans e2⟩
end

end Go.Proofs.YtobagnjnbmgidaaGreatDoor
