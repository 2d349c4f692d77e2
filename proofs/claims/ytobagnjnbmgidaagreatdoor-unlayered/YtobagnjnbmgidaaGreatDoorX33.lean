/- The first bad layer. -/
import Derived.Test.YtobagnjnbmgidaaGreatDoorX30
set_option linter.unusedSimpArgs false
set_option linter.unusedVariables false
set_option maxHeartbeats 8000000
set_option maxRecDepth 100000
namespace Go.Proofs.YtobagnjnbmgidaaGreatDoor
open Go.Conc Go.RowKit
variable {main : Bool} {Ok : Addr → Bool → Prop}

def badAt (L : Nat → Nat → Int) : Nat → Nat → Int → Nat
  | 0, k, _ => k
  | m + 1, k, r => if 2 < (if L k 0 = 1 then r + 1 else r) ∨ goodL (L k 0) (L k 1) (L k 2) (L k 3) (L k 4) (L k 5) = false then k else badAt L m (k + 1) (if L k 0 = 1 then r + 1 else r)

def Hid (p : Prop) : Prop := p
def LaysAt (w : World) (sa : Option Addr) (n : Nat) (L : Nat → Nat → Int) : Prop := ∀ i, i < n → ∃ b o : Nat, sa = some ⟨b, o, none⟩ ∧ ∀ j, j < 6 → w.cell? ⟨b, o + i * 6 + j, none⟩ = some (.int .i64 (L i j))
theorem addN (b o n : Nat) : (⟨b, o, none⟩ : Addr).add n = ⟨b, o + n, none⟩ := by unfold Addr.add; split <;> simp_all

theorem fbl_x (N n cap : Nat) (sa : Option Addr) (L : Nat → Nat → Int) (w0 : World) (hN : N ≤ w0.heap.size) (hn : n ≤ 6) (hL : LaysAt w0 sa n L) (hrd : ∀ p : Addr, sa = some p → ∀ a : Addr, a.block = p.block → Ok a false) (hfr : ∀ a wr, N ≤ a.block → Ok a wr) :
    CallsX Tryz.prog main (DX Ok) 26 #[.slice sa n cap] w0 fun v w' => v = .int .i64 (badAt L n 0 0) ∧ Kp [] w0 w' := by
  intro Ψ F c cs hc; rw [enter_at _ Tryz.func26 rfl]; simp only [Tryz.ntmps26, List.size_toArray, List.length_cons, List.length_nil, Nat.reduceAdd, Nat.reduceSub, Array.replicate_succ, Array.replicate_zero, List.push_toArray, List.append_toArray, List.nil_append, List.cons_append]; refine F.sr ?_; simp only [rg, Nat.reduceAdd]; refine F.oq rfl rfl rfl (by simp [go_sem]) fun d K h => ?_; go_simp; refine h _ ?_; clear h K d; try walk_nrm
  refine F.esr ?_; simp only [rg, Nat.reduceAdd]; refine F.oq rfl rfl rfl (by simp [go_sem]) fun d K h => ?_; go_simp; refine h _ ?_; clear h K d; try walk_nrm
  refine F.es ?_; refine F.sr ?_; simp only [rg, Nat.reduceAdd]; iterate 3 (refine F.oq rfl rfl rfl (by simp [go_sem]) fun d K h => ?_; go_simp; refine h _ ?_; clear h K d; try walk_nrm)
  refine F.re ?_; refine F.bl ?_; refine F.ctl (fun _ => stepG_loop) ?_; refine loopN n (fun k a w => ∃ (y r : Int) (x4 x5 x9 x10 x11 x12 x13 x14 x15 x16 x17 x18 x19 x20 x21 x22 x23 x24 x25 x26 x27 x28 : Value), a = ⟨#[.slice sa n cap, undef, .int .i64 0, .int .i64 r, x4, x5, .slice sa n cap, .int .i64 n, .int .i64 y, x9, x10, x11, x12, x13, x14, x15, x16, x17, x18, x19, x20, x21, x22, x23, x24, x25, x26, x27, x28], []⟩ ∧ y = k ∧ Kp [] w0 w ∧ 0 ≤ r ∧ r ≤ 2 ∧ Hid (badAt L n 0 0 = badAt L (n - k) k r)) ?_ ?_ ⟨0, 0, undef, undef, undef, undef, undef, undef, undef, undef, undef, undef, undef, undef, undef, undef, undef, undef, undef, undef, undef, undef, undef, undef, rfl, rfl, Kp.refl _, by omega, by omega, rfl⟩
  · intro k a w hk hI hnext
    obtain ⟨y, r, x4, x5, x9, x10, x11, x12, x13, x14, x15, x16, x17, x18, x19, x20, x21, x22, x23, x24, x25, x26, x27, x28, rfl, rfl, kp, hr0, hr2, hb⟩ := hI; obtain ⟨pb, po, rfl, hj⟩ := hL k hk; have hrb : ∀ a : Addr, a.block = pb → Ok a false := hrd _ rfl; clear hrd hL; have hk' : (k : Int) < (n : Int) := by omega
    have hk0 : (0 : Int) ≤ (k : Int) := by omega
    have hwk : IntKind.i64.wrap ((k : Int) + 1) = (k : Int) + 1 := wr (by omega) (by omega); have hwr : IntKind.i64.wrap (r + 1) = r + 1 := wr (by omega) (by omega); have l0 := kp.cell _ _ (by simp) (hj 0 (by omega)); have l1 := kp.cell _ _ (by simp) (hj 1 (by omega)); have l2 := kp.cell _ _ (by simp) (hj 2 (by omega)); have l3 := kp.cell _ _ (by simp) (hj 3 (by omega)); have l4 := kp.cell _ _ (by simp) (hj 4 (by omega)); have l5 := kp.cell _ _ (by simp) (hj 5 (by omega)); simp only [Nat.add_zero] at l0 l1 l2 l3 l4 l5; have hsz := kp.size; clear hj; refine F.sr ?_; simp only [rg, Nat.reduceAdd]; refine F.oq rfl rfl rfl (by simp [go_sem]) fun d K h => ?_; go_simp; refine h _ ?_; clear h K d; try walk_nrm
    refine F.es ?_; refine F.ct rfl ?_; refine F.sk ?_; refine F.sq ?_; refine F.bl ?_; refine F.sr ?_; simp only [rg, Nat.reduceAdd]; iterate 2 (refine F.oq rfl rfl rfl (fun _ => by first | (simp [go_sem]; done) | simp [go_sem, Instr.makeInterface, Instr.makeFunc, *]) fun d K hK => ?_; go_simp; refine hK _ ?_; clear hK K d; try walk_nrm)
    try simp only [addN]
    refine F.ol rfl rfl rfl fun d K hK => ?_
    go_simp; refine hK _ (fun e hm => ?_) ?_
    · simp [go_sem, *] at hm
      rcases hm with rfl | rfl | rfl | rfl | rfl | rfl <;> exact evr (w := w) (by assumption) (by first | assumption | exact hrb _ rfl | (apply hfr <;> dsimp only <;> omega))
    clear hK K d; try walk_nrm
    clear l0 l1 l2 l3 l4 l5; refine F.op rfl rfl (by decide) (fun d K hK => ?_); go_simp; rw [alloc_at']; refine hK _ _ ⟨DX.alloc _ _ (fun e he => ?_), ?_⟩
    · have hm := mem_listed he
      simp [go_sem] at hm
    clear hK K d; try walk_nrm
    generalize ew1 : World.alloc w _ = w1; generalize hn1 : (World.heap w).size = n1; have sz1 := sz_al ew1 hn1; have hf0 := cl_new (i := 0) ew1 hn1 rfl; have zf0 := fz_new ew1 hn1 0; have hf1 := cl_new (i := 1) ew1 hn1 rfl; have zf1 := fz_new ew1 hn1 1; have hf2 := cl_new (i := 2) ew1 hn1 rfl; have zf2 := fz_new ew1 hn1 2; have hf3 := cl_new (i := 3) ew1 hn1 rfl; have zf3 := fz_new ew1 hn1 3; have hf4 := cl_new (i := 4) ew1 hn1 rfl; have zf4 := fz_new ew1 hn1 4; have hf5 := cl_new (i := 5) ew1 hn1 rfl; have zf5 := fz_new ew1 hn1 5; try simp only [List.getElem_toArray, List.getElem_cons_zero, List.getElem_cons_succ] at hf0 hf1 hf2 hf3 hf4 hf5
    replace kp := kp.alN ew1; refine F.oq rfl rfl rfl (by simp [go_sem]) fun d K h => ?_; go_simp; refine h _ ?_; clear h K d; try walk_nrm
    refine F.op rfl rfl (by decide) (fun d K hK => ?_); go_simp
    repeat rw [setCell_at']
    refine hK _ _ ⟨DX.set6 _ (by (first | assumption | exact hrb _ rfl | (apply hfr <;> dsimp only <;> omega))) (by (first | assumption | exact hrb _ rfl | (apply hfr <;> dsimp only <;> omega))) (by (first | assumption | exact hrb _ rfl | (apply hfr <;> dsimp only <;> omega))) (by (first | assumption | exact hrb _ rfl | (apply hfr <;> dsimp only <;> omega))) (by (first | assumption | exact hrb _ rfl | (apply hfr <;> dsimp only <;> omega))) (by (first | assumption | exact hrb _ rfl | (apply hfr <;> dsimp only <;> omega))) (fun e he => ?_), ?_⟩
    · have hm := mem_listed he
      simp [go_sem, storedEv, evst_slice, evst_ptr, evst_iface, evst_nil, evst_bool, *] at hm; rcases hm with rfl | rfl | rfl | rfl | rfl | rfl <;> exact .inl ⟨_, rfl, rfl, by (first | assumption | exact hrb _ rfl | (apply hfr <;> dsimp only <;> omega)), by simp only [size_at, size_set]; first | omega | exact lt_of_cell (by assumption)⟩
    clear hK K d; try walk_nrm
    generalize ew2 : World.setCell w1 _ _ = w2; have sz2 := sz_st ew2; replace zf0 := fz_st zf0 ew2; replace zf1 := fz_st zf1 ew2; replace zf2 := fz_st zf2 ew2; replace zf3 := fz_st zf3 ew2; replace zf4 := fz_st zf4 ew2; replace zf5 := fz_st zf5 ew2; replace hf0 := cl_st' hf0 ew2; replace hf1 := cl_st hf1 ew2 (by simp <;> omega); replace hf2 := cl_st hf2 ew2 (by simp <;> omega); replace hf3 := cl_st hf3 ew2 (by simp <;> omega); replace hf4 := cl_st hf4 ew2 (by simp <;> omega); replace hf5 := cl_st hf5 ew2 (by simp <;> omega); replace kp := kp.stN ew2 (by first | (left; simp; done) | (right; left; simp; done) | (right; right; dsimp only; omega)); generalize ew3 : World.setCell w2 _ _ = w3; have sz3 := sz_st ew3; replace zf0 := fz_st zf0 ew3; replace zf1 := fz_st zf1 ew3; replace zf2 := fz_st zf2 ew3; replace zf3 := fz_st zf3 ew3; replace zf4 := fz_st zf4 ew3; replace zf5 := fz_st zf5 ew3; replace hf0 := cl_st hf0 ew3 (by simp <;> omega); replace hf1 := cl_st' hf1 ew3; replace hf2 := cl_st hf2 ew3 (by simp <;> omega); replace hf3 := cl_st hf3 ew3 (by simp <;> omega); replace hf4 := cl_st hf4 ew3 (by simp <;> omega); replace hf5 := cl_st hf5 ew3 (by simp <;> omega); replace kp := kp.stN ew3 (by first | (left; simp; done) | (right; left; simp; done) | (right; right; dsimp only; omega)); generalize ew4 : World.setCell w3 _ _ = w4; have sz4 := sz_st ew4
    replace zf0 := fz_st zf0 ew4; replace zf1 := fz_st zf1 ew4; replace zf2 := fz_st zf2 ew4; replace zf3 := fz_st zf3 ew4; replace zf4 := fz_st zf4 ew4; replace zf5 := fz_st zf5 ew4; replace hf0 := cl_st hf0 ew4 (by simp <;> omega); replace hf1 := cl_st hf1 ew4 (by simp <;> omega); replace hf2 := cl_st' hf2 ew4; replace hf3 := cl_st hf3 ew4 (by simp <;> omega); replace hf4 := cl_st hf4 ew4 (by simp <;> omega); replace hf5 := cl_st hf5 ew4 (by simp <;> omega); replace kp := kp.stN ew4 (by first | (left; simp; done) | (right; left; simp; done) | (right; right; dsimp only; omega)); generalize ew5 : World.setCell w4 _ _ = w5; have sz5 := sz_st ew5; replace zf0 := fz_st zf0 ew5; replace zf1 := fz_st zf1 ew5; replace zf2 := fz_st zf2 ew5; replace zf3 := fz_st zf3 ew5; replace zf4 := fz_st zf4 ew5; replace zf5 := fz_st zf5 ew5; replace hf0 := cl_st hf0 ew5 (by simp <;> omega); replace hf1 := cl_st hf1 ew5 (by simp <;> omega); replace hf2 := cl_st hf2 ew5 (by simp <;> omega); replace hf3 := cl_st' hf3 ew5; replace hf4 := cl_st hf4 ew5 (by simp <;> omega); replace hf5 := cl_st hf5 ew5 (by simp <;> omega); replace kp := kp.stN ew5 (by first | (left; simp; done) | (right; left; simp; done) | (right; right; dsimp only; omega)); generalize ew6 : World.setCell w5 _ _ = w6; have sz6 := sz_st ew6; replace zf0 := fz_st zf0 ew6; replace zf1 := fz_st zf1 ew6
    replace zf2 := fz_st zf2 ew6; replace zf3 := fz_st zf3 ew6; replace zf4 := fz_st zf4 ew6; replace zf5 := fz_st zf5 ew6; replace hf0 := cl_st hf0 ew6 (by simp <;> omega); replace hf1 := cl_st hf1 ew6 (by simp <;> omega); replace hf2 := cl_st hf2 ew6 (by simp <;> omega); replace hf3 := cl_st hf3 ew6 (by simp <;> omega); replace hf4 := cl_st' hf4 ew6; replace hf5 := cl_st hf5 ew6 (by simp <;> omega); replace kp := kp.stN ew6 (by first | (left; simp; done) | (right; left; simp; done) | (right; right; dsimp only; omega)); generalize ew7 : World.setCell w6 _ _ = w7; have sz7 := sz_st ew7; replace zf0 := fz_st zf0 ew7; replace zf1 := fz_st zf1 ew7; replace zf2 := fz_st zf2 ew7; replace zf3 := fz_st zf3 ew7; replace zf4 := fz_st zf4 ew7; replace zf5 := fz_st zf5 ew7; replace hf0 := cl_st hf0 ew7 (by simp <;> omega); replace hf1 := cl_st hf1 ew7 (by simp <;> omega); replace hf2 := cl_st hf2 ew7 (by simp <;> omega); replace hf3 := cl_st hf3 ew7 (by simp <;> omega); replace hf4 := cl_st hf4 ew7 (by simp <;> omega); replace hf5 := cl_st' hf5 ew7; replace kp := kp.stN ew7 (by first | (left; simp; done) | (right; left; simp; done) | (right; right; dsimp only; omega)); refine F.es ?_; refine F.sr ?_; simp only [rg, Nat.reduceAdd]; refine F.oq rfl rfl rfl (by simp [go_sem]) fun d K h => ?_; go_simp; refine h _ ?_; clear h K d; try walk_nrm
    refine F.ol rfl rfl rfl fun d K h => ?_; go_simp; refine h _ (fun e m => ?_) ?_; simp [go_sem, *] at m; subst m; exact evr (w := w7) (by assumption) (by first | assumption | exact hrb _ rfl | (apply hfr <;> dsimp only <;> omega)); clear h K d; try walk_nrm
    by_cases hk1 : L k 0 = 1
    · refine F.opq rfl rfl (by decide) (fun _ => (by first | (simp [go_sem]; done) | (simp [go_sem, Instr.makeInterface, Instr.makeFunc]; done) | (simp [go_sem, *]; done))) (fun d K hK => ?_)
      go_simp; refine hK _ ?_; clear hK K d; try walk_nrm
      refine F.re ?_; refine F.ct rfl ?_; refine F.rr ?_; simp only [rg, Nat.reduceAdd]; iterate 3 (refine F.oq rfl rfl rfl (by simp [go_sem]) fun d K h => ?_; go_simp; refine h _ ?_; clear h K d; try walk_nrm)
      refine F.re ?_
      by_cases h3 : 2 < r + 1
      · refine F.ctl (fun _ => stepG_seq) ?_
        refine F.rr ?_; simp only [rg, Nat.reduceAdd]; iterate 3 (refine F.oq rfl rfl rfl (by simp [go_sem]) fun d K h => ?_; go_simp; refine h _ ?_; clear h K d; try walk_nrm)
        refine F.unwanted rfl rfl ?_; try walk_nrm
        refine F.unwanted rfl rfl ?_; try walk_nrm
        refine F.unwanted rfl rfl ?_; try walk_nrm
        refine F.oq rfl rfl rfl (by simp [go_sem]) fun d K h => ?_; go_simp; refine h _ ?_; clear h K d; try walk_nrm
        refine F.re ?_; refine F.ct rfl ?_; refine F.sr ?_; simp only [rg, Nat.reduceAdd]; iterate 2 (refine F.oq rfl rfl rfl (by simp [go_sem]) fun d K h => ?_; go_simp; refine h _ ?_; clear h K d; try walk_nrm)
        refine F.re ?_; refine F.ctl (fun _ => stepG_ret') ?_; refine F.leave rfl rfl Tryz.func26 (resultsC_tmp (by rfl) _) ?_; refine hc _ _ ⟨?_, kp⟩; have hnk : n - k = (n - (k + 1)) + 1 := by omega
        have hb2 : badAt L n 0 0 = badAt L (n - k) k r := hb; rw [hb2, hnk]; simp only [badAt, hk1, if_true]; simp [h3]
      have h3' : ¬ 2 < r + 1 := h3; refine F.sr ?_; simp only [rg, Nat.reduceAdd]; iterate 3 (refine F.oq rfl rfl rfl (by simp [go_sem]) fun d K h => ?_; go_simp; refine h _ ?_; clear h K d; try walk_nrm)
      refine F.ol rfl rfl rfl fun d K hK => ?_
      go_simp; refine hK _ (fun e hm => ?_) ?_
      · simp [go_sem, *] at hm
        rcases hm with rfl | rfl | rfl | rfl | rfl | rfl <;> exact evr (w := w7) (by assumption) (by first | assumption | exact hrb _ rfl | (apply hfr <;> dsimp only <;> omega))
      clear hK K d; try walk_nrm
      refine F.enter rfl rfl (by decide) (fun _ => run_call_body rfl Tryz.func40 (by rfl) (by rfl)) (fun _ => events_call_body rfl Tryz.func40 (by rfl) (by rfl) _) ?_; walk_nrm; refine goodLayer_x N 1 (L k 1) (L k 2) (L k 3) (L k 4) (L k 5) w7 (by omega) hfr _ F _ _ (fun v wc hp => ?_); obtain ⟨rfl, kq⟩ := hp; replace kp := kp.callN kq (by simp) (by simp); rw [Frame.finish_at]; cases hg : goodL 1 (L k 1) (L k 2) (L k 3) (L k 4) (L k 5) with
      | false =>
        try walk_nrm
        iterate 2 (refine F.oq rfl rfl rfl (by simp [go_sem]) fun d K h => ?_; go_simp; refine h _ ?_; clear h K d; try walk_nrm)
        refine F.re ?_; refine F.ct rfl ?_; refine F.sr ?_; simp only [rg, Nat.reduceAdd]; iterate 2 (refine F.oq rfl rfl rfl (by simp [go_sem]) fun d K h => ?_; go_simp; refine h _ ?_; clear h K d; try walk_nrm)
        refine F.re ?_; refine F.ctl (fun _ => stepG_ret') ?_; refine F.leave rfl rfl Tryz.func26 (resultsC_tmp (by rfl) _) ?_; refine hc _ _ ⟨?_, kp⟩; have hnk : n - k = (n - (k + 1)) + 1 := by omega
        have hb2 : badAt L n 0 0 = badAt L (n - k) k r := hb; rw [hb2, hnk]; simp only [badAt, hk1, if_true]; simp [hg]
      | true =>
        try walk_nrm
        iterate 2 (refine F.oq rfl rfl rfl (by simp [go_sem]) fun d K h => ?_; go_simp; refine h _ ?_; clear h K d; try walk_nrm)
        refine F.re ?_; refine F.cf rfl ?_; refine F.sk ?_; refine F.ib ?_; refine F.rr ?_; simp only [rg, Nat.reduceAdd]; iterate 2 (refine F.oq rfl rfl rfl (by simp [go_sem]) fun d K h => ?_; go_simp; refine h _ ?_; clear h K d; try walk_nrm)
        refine F.re ?_; refine F.ctl (fun _ => stepG_inLoop) ?_; refine hnext _ _ ⟨_, r + 1, _, _, _, _, _, _, _, _, _, _, _, _, _, _, _, _, _, _, _, _, _, _, rfl, by omega, kp, by omega, by omega, ?_⟩
        show badAt L n 0 0 = _
        have hnk : n - k = (n - (k + 1)) + 1 := by omega
        have hb2 : badAt L n 0 0 = badAt L (n - k) k r := hb; rw [hb2, hnk]; simp only [badAt, hk1, if_true]; simp [hg, h3]

    have hk1' : (L k 0 == 1) = false := by simpa using hk1
    refine F.oq rfl rfl rfl (by simp [go_sem]) fun d K h => ?_; go_simp; refine h _ ?_; clear h K d; try walk_nrm
    refine F.re ?_; refine F.cf rfl ?_; refine F.sk ?_
    by_cases h3 : 2 < r
    · refine F.ctl (fun _ => stepG_seq) ?_
      refine F.rr ?_; simp only [rg, Nat.reduceAdd]; iterate 3 (refine F.oq rfl rfl rfl (by simp [go_sem]) fun d K h => ?_; go_simp; refine h _ ?_; clear h K d; try walk_nrm)
      refine F.unwanted rfl rfl ?_; try walk_nrm
      refine F.unwanted rfl rfl ?_; try walk_nrm
      refine F.unwanted rfl rfl ?_; try walk_nrm
      refine F.oq rfl rfl rfl (by simp [go_sem]) fun d K h => ?_; go_simp; refine h _ ?_; clear h K d; try walk_nrm
      refine F.re ?_; refine F.ct rfl ?_; refine F.sr ?_; simp only [rg, Nat.reduceAdd]; iterate 2 (refine F.oq rfl rfl rfl (by simp [go_sem]) fun d K h => ?_; go_simp; refine h _ ?_; clear h K d; try walk_nrm)
      refine F.re ?_; refine F.ctl (fun _ => stepG_ret') ?_; refine F.leave rfl rfl Tryz.func26 (resultsC_tmp (by rfl) _) ?_; refine hc _ _ ⟨?_, kp⟩; have hnk : n - k = (n - (k + 1)) + 1 := by omega
      have hb2 : badAt L n 0 0 = badAt L (n - k) k r := hb; rw [hb2, hnk]; simp only [badAt, hk1, if_false]; simp [h3]
    have h3' : ¬ 2 < r := h3; refine F.sr ?_; simp only [rg, Nat.reduceAdd]; iterate 3 (refine F.oq rfl rfl rfl (by simp [go_sem]) fun d K h => ?_; go_simp; refine h _ ?_; clear h K d; try walk_nrm)
    refine F.ol rfl rfl rfl fun d K hK => ?_
    go_simp; refine hK _ (fun e hm => ?_) ?_
    · simp [go_sem, *] at hm
      rcases hm with rfl | rfl | rfl | rfl | rfl | rfl <;> exact evr (w := w7) (by assumption) (by first | assumption | exact hrb _ rfl | (apply hfr <;> dsimp only <;> omega))
    clear hK K d; try walk_nrm
    refine F.enter rfl rfl (by decide) (fun _ => run_call_body rfl Tryz.func40 (by rfl) (by rfl)) (fun _ => events_call_body rfl Tryz.func40 (by rfl) (by rfl) _) ?_; walk_nrm; refine goodLayer_x N (L k 0) (L k 1) (L k 2) (L k 3) (L k 4) (L k 5) w7 (by omega) hfr _ F _ _ (fun v wc hp => ?_); obtain ⟨rfl, kq⟩ := hp; replace kp := kp.callN kq (by simp) (by simp); rw [Frame.finish_at]; cases hg : goodL (L k 0) (L k 1) (L k 2) (L k 3) (L k 4) (L k 5) with
    | false =>
      try walk_nrm
      iterate 2 (refine F.oq rfl rfl rfl (by simp [go_sem]) fun d K h => ?_; go_simp; refine h _ ?_; clear h K d; try walk_nrm)
      refine F.re ?_; refine F.ct rfl ?_; refine F.sr ?_; simp only [rg, Nat.reduceAdd]; iterate 2 (refine F.oq rfl rfl rfl (by simp [go_sem]) fun d K h => ?_; go_simp; refine h _ ?_; clear h K d; try walk_nrm)
      refine F.re ?_; refine F.ctl (fun _ => stepG_ret') ?_; refine F.leave rfl rfl Tryz.func26 (resultsC_tmp (by rfl) _) ?_; refine hc _ _ ⟨?_, kp⟩; have hnk : n - k = (n - (k + 1)) + 1 := by omega
      have hb2 : badAt L n 0 0 = badAt L (n - k) k r := hb; rw [hb2, hnk]; simp only [badAt, hk1, if_false]; simp [hg]
    | true =>
      try walk_nrm
      iterate 2 (refine F.oq rfl rfl rfl (by simp [go_sem]) fun d K h => ?_; go_simp; refine h _ ?_; clear h K d; try walk_nrm)
      refine F.re ?_; refine F.cf rfl ?_; refine F.sk ?_; refine F.ib ?_; refine F.rr ?_; simp only [rg, Nat.reduceAdd]; iterate 2 (refine F.oq rfl rfl rfl (by simp [go_sem]) fun d K h => ?_; go_simp; refine h _ ?_; clear h K d; try walk_nrm)
      refine F.re ?_; refine F.ctl (fun _ => stepG_inLoop) ?_; refine hnext _ _ ⟨_, r, _, _, _, _, _, _, _, _, _, _, _, _, _, _, _, _, _, _, _, _, _, _, rfl, by omega, kp, by omega, by omega, ?_⟩
      show badAt L n 0 0 = _
      have hnk : n - k = (n - (k + 1)) + 1 := by omega
      have hb2 : badAt L n 0 0 = badAt L (n - k) k r := hb; rw [hb2, hnk]; simp only [badAt, hk1, if_false]; simp [hg, h3]

  · intro a w hI
    obtain ⟨y, r, x4, x5, x9, x10, x11, x12, x13, x14, x15, x16, x17, x18, x19, x20, x21, x22, x23, x24, x25, x26, x27, x28, rfl, rfl, kp, hr0, hr2, hb⟩ := hI; have hb1 : badAt L n 0 0 = badAt L (n - n) n r := hb; rw [Nat.sub_self] at hb1; have hb' : Hid (badAt L n 0 0 = n) := hb1; clear hb hb1; refine F.sr ?_; simp only [rg, Nat.reduceAdd]; refine F.oq rfl rfl rfl (by simp [go_sem]) fun d K h => ?_; go_simp; refine h _ ?_; clear h K d; try walk_nrm
    refine F.es ?_; refine F.cf rfl ?_; refine F.ctl (fun _ => stepG_exit rfl) ?_; refine F.sr ?_; simp only [rg, Nat.reduceAdd]; iterate 3 (refine F.oq rfl rfl rfl (by simp [go_sem]) fun d K h => ?_; go_simp; refine h _ ?_; clear h K d; try walk_nrm)
    refine F.re ?_; refine F.ctl (fun _ => stepG_ret') ?_; refine F.leave rfl rfl Tryz.func26 (resultsC_tmp (by rfl) _) ?_; exact hc _ _ ⟨by rw [show badAt L n 0 0 = n from hb']; rfl, kp⟩
end Go.Proofs.YtobagnjnbmgidaaGreatDoor
