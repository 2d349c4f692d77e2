/- Clients, as Check looks at them. -/
import Derived.Test.YtobagnjnbmgidaaGreatDoorX30
set_option linter.unusedSimpArgs false
set_option linter.unusedVariables false
set_option maxHeartbeats 8000000
set_option maxRecDepth 100000
namespace Go.Proofs.YtobagnjnbmgidaaGreatDoor
open Go.Conc Go.RowKit
variable {main : Bool} {Ok : Addr → Bool → Prop}

def Hid2 (p : Prop) : Prop := p
def goodT (T : Nat → Nat → Int) : Nat → Nat → Bool
  | 0, _ => true
  | m + 1, k => btw 1 (T k 0) 4 && btw 0 (T k 2) 1000 && goodT T m (k + 1)
def goodC (st : Int) (nt : Nat) (T : Nat → Nat → Int) : Bool := btw 0 st 1000 && !decide (12 < nt) && goodT T nt 0
def TurnsAt (w : World) (sa : Option Addr) (n : Nat) (T : Nat → Nat → Int) : Prop := ∀ i, i < n → ∃ b o : Nat, sa = some ⟨b, o, none⟩ ∧ ∀ j, j < 3 → w.cell? ⟨b, o + i * 3 + j, none⟩ = some (.int .i64 (T i j))
theorem TurnsAt.kp {w w' : World} {sa : Option Addr} {n : Nat} {T : Nat → Nat → Int} (h : TurnsAt w sa n T) (k : Kp [] w w') : TurnsAt w' sa n T := fun i hi => by
  obtain ⟨b, o, e, hj⟩ := h i hi; exact ⟨b, o, e, fun j hj' => k.cell _ _ (by simp) (hj j hj')⟩

theorem goodClient_x (N n cap : Nat) (st : Int) (sa : Option Addr) (T : Nat → Nat → Int) (w0 : World) (hN : N ≤ w0.heap.size) (hT : TurnsAt w0 sa n T) (hrd : 0 < n → ∀ p : Addr, sa = some p → ∀ a : Addr, a.block = p.block → Ok a false) (hfr : ∀ a wr, N ≤ a.block → Ok a wr) :
    CallsX Tryz.prog main (DX Ok) 41 #[.agg #[.int .i64 st, .slice sa n cap]] w0 fun v w' => v = .bool (goodC st n T) ∧ Kp [] w0 w' := by
  intro Ψ F c cs hc; rw [enter_at _ Tryz.func41 rfl]; simp only [Tryz.ntmps41, List.size_toArray, List.length_cons, List.length_nil, Nat.reduceAdd, Nat.reduceSub, Array.replicate_succ, Array.replicate_zero, List.push_toArray, List.append_toArray, List.nil_append, List.cons_append]; refine F.sr ?_; simp only [rg, Nat.reduceAdd]; refine F.op rfl rfl (by decide) (fun d K hK => ?_); go_simp; rw [alloc_at']; refine hK _ _ ⟨DX.alloc _ _ (fun e he => ?_), ?_⟩
  · have hm := mem_listed he
    simp [go_sem] at hm
  clear hK K d; try walk_nrm
  generalize ew1 : World.alloc w0 _ = w1; generalize hn1 : (World.heap w0).size = n1; have sz1 := sz_al ew1 hn1; have hf0 := cl_new (i := 0) ew1 hn1 rfl; have zf0 := fz_new ew1 hn1 0; have hf1 := cl_new (i := 1) ew1 hn1 rfl; have zf1 := fz_new ew1 hn1 1; try simp only [List.getElem_toArray, List.getElem_cons_zero, List.getElem_cons_succ] at hf0 hf1
  have kp : Kp [] w0 w0 [] := Kp.refl _; replace kp := kp.alN ew1; refine F.oq rfl rfl rfl (by simp [go_sem]) fun d K h => ?_; go_simp; refine h _ ?_; clear h K d; try walk_nrm
  refine F.es ?_; refine F.sr ?_; simp only [rg, Nat.reduceAdd]; refine F.oq rfl rfl rfl (by simp [go_sem]) fun d K h => ?_; go_simp; refine h _ ?_; clear h K d; try walk_nrm
  refine F.ol rfl rfl rfl fun d K h => ?_; go_simp; refine h _ (fun e m => ?_) ?_; simp [go_sem, *] at m; subst m; exact evr (w := w1) (by assumption) (by first | assumption | exact hrb _ rfl | (apply hfr <;> dsimp only <;> omega)); clear h K d; try walk_nrm
  have hn1' : w0.heap.size ≤ n1 ∧ n1 < w1.heap.size := ⟨Nat.le_of_eq hn1, by omega⟩; clear hn1 sz1 ew1; refine F.enter rfl rfl (by decide) (fun _ => run_call_body rfl Tryz.func57 (by rfl) (by rfl)) (fun _ => events_call_body rfl Tryz.func57 (by rfl) (by rfl) _) ?_; walk_nrm; refine between_x 0 st 1000 _ _ F _ _ (fun v wq hp => ?_); obtain ⟨rfl, hq⟩ := hp; have hq := hq.symm; subst hq; rw [Frame.finish_at]; try walk_nrm
  cases hb0 : btw 0 st 1000 with
  | false =>
    iterate 2 (refine F.oq rfl rfl rfl (by simp [go_sem]) fun d K h => ?_; go_simp; refine h _ ?_; clear h K d; try walk_nrm)
    refine F.unwanted rfl rfl ?_; try walk_nrm
    refine F.unwanted rfl rfl ?_; try walk_nrm
    refine F.unwanted rfl rfl ?_; try walk_nrm
    refine F.unwanted rfl rfl ?_; try walk_nrm
    refine F.oq rfl rfl rfl (by simp [go_sem]) fun d K h => ?_; go_simp; refine h _ ?_; clear h K d; try walk_nrm
    refine F.re ?_; refine F.ct rfl ?_; refine F.sr ?_; simp only [rg, Nat.reduceAdd]; refine F.oq rfl rfl rfl (by simp [go_sem]) fun d K h => ?_; go_simp; refine h _ ?_; clear h K d; try walk_nrm
    refine F.re ?_; refine F.ctl (fun _ => stepG_ret') ?_; refine F.leave rfl rfl Tryz.func41 (resultsC_tmp (by rfl) _) ?_; exact hc _ _ ⟨by simp [goodC, hb0], kp⟩
  | true =>
  by_cases h12 : (12 : Int) < (n : Int)
  · refine F.opq rfl rfl (by decide) (fun _ => (by first | (simp [go_sem]; done) | (simp [go_sem, Instr.makeInterface, Instr.makeFunc]; done) | (simp [go_sem, *]; done))) (fun d K hK => ?_)
    go_simp; refine hK _ ?_; clear hK K d; try walk_nrm
    iterate 2 (refine F.oq rfl rfl rfl (by simp [go_sem]) fun d K h => ?_; go_simp; refine h _ ?_; clear h K d; try walk_nrm)
    refine F.ol rfl rfl rfl fun d K h => ?_; go_simp; refine h _ (fun e m => ?_) ?_; simp [go_sem, *] at m; subst m; exact evr (w := w1) (by assumption) (by first | assumption | exact hrb _ rfl | (apply hfr <;> dsimp only <;> omega)); clear h K d; try walk_nrm
    iterate 3 (refine F.oq rfl rfl rfl (by simp [go_sem]) fun d K h => ?_; go_simp; refine h _ ?_; clear h K d; try walk_nrm)
    refine F.re ?_; refine F.ct rfl ?_; refine F.sr ?_; simp only [rg, Nat.reduceAdd]; refine F.oq rfl rfl rfl (by simp [go_sem]) fun d K h => ?_; go_simp; refine h _ ?_; clear h K d; try walk_nrm
    refine F.re ?_; refine F.ctl (fun _ => stepG_ret') ?_; refine F.leave rfl rfl Tryz.func41 (resultsC_tmp (by rfl) _) ?_; exact hc _ _ ⟨by simp [goodC, show 12 < n by omega], kp⟩
  iterate 3 (refine F.oq rfl rfl rfl (by simp [go_sem]) fun d K h => ?_; go_simp; refine h _ ?_; clear h K d; try walk_nrm)
  refine F.ol rfl rfl rfl fun d K h => ?_; go_simp; refine h _ (fun e m => ?_) ?_; simp [go_sem, *] at m; subst m; exact evr (w := w1) (by assumption) (by first | assumption | exact hrb _ rfl | (apply hfr <;> dsimp only <;> omega)); clear h K d; try walk_nrm
  iterate 3 (refine F.oq rfl rfl rfl (by simp [go_sem]) fun d K h => ?_; go_simp; refine h _ ?_; clear h K d; try walk_nrm)
  refine F.re ?_; refine F.cf rfl ?_; refine F.sk ?_; refine F.sq ?_; refine F.sr ?_; simp only [rg, Nat.reduceAdd]; refine F.oq rfl rfl rfl (by simp [go_sem]) fun d K h => ?_; go_simp; refine h _ ?_; clear h K d; try walk_nrm
  refine F.ol rfl rfl rfl fun d K h => ?_; go_simp; refine h _ (fun e m => ?_) ?_; simp [go_sem, *] at m; subst m; exact evr (w := w1) (by assumption) (by first | assumption | exact hrb _ rfl | (apply hfr <;> dsimp only <;> omega)); clear h K d; try walk_nrm
  iterate 2 (refine F.oq rfl rfl rfl (by simp [go_sem]) fun d K h => ?_; go_simp; refine h _ ?_; clear h K d; try walk_nrm)
  refine F.re ?_; refine F.bl ?_; refine F.ctl (fun _ => stepG_loop) ?_; refine loopN n (fun k a w => ∃ (y : Int) (x3 x4 x5 x6 x7 x8 x9 x10 x11 x12 x13 x14 x15 x19 x20 x21 x22 x23 x24 x25 x26 x27 x28 x29 x30 x31 x32 : Value), a = ⟨#[.agg #[.int .i64 st, .slice sa n cap], .pointer (some ⟨n1, 0, none⟩), .bool false, x3, x4, x5, x6, x7, x8, x9, x10, x11, x12, x13, x14, x15, .slice sa n cap, .int .i64 n, .int .i64 y, x19, x20, x21, x22, x23, x24, x25, x26, x27, x28, x29, x30, x31, x32], []⟩ ∧ y = k ∧ Kp [] w0 w ∧ Hid2 (goodT T n 0 = goodT T (n - k) k)) ?_ ?_ ⟨0, _, _, _, _, _, _, _, _, _, _, _, _, _, _, _, _, _, _, _, _, _, _, _, _, _, _, _, rfl, rfl, kp, rfl⟩
  · clear kp hf0 hf1 zf0 zf1
    intro k a w hk hI hnext; obtain ⟨y, x3, x4, x5, x6, x7, x8, x9, x10, x11, x12, x13, x14, x15, x19, x20, x21, x22, x23, x24, x25, x26, x27, x28, x29, x30, x31, x32, rfl, rfl, kp, hg⟩ := hI; obtain ⟨pb, po, rfl, hj⟩ := hT k hk; have hrb : ∀ a : Addr, a.block = pb → Ok a false := hrd (by omega) _ rfl; clear hrd hT; have hk' : (k : Int) < (n : Int) := by omega
    have hk0 : (0 : Int) ≤ (k : Int) := by omega
    have hwk : IntKind.i64.wrap ((k : Int) + 1) = (k : Int) + 1 := wr (by omega) (by omega); have l0 := kp.cell _ _ (by simp) (hj 0 (by omega)); have l1 := kp.cell _ _ (by simp) (hj 1 (by omega)); have l2 := kp.cell _ _ (by simp) (hj 2 (by omega)); simp only [Nat.add_zero] at l0 l1 l2; have hsz := kp.size; clear hj; refine F.sr ?_; simp only [rg, Nat.reduceAdd]; refine F.oq rfl rfl rfl (by simp [go_sem]) fun d K h => ?_; go_simp; refine h _ ?_; clear h K d; try walk_nrm
    refine F.es ?_; refine F.ct rfl ?_; refine F.sk ?_; refine F.sq ?_; refine F.bl ?_; refine F.sr ?_; simp only [rg, Nat.reduceAdd]; refine F.oq rfl rfl rfl (fun _ => by first | (simp [go_sem]; done) | simp [go_sem, Instr.makeInterface, Instr.makeFunc, *]) fun d K hK => ?_; go_simp; refine hK _ ?_; clear hK K d; try walk_nrm
    refine F.ol rfl rfl rfl fun d K hK => ?_
    go_simp; refine hK _ (fun e hm => ?_) ?_
    · simp [go_sem, *] at hm
      rcases hm with rfl | rfl | rfl <;> exact evr (w := w) (by assumption) (by first | assumption | exact hrb _ rfl | (apply hfr <;> dsimp only <;> omega))
    clear hK K d; try walk_nrm
    clear l0 l1 l2; refine F.op rfl rfl (by decide) (fun d K hK => ?_); go_simp; rw [alloc_at']; refine hK _ _ ⟨DX.alloc _ _ (fun e he => ?_), ?_⟩
    · have hm := mem_listed he
      simp [go_sem] at hm
    clear hK K d; try walk_nrm
    generalize ew2 : World.alloc w _ = w2; generalize hn2 : (World.heap w).size = n2; have sz2 := sz_al ew2 hn2; have ht0 := cl_new (i := 0) ew2 hn2 rfl; have zt0 := fz_new ew2 hn2 0; have ht1 := cl_new (i := 1) ew2 hn2 rfl; have zt1 := fz_new ew2 hn2 1; have ht2 := cl_new (i := 2) ew2 hn2 rfl; have zt2 := fz_new ew2 hn2 2; try simp only [List.getElem_toArray, List.getElem_cons_zero, List.getElem_cons_succ] at ht0 ht1 ht2
    replace kp := kp.alN ew2; refine F.op rfl rfl (by decide) (fun d K hK => ?_); go_simp
    repeat rw [setCell_at']
    refine hK _ _ ⟨DX.set3 _ (by (first | assumption | exact hrb _ rfl | (apply hfr <;> dsimp only <;> omega))) (by (first | assumption | exact hrb _ rfl | (apply hfr <;> dsimp only <;> omega))) (by (first | assumption | exact hrb _ rfl | (apply hfr <;> dsimp only <;> omega))) (fun e he => ?_), ?_⟩
    · have hm := mem_listed he
      simp [go_sem, storedEv, evst_slice, evst_ptr, evst_iface, evst_nil, evst_bool, *] at hm; rcases hm with rfl | rfl | rfl <;> exact .inl ⟨_, rfl, rfl, by (first | assumption | exact hrb _ rfl | (apply hfr <;> dsimp only <;> omega)), by simp only [size_at, size_set]; first | omega | exact lt_of_cell (by assumption)⟩
    clear hK K d; try walk_nrm
    generalize ew3 : World.setCell w2 _ _ = w3; have sz3 := sz_st ew3; replace zt0 := fz_st zt0 ew3; replace zt1 := fz_st zt1 ew3; replace zt2 := fz_st zt2 ew3; replace ht0 := cl_st' ht0 ew3; replace ht1 := cl_st ht1 ew3 (by simp <;> omega); replace ht2 := cl_st ht2 ew3 (by simp <;> omega); replace kp := kp.stN ew3 (by first | (left; simp; done) | (right; left; simp; done) | (right; right; dsimp only; omega)); generalize ew4 : World.setCell w3 _ _ = w4; have sz4 := sz_st ew4; replace zt0 := fz_st zt0 ew4; replace zt1 := fz_st zt1 ew4; replace zt2 := fz_st zt2 ew4; replace ht0 := cl_st ht0 ew4 (by simp <;> omega); replace ht1 := cl_st' ht1 ew4; replace ht2 := cl_st ht2 ew4 (by simp <;> omega); replace kp := kp.stN ew4 (by first | (left; simp; done) | (right; left; simp; done) | (right; right; dsimp only; omega)); generalize ew5 : World.setCell w4 _ _ = w5; have sz5 := sz_st ew5; replace zt0 := fz_st zt0 ew5; replace zt1 := fz_st zt1 ew5; replace zt2 := fz_st zt2 ew5; replace ht0 := cl_st ht0 ew5 (by simp <;> omega); replace ht1 := cl_st ht1 ew5 (by simp <;> omega); replace ht2 := cl_st' ht2 ew5; replace kp := kp.stN ew5 (by first | (left; simp; done) | (right; left; simp; done) | (right; right; dsimp only; omega)); refine F.esr ?_; simp only [rg, Nat.reduceAdd]; refine F.oq rfl rfl rfl (by simp [go_sem]) fun d K h => ?_; go_simp; refine h _ ?_; clear h K d; try walk_nrm
    refine F.ol rfl rfl rfl fun d K h => ?_; go_simp; refine h _ (fun e m => ?_) ?_; simp [go_sem, *] at m; subst m; exact evr (w := w5) (by assumption) (by first | assumption | exact hrb _ rfl | (apply hfr <;> dsimp only <;> omega)); clear h K d; try walk_nrm
    refine F.enter rfl rfl (by decide) (fun _ => run_call_body rfl Tryz.func57 (by rfl) (by rfl)) (fun _ => events_call_body rfl Tryz.func57 (by rfl) (by rfl) _) ?_; walk_nrm; refine between_x 1 (T k 0) 4 _ _ F _ _ (fun v wq hp => ?_); obtain ⟨rfl, hq⟩ := hp; have hq := hq.symm; subst hq; rw [Frame.finish_at]; try walk_nrm
    cases hb1 : btw 1 (T k 0) 4 with
    | false =>
      iterate 2 (refine F.oq rfl rfl rfl (by simp [go_sem]) fun d K h => ?_; go_simp; refine h _ ?_; clear h K d; try walk_nrm)
      refine F.unwanted rfl rfl ?_; try walk_nrm
      refine F.unwanted rfl rfl ?_; try walk_nrm
      refine F.unwanted rfl rfl ?_; try walk_nrm
      refine F.unwanted rfl rfl ?_; try walk_nrm
      refine F.oq rfl rfl rfl (by simp [go_sem]) fun d K h => ?_; go_simp; refine h _ ?_; clear h K d; try walk_nrm
      refine F.re ?_; refine F.ct rfl ?_; refine F.sr ?_; simp only [rg, Nat.reduceAdd]; refine F.oq rfl rfl rfl (by simp [go_sem]) fun d K h => ?_; go_simp; refine h _ ?_; clear h K d; try walk_nrm
      refine F.re ?_; refine F.ctl (fun _ => stepG_ret') ?_; refine F.leave rfl rfl Tryz.func41 (resultsC_tmp (by rfl) _) ?_; refine hc _ _ ⟨?_, kp⟩; have hnk : n - k = (n - (k + 1)) + 1 := by omega
      have hg2 : goodT T n 0 = goodT T (n - k) k := hg; rw [goodC, hg2, hnk]; simp [goodT, hb1]
    | true =>
    iterate 3 (refine F.oq rfl rfl rfl (by simp [go_sem]) fun d K h => ?_; go_simp; refine h _ ?_; clear h K d; try walk_nrm)
    refine F.ol rfl rfl rfl fun d K h => ?_; go_simp; refine h _ (fun e m => ?_) ?_; simp [go_sem, *] at m; subst m; exact evr (w := w5) (by assumption) (by first | assumption | exact hrb _ rfl | (apply hfr <;> dsimp only <;> omega)); clear h K d; try walk_nrm
    refine F.enter rfl rfl (by decide) (fun _ => run_call_body rfl Tryz.func57 (by rfl) (by rfl)) (fun _ => events_call_body rfl Tryz.func57 (by rfl) (by rfl) _) ?_; walk_nrm; refine between_x 0 (T k 2) 1000 _ _ F _ _ (fun v wq hp => ?_); obtain ⟨rfl, hq⟩ := hp; have hq := hq.symm; subst hq; rw [Frame.finish_at]; try walk_nrm
    cases hb2 : btw 0 (T k 2) 1000 with
    | false =>
      iterate 2 (refine F.oq rfl rfl rfl (by simp [go_sem]) fun d K h => ?_; go_simp; refine h _ ?_; clear h K d; try walk_nrm)
      refine F.re ?_; refine F.ct rfl ?_; refine F.sr ?_; simp only [rg, Nat.reduceAdd]; refine F.oq rfl rfl rfl (by simp [go_sem]) fun d K h => ?_; go_simp; refine h _ ?_; clear h K d; try walk_nrm
      refine F.re ?_; refine F.ctl (fun _ => stepG_ret') ?_; refine F.leave rfl rfl Tryz.func41 (resultsC_tmp (by rfl) _) ?_; refine hc _ _ ⟨?_, kp⟩; have hnk : n - k = (n - (k + 1)) + 1 := by omega
      have hg2 : goodT T n 0 = goodT T (n - k) k := hg; rw [goodC, hg2, hnk]; simp [goodT, hb2]
    | true =>
    iterate 2 (refine F.oq rfl rfl rfl (by simp [go_sem]) fun d K h => ?_; go_simp; refine h _ ?_; clear h K d; try walk_nrm)
    refine F.re ?_; refine F.cf rfl ?_; refine F.sk ?_; refine F.ib ?_; refine F.rr ?_; simp only [rg, Nat.reduceAdd]; iterate 2 (refine F.oq rfl rfl rfl (by simp [go_sem]) fun d K h => ?_; go_simp; refine h _ ?_; clear h K d; try walk_nrm)
    refine F.re ?_; refine F.ctl (fun _ => stepG_inLoop) ?_; refine hnext _ _ ⟨_, _, _, _, _, _, _, _, _, _, _, _, _, _, _, _, _, _, _, _, _, _, _, _, _, _, _, _, rfl, by omega, kp, ?_⟩
    show goodT T n 0 = _
    have hnk : n - k = (n - (k + 1)) + 1 := by omega
    have hg2 : goodT T n 0 = goodT T (n - k) k := hg; rw [hg2, hnk]; simp [goodT, hb1, hb2]
  · intro a w hI
    obtain ⟨y, x3, x4, x5, x6, x7, x8, x9, x10, x11, x12, x13, x14, x15, x19, x20, x21, x22, x23, x24, x25, x26, x27, x28, x29, x30, x31, x32, rfl, rfl, kp, hg⟩ := hI; refine F.sr ?_; simp only [rg, Nat.reduceAdd]; refine F.oq rfl rfl rfl (by simp [go_sem]) fun d K h => ?_; go_simp; refine h _ ?_; clear h K d; try walk_nrm
    refine F.es ?_; refine F.cf rfl ?_; refine F.ctl (fun _ => stepG_exit rfl) ?_; refine F.sr ?_; simp only [rg, Nat.reduceAdd]; refine F.oq rfl rfl rfl (by simp [go_sem]) fun d K h => ?_; go_simp; refine h _ ?_; clear h K d; try walk_nrm
    refine F.re ?_; refine F.ctl (fun _ => stepG_ret') ?_; refine F.leave rfl rfl Tryz.func41 (resultsC_tmp (by rfl) _) ?_; have hg2 : goodT T n 0 = goodT T (n - n) n := hg; rw [Nat.sub_self] at hg2; have hn12 : n ≤ 12 := by omega
    exact hc _ _ ⟨by rw [goodC, hg2]; simp [goodT, hb0, hn12], kp⟩
end Go.Proofs.YtobagnjnbmgidaaGreatDoor
