/- What Check and the document's own Check look at: layers and clients, whatever they are. -/
import Derived.Test.YtobagnjnbmgidaaGreatDoorX8
set_option linter.unusedSimpArgs false
set_option linter.unusedVariables false
set_option maxHeartbeats 2000000
set_option maxRecDepth 100000
namespace Go.Proofs.YtobagnjnbmgidaaGreatDoor
open Go.Conc Go.RowKit
variable {main : Bool} {Ok : Addr → Bool → Prop}

theorem loopN {Ψ : Goroutine → World → Prop} {b : Frame} {its : List Item} {cs : List Frame} (m : Nat) (I : Nat → Act → World → Prop)
    (hstep : ∀ k a w, k < m → I k a w → (∀ a' w', I (k + 1) a' w' → Ψ (G (b.at a' its) cs) w') → Ψ (G (b.at a its) cs) w)
    (hend : ∀ a w, I m a w → Ψ (G (b.at a its) cs) w) {a : Act} {w : World} (h0 : I 0 a w) : Ψ (G (b.at a its) cs) w := by
  have claim : ∀ (j k : Nat), k + j = m → ∀ a w, I k a w → Ψ (G (b.at a its) cs) w := by
    intro j
    induction j with
    | zero => intro k hk a w hI; obtain rfl : k = m := by omega
              exact hend a w hI
    | succ j ih => intro k hk a w hI; exact hstep k a w (by omega) hI fun a' w' hI' => ih (k + 1) (by omega) a' w' hI'
  exact claim m 0 (by omega) a w h0

theorem DX.set6 {a1 a2 a3 a4 a5 a6 : Addr} {v1 v2 v3 v4 v5 v6 : Value} {w : World} {es : Array Event} (d : Nat) (o1 : Ok a1 true) (o2 : Ok a2 true) (o3 : Ok a3 true) (o4 : Ok a4 true) (o5 : Ok a5 true) (o6 : Ok a6 true) (h : ∀ e ∈ es, EvX Ok (((((((w.setCell a1 v1).setCell a2 v2).setCell a3 v3).setCell a4 v4).setCell a5 v5).setCell a6 v6).at d) e) :
    DX Ok (w.at d) (((((((w.setCell a1 v1).setCell a2 v2).setCell a3 v3).setCell a4 v4).setCell a5 v5).setCell a6 v6).at d) es :=
  DX.sets d [(a1, v1), (a2, v2), (a3, v3), (a4, v4), (a5, v5), (a6, v6)] w (by simp [o1, o2, o3, o4, o5, o6]) h

theorem size_at (w : World) (d : Nat) : (w.at d).heap.size = w.heap.size := rfl
theorem size_set (w : World) (a : Addr) (v : Value) : (w.setCell a v).heap.size = w.heap.size := by simp [World.setCell]
theorem wr {x : Int} (h1 : -1000000 ≤ x) (h2 : x ≤ 1000000) : IntKind.i64.wrap x = x := by
  simp only [IntKind.wrap, IntKind.bits, IntKind.signed] <;> (try simp) <;> omega

def btw (lo n hi : Int) : Bool := decide (lo ≤ n) && decide (n ≤ hi)
def goodL (k a b c d e : Int) : Bool :=
  if k = 1 then btw 1 a 9 && btw 0 b 1000 && btw 1 c 9 && btw 0 d 10000 else if k = 2 then true else if k = 3 then btw 1 a 1000 && btw 1 b 20
  else if k = 4 then btw 1 a 20 && btw 1 b a && btw 1 c 100 && btw 0 d 1000 && btw 1 e 9 else if k = 5 then btw 1 a 9 && btw 0 b 1000 else if k = 6 then btw 1 a 1000 else false

theorem between_x (lo n hi : Int) (w0 : World) : CallsX Tryz.prog main (DX Ok) 57 #[.int .i64 lo, .int .i64 n, .int .i64 hi] w0 fun v w' => v = .bool (btw lo n hi) ∧ w' = w0 := by
  intro Ψ F c cs hc; rw [enter_at _ Tryz.func57 rfl]; simp only [Tryz.ntmps57, List.size_toArray, List.length_cons, List.length_nil, Nat.reduceAdd, Nat.reduceSub, Array.replicate_succ, Array.replicate_zero, List.push_toArray, List.append_toArray, List.nil_append, List.cons_append]
  by_cases h1 : lo ≤ n
  · by_cases h2 : n ≤ hi
    · refine F.ctl (fun _ => stepG_seq) ?_
      refine F.rr ?_; simp only [rg, Nat.reduceAdd]; refine F.oq rfl rfl rfl (by simp [go_sem]) fun d K h => ?_; go_simp; refine h _ ?_; clear h K d; try walk_nrm
      refine F.esr ?_; simp only [rg, Nat.reduceAdd]; iterate 9 (refine F.oq rfl rfl rfl (by simp [go_sem]) fun d K h => ?_; go_simp; refine h _ ?_; clear h K d; try walk_nrm)
      refine F.re ?_; refine F.ctl (fun _ => stepG_ret') ?_; refine F.leave rfl rfl Tryz.func57 (resultsC_tmp (by rfl) _) ?_; exact hc _ _ ⟨by simp [btw, h1, h2], rfl⟩
    · refine F.ctl (fun _ => stepG_seq) ?_
      refine F.rr ?_; simp only [rg, Nat.reduceAdd]; refine F.oq rfl rfl rfl (by simp [go_sem]) fun d K h => ?_; go_simp; refine h _ ?_; clear h K d; try walk_nrm
      refine F.esr ?_; simp only [rg, Nat.reduceAdd]; iterate 9 (refine F.oq rfl rfl rfl (by simp [go_sem]) fun d K h => ?_; go_simp; refine h _ ?_; clear h K d; try walk_nrm)
      refine F.re ?_; refine F.ctl (fun _ => stepG_ret') ?_; refine F.leave rfl rfl Tryz.func57 (resultsC_tmp (by rfl) _) ?_; exact hc _ _ ⟨by simp [btw, h1, h2], rfl⟩
  · refine F.ctl (fun _ => stepG_seq) ?_
    refine F.rr ?_; simp only [rg, Nat.reduceAdd]; refine F.oq rfl rfl rfl (by simp [go_sem]) fun d K h => ?_; go_simp; refine h _ ?_; clear h K d; try walk_nrm
    refine F.esr ?_; simp only [rg, Nat.reduceAdd]; iterate 4 (refine F.oq rfl rfl rfl (by simp [go_sem]) fun d K h => ?_; go_simp; refine h _ ?_; clear h K d; try walk_nrm)
    refine F.unwanted rfl rfl ?_; try walk_nrm
    refine F.unwanted rfl rfl ?_; try walk_nrm
    refine F.unwanted rfl rfl ?_; try walk_nrm
    iterate 2 (refine F.oq rfl rfl rfl (by simp [go_sem]) fun d K h => ?_; go_simp; refine h _ ?_; clear h K d; try walk_nrm)
    refine F.re ?_; refine F.ctl (fun _ => stepG_ret') ?_; refine F.leave rfl rfl Tryz.func57 (resultsC_tmp (by rfl) _) ?_; exact hc _ _ ⟨by simp [btw, h1], rfl⟩

theorem goodLayer_x (N : Nat) (k a b c d e : Int) (w0 : World) (hN : N ≤ w0.heap.size) (hfr : ∀ a wr, N ≤ a.block → Ok a wr) :
    CallsX Tryz.prog main (DX Ok) 40 #[.agg #[.int .i64 k, .int .i64 a, .int .i64 b, .int .i64 c, .int .i64 d, .int .i64 e]] w0 fun v w' => v = .bool (goodL k a b c d e) ∧ Kp [] w0 w' := by
  intro Ψ F c0 cs hc; rw [enter_at _ Tryz.func40 rfl]; simp only [Tryz.ntmps40, List.size_toArray, List.length_cons, List.length_nil, Nat.reduceAdd, Nat.reduceSub, Array.replicate_succ, Array.replicate_zero, List.push_toArray, List.append_toArray, List.nil_append, List.cons_append]; refine F.sr ?_; simp only [rg, Nat.reduceAdd]; refine F.op rfl rfl (by decide) (fun d K hK => ?_); go_simp; rw [alloc_at']; refine hK _ _ ⟨DX.alloc _ _ (fun e he => ?_), ?_⟩
  · have hm := mem_listed he
    simp [go_sem] at hm
  clear hK K d; try walk_nrm
  generalize ew1 : World.alloc w0 _ = w1; generalize hn1 : (World.heap w0).size = n1; have sz1 := sz_al ew1 hn1; have hf0 := cl_new (i := 0) ew1 hn1 rfl; have zf0 := fz_new ew1 hn1 0; have hf1 := cl_new (i := 1) ew1 hn1 rfl; have zf1 := fz_new ew1 hn1 1; have hf2 := cl_new (i := 2) ew1 hn1 rfl; have zf2 := fz_new ew1 hn1 2; have hf3 := cl_new (i := 3) ew1 hn1 rfl; have zf3 := fz_new ew1 hn1 3; have hf4 := cl_new (i := 4) ew1 hn1 rfl; have zf4 := fz_new ew1 hn1 4; have hf5 := cl_new (i := 5) ew1 hn1 rfl; have zf5 := fz_new ew1 hn1 5; try simp only [List.getElem_toArray, List.getElem_cons_zero, List.getElem_cons_succ] at hf0 hf1 hf2 hf3 hf4 hf5
  have kp : Kp [] w0 w0 [] := Kp.refl _; replace kp := kp.alN ew1; refine F.oq rfl rfl rfl (by simp [go_sem]) fun d K h => ?_; go_simp; refine h _ ?_; clear h K d; try walk_nrm
  refine F.es ?_; refine F.sr ?_; simp only [rg, Nat.reduceAdd]; refine F.oq rfl rfl rfl (by simp [go_sem]) fun d K h => ?_; go_simp; refine h _ ?_; clear h K d; try walk_nrm
  refine F.ol rfl rfl rfl fun d K h => ?_; go_simp; refine h _ (fun e m => ?_) ?_; simp [go_sem, *] at m; subst m; exact evr (w := w1) (by assumption) (by first | assumption | (apply hfr <;> dsimp only <;> omega)); clear h K d; try walk_nrm
  refine F.re ?_; refine F.bl ?_; have sz1' : n1 + 1 ≤ w1.heap.size := Nat.le_of_eq sz1.symm; have hn1' : w0.heap.size ≤ n1 := Nat.le_of_eq hn1; clear sz1 hn1 ew1
  by_cases k1 : k = 1
  · refine F.ctl (fun _ => stepG_seq) ?_
    refine F.rr ?_; simp only [rg, Nat.reduceAdd]; iterate 2 (refine F.oq rfl rfl rfl (by simp [go_sem]) fun d K h => ?_; go_simp; refine h _ ?_; clear h K d; try walk_nrm)
    refine F.re ?_; refine F.ct rfl ?_; refine F.sr ?_; simp only [rg, Nat.reduceAdd]; refine F.oq rfl rfl rfl (by simp [go_sem]) fun d K h => ?_; go_simp; refine h _ ?_; clear h K d; try walk_nrm
    refine F.ol rfl rfl rfl fun d K h => ?_; go_simp; refine h _ (fun e m => ?_) ?_; simp [go_sem, *] at m; subst m; exact evr (w := w1) (by assumption) (by first | assumption | (apply hfr <;> dsimp only <;> omega)); clear h K d; try walk_nrm
    refine F.enter rfl rfl (by decide) (fun _ => run_call_body rfl Tryz.func57 (by rfl) (by rfl)) (fun _ => events_call_body rfl Tryz.func57 (by rfl) (by rfl) _) ?_; walk_nrm; refine between_x 1 a 9 _ _ F _ _ (fun v wq hp => ?_); obtain ⟨rfl, hq⟩ := hp; have hq := hq.symm; subst hq; rw [Frame.finish_at]; try walk_nrm
    cases hb0 : btw 1 a 9 with
    | false =>
      refine F.oq rfl rfl rfl (by simp [go_sem]) fun d K h => ?_; go_simp; refine h _ ?_; clear h K d; try walk_nrm
      refine F.unwanted rfl rfl ?_; try walk_nrm
      refine F.unwanted rfl rfl ?_; try walk_nrm
      refine F.unwanted rfl rfl ?_; try walk_nrm
      iterate 2 (refine F.oq rfl rfl rfl (by simp [go_sem]) fun d K h => ?_; go_simp; refine h _ ?_; clear h K d; try walk_nrm)
      refine F.unwanted rfl rfl ?_; try walk_nrm
      refine F.unwanted rfl rfl ?_; try walk_nrm
      refine F.unwanted rfl rfl ?_; try walk_nrm
      iterate 2 (refine F.oq rfl rfl rfl (by simp [go_sem]) fun d K h => ?_; go_simp; refine h _ ?_; clear h K d; try walk_nrm)
      refine F.unwanted rfl rfl ?_; try walk_nrm
      refine F.unwanted rfl rfl ?_; try walk_nrm
      refine F.unwanted rfl rfl ?_; try walk_nrm
      iterate 2 (refine F.oq rfl rfl rfl (by simp [go_sem]) fun d K h => ?_; go_simp; refine h _ ?_; clear h K d; try walk_nrm)
      refine F.re ?_; refine F.ctl (fun _ => stepG_ret') ?_; refine F.leave rfl rfl Tryz.func40 (resultsC_tmp (by rfl) _) ?_; exact hc _ _ ⟨by simp [goodL, k1, hb0], kp⟩
    | true =>
      iterate 2 (refine F.oq rfl rfl rfl (by simp [go_sem]) fun d K h => ?_; go_simp; refine h _ ?_; clear h K d; try walk_nrm)
      refine F.ol rfl rfl rfl fun d K h => ?_; go_simp; refine h _ (fun e m => ?_) ?_; simp [go_sem, *] at m; subst m; exact evr (w := w1) (by assumption) (by first | assumption | (apply hfr <;> dsimp only <;> omega)); clear h K d; try walk_nrm
      refine F.enter rfl rfl (by decide) (fun _ => run_call_body rfl Tryz.func57 (by rfl) (by rfl)) (fun _ => events_call_body rfl Tryz.func57 (by rfl) (by rfl) _) ?_; walk_nrm; refine between_x 0 b 1000 _ _ F _ _ (fun v wq hp => ?_); obtain ⟨rfl, hq⟩ := hp; have hq := hq.symm; subst hq; rw [Frame.finish_at]; try walk_nrm
      cases hb1 : btw 0 b 1000 with
      | false =>
        iterate 2 (refine F.oq rfl rfl rfl (by simp [go_sem]) fun d K h => ?_; go_simp; refine h _ ?_; clear h K d; try walk_nrm)
        refine F.unwanted rfl rfl ?_; try walk_nrm
        refine F.unwanted rfl rfl ?_; try walk_nrm
        refine F.unwanted rfl rfl ?_; try walk_nrm
        iterate 2 (refine F.oq rfl rfl rfl (by simp [go_sem]) fun d K h => ?_; go_simp; refine h _ ?_; clear h K d; try walk_nrm)
        refine F.unwanted rfl rfl ?_; try walk_nrm
        refine F.unwanted rfl rfl ?_; try walk_nrm
        refine F.unwanted rfl rfl ?_; try walk_nrm
        iterate 2 (refine F.oq rfl rfl rfl (by simp [go_sem]) fun d K h => ?_; go_simp; refine h _ ?_; clear h K d; try walk_nrm)
        refine F.re ?_; refine F.ctl (fun _ => stepG_ret') ?_; refine F.leave rfl rfl Tryz.func40 (resultsC_tmp (by rfl) _) ?_; exact hc _ _ ⟨by simp [goodL, k1, hb0, hb1], kp⟩
      | true =>
        iterate 3 (refine F.oq rfl rfl rfl (by simp [go_sem]) fun d K h => ?_; go_simp; refine h _ ?_; clear h K d; try walk_nrm)
        refine F.ol rfl rfl rfl fun d K h => ?_; go_simp; refine h _ (fun e m => ?_) ?_; simp [go_sem, *] at m; subst m; exact evr (w := w1) (by assumption) (by first | assumption | (apply hfr <;> dsimp only <;> omega)); clear h K d; try walk_nrm
        refine F.enter rfl rfl (by decide) (fun _ => run_call_body rfl Tryz.func57 (by rfl) (by rfl)) (fun _ => events_call_body rfl Tryz.func57 (by rfl) (by rfl) _) ?_; walk_nrm; refine between_x 1 c 9 _ _ F _ _ (fun v wq hp => ?_); obtain ⟨rfl, hq⟩ := hp; have hq := hq.symm; subst hq; rw [Frame.finish_at]; try walk_nrm
        cases hb2 : btw 1 c 9 with
        | false =>
          iterate 2 (refine F.oq rfl rfl rfl (by simp [go_sem]) fun d K h => ?_; go_simp; refine h _ ?_; clear h K d; try walk_nrm)
          refine F.unwanted rfl rfl ?_; try walk_nrm
          refine F.unwanted rfl rfl ?_; try walk_nrm
          refine F.unwanted rfl rfl ?_; try walk_nrm
          iterate 2 (refine F.oq rfl rfl rfl (by simp [go_sem]) fun d K h => ?_; go_simp; refine h _ ?_; clear h K d; try walk_nrm)
          refine F.re ?_; refine F.ctl (fun _ => stepG_ret') ?_; refine F.leave rfl rfl Tryz.func40 (resultsC_tmp (by rfl) _) ?_; exact hc _ _ ⟨by simp [goodL, k1, hb0, hb1, hb2], kp⟩
        | true =>
          iterate 3 (refine F.oq rfl rfl rfl (by simp [go_sem]) fun d K h => ?_; go_simp; refine h _ ?_; clear h K d; try walk_nrm)
          refine F.ol rfl rfl rfl fun d K h => ?_; go_simp; refine h _ (fun e m => ?_) ?_; simp [go_sem, *] at m; subst m; exact evr (w := w1) (by assumption) (by first | assumption | (apply hfr <;> dsimp only <;> omega)); clear h K d; try walk_nrm
          refine F.enter rfl rfl (by decide) (fun _ => run_call_body rfl Tryz.func57 (by rfl) (by rfl)) (fun _ => events_call_body rfl Tryz.func57 (by rfl) (by rfl) _) ?_; walk_nrm; refine between_x 0 d 10000 _ _ F _ _ (fun v wq hp => ?_); obtain ⟨rfl, hq⟩ := hp; have hq := hq.symm; subst hq; rw [Frame.finish_at]; try walk_nrm
          cases hb3 : btw 0 d 10000 with
          | false =>
            iterate 2 (refine F.oq rfl rfl rfl (by simp [go_sem]) fun d K h => ?_; go_simp; refine h _ ?_; clear h K d; try walk_nrm)
            refine F.re ?_; refine F.ctl (fun _ => stepG_ret') ?_; refine F.leave rfl rfl Tryz.func40 (resultsC_tmp (by rfl) _) ?_; exact hc _ _ ⟨by simp [goodL, k1, hb0, hb1, hb2, hb3], kp⟩
          | true =>
            iterate 2 (refine F.oq rfl rfl rfl (by simp [go_sem]) fun d K h => ?_; go_simp; refine h _ ?_; clear h K d; try walk_nrm)
            refine F.re ?_; refine F.ctl (fun _ => stepG_ret') ?_; refine F.leave rfl rfl Tryz.func40 (resultsC_tmp (by rfl) _) ?_; exact hc _ _ ⟨by simp [goodL, k1, hb0, hb1, hb2, hb3], kp⟩
  have e1 : (k == 1) = false := by simpa using k1
  refine F.sr ?_; simp only [rg, Nat.reduceAdd]; iterate 2 (refine F.oq rfl rfl rfl (by simp [go_sem]) fun d K h => ?_; go_simp; refine h _ ?_; clear h K d; try walk_nrm)
  refine F.re ?_; refine F.cf rfl ?_
  by_cases k2 : k = 2
  · refine F.ctl (fun _ => stepG_seq) ?_
    refine F.rr ?_; simp only [rg, Nat.reduceAdd]; iterate 2 (refine F.oq rfl rfl rfl (by simp [go_sem]) fun d K h => ?_; go_simp; refine h _ ?_; clear h K d; try walk_nrm)
    refine F.re ?_; refine F.ct rfl ?_; refine F.sr ?_; simp only [rg, Nat.reduceAdd]; refine F.oq rfl rfl rfl (by simp [go_sem]) fun d K h => ?_; go_simp; refine h _ ?_; clear h K d; try walk_nrm
    refine F.re ?_; refine F.ctl (fun _ => stepG_ret') ?_; refine F.leave rfl rfl Tryz.func40 (resultsC_tmp (by rfl) _) ?_; exact hc _ _ ⟨by simp [goodL, k1, k2], kp⟩
  have e2 : (k == 2) = false := by simpa using k2
  refine F.sr ?_; simp only [rg, Nat.reduceAdd]; iterate 2 (refine F.oq rfl rfl rfl (by simp [go_sem]) fun d K h => ?_; go_simp; refine h _ ?_; clear h K d; try walk_nrm)
  refine F.re ?_; refine F.cf rfl ?_
  by_cases k3 : k = 3
  · refine F.ctl (fun _ => stepG_seq) ?_
    refine F.rr ?_; simp only [rg, Nat.reduceAdd]; iterate 2 (refine F.oq rfl rfl rfl (by simp [go_sem]) fun d K h => ?_; go_simp; refine h _ ?_; clear h K d; try walk_nrm)
    refine F.re ?_; refine F.ct rfl ?_; refine F.sr ?_; simp only [rg, Nat.reduceAdd]; refine F.oq rfl rfl rfl (by simp [go_sem]) fun d K h => ?_; go_simp; refine h _ ?_; clear h K d; try walk_nrm
    refine F.ol rfl rfl rfl fun d K h => ?_; go_simp; refine h _ (fun e m => ?_) ?_; simp [go_sem, *] at m; subst m; exact evr (w := w1) (by assumption) (by first | assumption | (apply hfr <;> dsimp only <;> omega)); clear h K d; try walk_nrm
    refine F.enter rfl rfl (by decide) (fun _ => run_call_body rfl Tryz.func57 (by rfl) (by rfl)) (fun _ => events_call_body rfl Tryz.func57 (by rfl) (by rfl) _) ?_; walk_nrm; refine between_x 1 a 1000 _ _ F _ _ (fun v wq hp => ?_); obtain ⟨rfl, hq⟩ := hp; have hq := hq.symm; subst hq; rw [Frame.finish_at]; try walk_nrm
    cases hb0 : btw 1 a 1000 with
    | false =>
      refine F.oq rfl rfl rfl (by simp [go_sem]) fun d K h => ?_; go_simp; refine h _ ?_; clear h K d; try walk_nrm
      refine F.unwanted rfl rfl ?_; try walk_nrm
      refine F.unwanted rfl rfl ?_; try walk_nrm
      refine F.unwanted rfl rfl ?_; try walk_nrm
      iterate 2 (refine F.oq rfl rfl rfl (by simp [go_sem]) fun d K h => ?_; go_simp; refine h _ ?_; clear h K d; try walk_nrm)
      refine F.re ?_; refine F.ctl (fun _ => stepG_ret') ?_; refine F.leave rfl rfl Tryz.func40 (resultsC_tmp (by rfl) _) ?_; exact hc _ _ ⟨by simp [goodL, k1, k2, k3, hb0], kp⟩
    | true =>
      iterate 2 (refine F.oq rfl rfl rfl (by simp [go_sem]) fun d K h => ?_; go_simp; refine h _ ?_; clear h K d; try walk_nrm)
      refine F.ol rfl rfl rfl fun d K h => ?_; go_simp; refine h _ (fun e m => ?_) ?_; simp [go_sem, *] at m; subst m; exact evr (w := w1) (by assumption) (by first | assumption | (apply hfr <;> dsimp only <;> omega)); clear h K d; try walk_nrm
      refine F.enter rfl rfl (by decide) (fun _ => run_call_body rfl Tryz.func57 (by rfl) (by rfl)) (fun _ => events_call_body rfl Tryz.func57 (by rfl) (by rfl) _) ?_; walk_nrm; refine between_x 1 b 20 _ _ F _ _ (fun v wq hp => ?_); obtain ⟨rfl, hq⟩ := hp; have hq := hq.symm; subst hq; rw [Frame.finish_at]; try walk_nrm
      cases hb1 : btw 1 b 20 with
      | false =>
        iterate 2 (refine F.oq rfl rfl rfl (by simp [go_sem]) fun d K h => ?_; go_simp; refine h _ ?_; clear h K d; try walk_nrm)
        refine F.re ?_; refine F.ctl (fun _ => stepG_ret') ?_; refine F.leave rfl rfl Tryz.func40 (resultsC_tmp (by rfl) _) ?_; exact hc _ _ ⟨by simp [goodL, k1, k2, k3, hb0, hb1], kp⟩
      | true =>
        iterate 2 (refine F.oq rfl rfl rfl (by simp [go_sem]) fun d K h => ?_; go_simp; refine h _ ?_; clear h K d; try walk_nrm)
        refine F.re ?_; refine F.ctl (fun _ => stepG_ret') ?_; refine F.leave rfl rfl Tryz.func40 (resultsC_tmp (by rfl) _) ?_; exact hc _ _ ⟨by simp [goodL, k1, k2, k3, hb0, hb1], kp⟩
  have e3 : (k == 3) = false := by simpa using k3
  refine F.sr ?_; simp only [rg, Nat.reduceAdd]; iterate 2 (refine F.oq rfl rfl rfl (by simp [go_sem]) fun d K h => ?_; go_simp; refine h _ ?_; clear h K d; try walk_nrm)
  refine F.re ?_; refine F.cf rfl ?_
  by_cases k4 : k = 4
  · refine F.ctl (fun _ => stepG_seq) ?_
    refine F.rr ?_; simp only [rg, Nat.reduceAdd]; iterate 2 (refine F.oq rfl rfl rfl (by simp [go_sem]) fun d K h => ?_; go_simp; refine h _ ?_; clear h K d; try walk_nrm)
    refine F.re ?_; refine F.ct rfl ?_; refine F.sr ?_; simp only [rg, Nat.reduceAdd]; refine F.oq rfl rfl rfl (by simp [go_sem]) fun d K h => ?_; go_simp; refine h _ ?_; clear h K d; try walk_nrm
    refine F.ol rfl rfl rfl fun d K h => ?_; go_simp; refine h _ (fun e m => ?_) ?_; simp [go_sem, *] at m; subst m; exact evr (w := w1) (by assumption) (by first | assumption | (apply hfr <;> dsimp only <;> omega)); clear h K d; try walk_nrm
    refine F.enter rfl rfl (by decide) (fun _ => run_call_body rfl Tryz.func57 (by rfl) (by rfl)) (fun _ => events_call_body rfl Tryz.func57 (by rfl) (by rfl) _) ?_; walk_nrm; refine between_x 1 a 20 _ _ F _ _ (fun v wq hp => ?_); obtain ⟨rfl, hq⟩ := hp; have hq := hq.symm; subst hq; rw [Frame.finish_at]; try walk_nrm
    cases hb0 : btw 1 a 20 with
    | false =>
      refine F.oq rfl rfl rfl (by simp [go_sem]) fun d K h => ?_; go_simp; refine h _ ?_; clear h K d; try walk_nrm
      refine F.unwanted rfl rfl ?_; try walk_nrm
      refine F.unwanted rfl rfl ?_; try walk_nrm
      refine F.unwanted rfl rfl ?_; try walk_nrm
      refine F.unwanted rfl rfl ?_; try walk_nrm
      refine F.unwanted rfl rfl ?_; try walk_nrm
      iterate 2 (refine F.oq rfl rfl rfl (by simp [go_sem]) fun d K h => ?_; go_simp; refine h _ ?_; clear h K d; try walk_nrm)
      refine F.unwanted rfl rfl ?_; try walk_nrm
      refine F.unwanted rfl rfl ?_; try walk_nrm
      refine F.unwanted rfl rfl ?_; try walk_nrm
      iterate 2 (refine F.oq rfl rfl rfl (by simp [go_sem]) fun d K h => ?_; go_simp; refine h _ ?_; clear h K d; try walk_nrm)
      refine F.unwanted rfl rfl ?_; try walk_nrm
      refine F.unwanted rfl rfl ?_; try walk_nrm
      refine F.unwanted rfl rfl ?_; try walk_nrm
      iterate 2 (refine F.oq rfl rfl rfl (by simp [go_sem]) fun d K h => ?_; go_simp; refine h _ ?_; clear h K d; try walk_nrm)
      refine F.unwanted rfl rfl ?_; try walk_nrm
      refine F.unwanted rfl rfl ?_; try walk_nrm
      refine F.unwanted rfl rfl ?_; try walk_nrm
      iterate 2 (refine F.oq rfl rfl rfl (by simp [go_sem]) fun d K h => ?_; go_simp; refine h _ ?_; clear h K d; try walk_nrm)
      refine F.re ?_; refine F.ctl (fun _ => stepG_ret') ?_; refine F.leave rfl rfl Tryz.func40 (resultsC_tmp (by rfl) _) ?_; exact hc _ _ ⟨by simp [goodL, k1, k2, k3, k4, hb0], kp⟩
    | true =>
      iterate 2 (refine F.oq rfl rfl rfl (by simp [go_sem]) fun d K h => ?_; go_simp; refine h _ ?_; clear h K d; try walk_nrm)
      refine F.ol rfl rfl rfl fun d K h => ?_; go_simp; refine h _ (fun e m => ?_) ?_; simp [go_sem, *] at m; subst m; exact evr (w := w1) (by assumption) (by first | assumption | (apply hfr <;> dsimp only <;> omega)); clear h K d; try walk_nrm
      refine F.oq rfl rfl rfl (by simp [go_sem]) fun d K h => ?_; go_simp; refine h _ ?_; clear h K d; try walk_nrm
      refine F.ol rfl rfl rfl fun d K h => ?_; go_simp; refine h _ (fun e m => ?_) ?_; simp [go_sem, *] at m; subst m; exact evr (w := w1) (by assumption) (by first | assumption | (apply hfr <;> dsimp only <;> omega)); clear h K d; try walk_nrm
      refine F.enter rfl rfl (by decide) (fun _ => run_call_body rfl Tryz.func57 (by rfl) (by rfl)) (fun _ => events_call_body rfl Tryz.func57 (by rfl) (by rfl) _) ?_; walk_nrm; refine between_x 1 b a _ _ F _ _ (fun v wq hp => ?_); obtain ⟨rfl, hq⟩ := hp; have hq := hq.symm; subst hq; rw [Frame.finish_at]; try walk_nrm
      cases hb1 : btw 1 b a with
      | false =>
        iterate 2 (refine F.oq rfl rfl rfl (by simp [go_sem]) fun d K h => ?_; go_simp; refine h _ ?_; clear h K d; try walk_nrm)
        refine F.unwanted rfl rfl ?_; try walk_nrm
        refine F.unwanted rfl rfl ?_; try walk_nrm
        refine F.unwanted rfl rfl ?_; try walk_nrm
        iterate 2 (refine F.oq rfl rfl rfl (by simp [go_sem]) fun d K h => ?_; go_simp; refine h _ ?_; clear h K d; try walk_nrm)
        refine F.unwanted rfl rfl ?_; try walk_nrm
        refine F.unwanted rfl rfl ?_; try walk_nrm
        refine F.unwanted rfl rfl ?_; try walk_nrm
        iterate 2 (refine F.oq rfl rfl rfl (by simp [go_sem]) fun d K h => ?_; go_simp; refine h _ ?_; clear h K d; try walk_nrm)
        refine F.unwanted rfl rfl ?_; try walk_nrm
        refine F.unwanted rfl rfl ?_; try walk_nrm
        refine F.unwanted rfl rfl ?_; try walk_nrm
        iterate 2 (refine F.oq rfl rfl rfl (by simp [go_sem]) fun d K h => ?_; go_simp; refine h _ ?_; clear h K d; try walk_nrm)
        refine F.re ?_; refine F.ctl (fun _ => stepG_ret') ?_; refine F.leave rfl rfl Tryz.func40 (resultsC_tmp (by rfl) _) ?_; exact hc _ _ ⟨by simp [goodL, k1, k2, k3, k4, hb0, hb1], kp⟩
      | true =>
        iterate 3 (refine F.oq rfl rfl rfl (by simp [go_sem]) fun d K h => ?_; go_simp; refine h _ ?_; clear h K d; try walk_nrm)
        refine F.ol rfl rfl rfl fun d K h => ?_; go_simp; refine h _ (fun e m => ?_) ?_; simp [go_sem, *] at m; subst m; exact evr (w := w1) (by assumption) (by first | assumption | (apply hfr <;> dsimp only <;> omega)); clear h K d; try walk_nrm
        refine F.enter rfl rfl (by decide) (fun _ => run_call_body rfl Tryz.func57 (by rfl) (by rfl)) (fun _ => events_call_body rfl Tryz.func57 (by rfl) (by rfl) _) ?_; walk_nrm; refine between_x 1 c 100 _ _ F _ _ (fun v wq hp => ?_); obtain ⟨rfl, hq⟩ := hp; have hq := hq.symm; subst hq; rw [Frame.finish_at]; try walk_nrm
        cases hb2 : btw 1 c 100 with
        | false =>
          iterate 2 (refine F.oq rfl rfl rfl (by simp [go_sem]) fun d K h => ?_; go_simp; refine h _ ?_; clear h K d; try walk_nrm)
          refine F.unwanted rfl rfl ?_; try walk_nrm
          refine F.unwanted rfl rfl ?_; try walk_nrm
          refine F.unwanted rfl rfl ?_; try walk_nrm
          iterate 2 (refine F.oq rfl rfl rfl (by simp [go_sem]) fun d K h => ?_; go_simp; refine h _ ?_; clear h K d; try walk_nrm)
          refine F.unwanted rfl rfl ?_; try walk_nrm
          refine F.unwanted rfl rfl ?_; try walk_nrm
          refine F.unwanted rfl rfl ?_; try walk_nrm
          iterate 2 (refine F.oq rfl rfl rfl (by simp [go_sem]) fun d K h => ?_; go_simp; refine h _ ?_; clear h K d; try walk_nrm)
          refine F.re ?_; refine F.ctl (fun _ => stepG_ret') ?_; refine F.leave rfl rfl Tryz.func40 (resultsC_tmp (by rfl) _) ?_; exact hc _ _ ⟨by simp [goodL, k1, k2, k3, k4, hb0, hb1, hb2], kp⟩
        | true =>
          iterate 3 (refine F.oq rfl rfl rfl (by simp [go_sem]) fun d K h => ?_; go_simp; refine h _ ?_; clear h K d; try walk_nrm)
          refine F.ol rfl rfl rfl fun d K h => ?_; go_simp; refine h _ (fun e m => ?_) ?_; simp [go_sem, *] at m; subst m; exact evr (w := w1) (by assumption) (by first | assumption | (apply hfr <;> dsimp only <;> omega)); clear h K d; try walk_nrm
          refine F.enter rfl rfl (by decide) (fun _ => run_call_body rfl Tryz.func57 (by rfl) (by rfl)) (fun _ => events_call_body rfl Tryz.func57 (by rfl) (by rfl) _) ?_; walk_nrm; refine between_x 0 d 1000 _ _ F _ _ (fun v wq hp => ?_); obtain ⟨rfl, hq⟩ := hp; have hq := hq.symm; subst hq; rw [Frame.finish_at]; try walk_nrm
          cases hb3 : btw 0 d 1000 with
          | false =>
            iterate 2 (refine F.oq rfl rfl rfl (by simp [go_sem]) fun d K h => ?_; go_simp; refine h _ ?_; clear h K d; try walk_nrm)
            refine F.unwanted rfl rfl ?_; try walk_nrm
            refine F.unwanted rfl rfl ?_; try walk_nrm
            refine F.unwanted rfl rfl ?_; try walk_nrm
            iterate 2 (refine F.oq rfl rfl rfl (by simp [go_sem]) fun d K h => ?_; go_simp; refine h _ ?_; clear h K d; try walk_nrm)
            refine F.re ?_; refine F.ctl (fun _ => stepG_ret') ?_; refine F.leave rfl rfl Tryz.func40 (resultsC_tmp (by rfl) _) ?_; exact hc _ _ ⟨by simp [goodL, k1, k2, k3, k4, hb0, hb1, hb2, hb3], kp⟩
          | true =>
            iterate 3 (refine F.oq rfl rfl rfl (by simp [go_sem]) fun d K h => ?_; go_simp; refine h _ ?_; clear h K d; try walk_nrm)
            refine F.ol rfl rfl rfl fun d K h => ?_; go_simp; refine h _ (fun e m => ?_) ?_; simp [go_sem, *] at m; subst m; exact evr (w := w1) (by assumption) (by first | assumption | (apply hfr <;> dsimp only <;> omega)); clear h K d; try walk_nrm
            refine F.enter rfl rfl (by decide) (fun _ => run_call_body rfl Tryz.func57 (by rfl) (by rfl)) (fun _ => events_call_body rfl Tryz.func57 (by rfl) (by rfl) _) ?_; walk_nrm; refine between_x 1 e 9 _ _ F _ _ (fun v wq hp => ?_); obtain ⟨rfl, hq⟩ := hp; have hq := hq.symm; subst hq; rw [Frame.finish_at]; try walk_nrm
            cases hb4 : btw 1 e 9 with
            | false =>
              iterate 2 (refine F.oq rfl rfl rfl (by simp [go_sem]) fun d K h => ?_; go_simp; refine h _ ?_; clear h K d; try walk_nrm)
              refine F.re ?_; refine F.ctl (fun _ => stepG_ret') ?_; refine F.leave rfl rfl Tryz.func40 (resultsC_tmp (by rfl) _) ?_; exact hc _ _ ⟨by simp [goodL, k1, k2, k3, k4, hb0, hb1, hb2, hb3, hb4], kp⟩
            | true =>
              iterate 2 (refine F.oq rfl rfl rfl (by simp [go_sem]) fun d K h => ?_; go_simp; refine h _ ?_; clear h K d; try walk_nrm)
              refine F.re ?_; refine F.ctl (fun _ => stepG_ret') ?_; refine F.leave rfl rfl Tryz.func40 (resultsC_tmp (by rfl) _) ?_; exact hc _ _ ⟨by simp [goodL, k1, k2, k3, k4, hb0, hb1, hb2, hb3, hb4], kp⟩
  have e4 : (k == 4) = false := by simpa using k4
  refine F.sr ?_; simp only [rg, Nat.reduceAdd]; iterate 2 (refine F.oq rfl rfl rfl (by simp [go_sem]) fun d K h => ?_; go_simp; refine h _ ?_; clear h K d; try walk_nrm)
  refine F.re ?_; refine F.cf rfl ?_
  by_cases k5 : k = 5
  · refine F.ctl (fun _ => stepG_seq) ?_
    refine F.rr ?_; simp only [rg, Nat.reduceAdd]; iterate 2 (refine F.oq rfl rfl rfl (by simp [go_sem]) fun d K h => ?_; go_simp; refine h _ ?_; clear h K d; try walk_nrm)
    refine F.re ?_; refine F.ct rfl ?_; refine F.sr ?_; simp only [rg, Nat.reduceAdd]; refine F.oq rfl rfl rfl (by simp [go_sem]) fun d K h => ?_; go_simp; refine h _ ?_; clear h K d; try walk_nrm
    refine F.ol rfl rfl rfl fun d K h => ?_; go_simp; refine h _ (fun e m => ?_) ?_; simp [go_sem, *] at m; subst m; exact evr (w := w1) (by assumption) (by first | assumption | (apply hfr <;> dsimp only <;> omega)); clear h K d; try walk_nrm
    refine F.enter rfl rfl (by decide) (fun _ => run_call_body rfl Tryz.func57 (by rfl) (by rfl)) (fun _ => events_call_body rfl Tryz.func57 (by rfl) (by rfl) _) ?_; walk_nrm; refine between_x 1 a 9 _ _ F _ _ (fun v wq hp => ?_); obtain ⟨rfl, hq⟩ := hp; have hq := hq.symm; subst hq; rw [Frame.finish_at]; try walk_nrm
    cases hb0 : btw 1 a 9 with
    | false =>
      refine F.oq rfl rfl rfl (by simp [go_sem]) fun d K h => ?_; go_simp; refine h _ ?_; clear h K d; try walk_nrm
      refine F.unwanted rfl rfl ?_; try walk_nrm
      refine F.unwanted rfl rfl ?_; try walk_nrm
      refine F.unwanted rfl rfl ?_; try walk_nrm
      iterate 2 (refine F.oq rfl rfl rfl (by simp [go_sem]) fun d K h => ?_; go_simp; refine h _ ?_; clear h K d; try walk_nrm)
      refine F.re ?_; refine F.ctl (fun _ => stepG_ret') ?_; refine F.leave rfl rfl Tryz.func40 (resultsC_tmp (by rfl) _) ?_; exact hc _ _ ⟨by simp [goodL, k1, k2, k3, k4, k5, hb0], kp⟩
    | true =>
      iterate 2 (refine F.oq rfl rfl rfl (by simp [go_sem]) fun d K h => ?_; go_simp; refine h _ ?_; clear h K d; try walk_nrm)
      refine F.ol rfl rfl rfl fun d K h => ?_; go_simp; refine h _ (fun e m => ?_) ?_; simp [go_sem, *] at m; subst m; exact evr (w := w1) (by assumption) (by first | assumption | (apply hfr <;> dsimp only <;> omega)); clear h K d; try walk_nrm
      refine F.enter rfl rfl (by decide) (fun _ => run_call_body rfl Tryz.func57 (by rfl) (by rfl)) (fun _ => events_call_body rfl Tryz.func57 (by rfl) (by rfl) _) ?_; walk_nrm; refine between_x 0 b 1000 _ _ F _ _ (fun v wq hp => ?_); obtain ⟨rfl, hq⟩ := hp; have hq := hq.symm; subst hq; rw [Frame.finish_at]; try walk_nrm
      cases hb1 : btw 0 b 1000 with
      | false =>
        iterate 2 (refine F.oq rfl rfl rfl (by simp [go_sem]) fun d K h => ?_; go_simp; refine h _ ?_; clear h K d; try walk_nrm)
        refine F.re ?_; refine F.ctl (fun _ => stepG_ret') ?_; refine F.leave rfl rfl Tryz.func40 (resultsC_tmp (by rfl) _) ?_; exact hc _ _ ⟨by simp [goodL, k1, k2, k3, k4, k5, hb0, hb1], kp⟩
      | true =>
        iterate 2 (refine F.oq rfl rfl rfl (by simp [go_sem]) fun d K h => ?_; go_simp; refine h _ ?_; clear h K d; try walk_nrm)
        refine F.re ?_; refine F.ctl (fun _ => stepG_ret') ?_; refine F.leave rfl rfl Tryz.func40 (resultsC_tmp (by rfl) _) ?_; exact hc _ _ ⟨by simp [goodL, k1, k2, k3, k4, k5, hb0, hb1], kp⟩
  have e5 : (k == 5) = false := by simpa using k5
  refine F.sr ?_; simp only [rg, Nat.reduceAdd]; iterate 2 (refine F.oq rfl rfl rfl (by simp [go_sem]) fun d K h => ?_; go_simp; refine h _ ?_; clear h K d; try walk_nrm)
  refine F.re ?_; refine F.cf rfl ?_
  by_cases k6 : k = 6
  · refine F.ctl (fun _ => stepG_seq) ?_
    refine F.rr ?_; simp only [rg, Nat.reduceAdd]; iterate 2 (refine F.oq rfl rfl rfl (by simp [go_sem]) fun d K h => ?_; go_simp; refine h _ ?_; clear h K d; try walk_nrm)
    refine F.re ?_; refine F.ct rfl ?_; refine F.sr ?_; simp only [rg, Nat.reduceAdd]; refine F.oq rfl rfl rfl (by simp [go_sem]) fun d K h => ?_; go_simp; refine h _ ?_; clear h K d; try walk_nrm
    refine F.ol rfl rfl rfl fun d K h => ?_; go_simp; refine h _ (fun e m => ?_) ?_; simp [go_sem, *] at m; subst m; exact evr (w := w1) (by assumption) (by first | assumption | (apply hfr <;> dsimp only <;> omega)); clear h K d; try walk_nrm
    refine F.enter rfl rfl (by decide) (fun _ => run_call_body rfl Tryz.func57 (by rfl) (by rfl)) (fun _ => events_call_body rfl Tryz.func57 (by rfl) (by rfl) _) ?_; walk_nrm; refine between_x 1 a 1000 _ _ F _ _ (fun v wq hp => ?_); obtain ⟨rfl, hq⟩ := hp; have hq := hq.symm; subst hq; rw [Frame.finish_at]; try walk_nrm
    refine F.oq rfl rfl rfl (by simp [go_sem]) fun d K h => ?_; go_simp; refine h _ ?_; clear h K d; try walk_nrm
    refine F.re ?_; refine F.ctl (fun _ => stepG_ret') ?_; refine F.leave rfl rfl Tryz.func40 (resultsC_tmp (by rfl) _) ?_; exact hc _ _ ⟨by simp [goodL, k1, k2, k3, k4, k5, k6], kp⟩
  have e6 : (k == 6) = false := by simpa using k6
  refine F.sr ?_; simp only [rg, Nat.reduceAdd]; iterate 2 (refine F.oq rfl rfl rfl (by simp [go_sem]) fun d K h => ?_; go_simp; refine h _ ?_; clear h K d; try walk_nrm)
  refine F.re ?_; refine F.cf rfl ?_; refine F.sk ?_; refine F.ib ?_; refine F.sr ?_; simp only [rg, Nat.reduceAdd]; refine F.oq rfl rfl rfl (by simp [go_sem]) fun d K h => ?_; go_simp; refine h _ ?_; clear h K d; try walk_nrm
  refine F.re ?_; refine F.ctl (fun _ => stepG_ret') ?_; refine F.leave rfl rfl Tryz.func40 (resultsC_tmp (by rfl) _) ?_; exact hc _ _ ⟨by simp [goodL, k1, k2, k3, k4, k5, k6], kp⟩
end Go.Proofs.YtobagnjnbmgidaaGreatDoor
