/- The document's own Check. -/
import Derived.Test.YtobagnjnbmgidaaGreatDoorX31
import Derived.Test.YtobagnjnbmgidaaGreatDoorX34
set_option linter.unusedSimpArgs false
set_option linter.unusedVariables false
namespace Go.Proofs.YtobagnjnbmgidaaGreatDoor
open Go.Conc Go.RowKit
variable {main : Bool} {Ok : Addr → Bool → Prop}

set_option maxRecDepth 100000 in
set_option maxHeartbeats 16000000 in
theorem refCheck_x (N n capL m cap : Nat) (sL sa : Option Addr) (L : Nat → Nat → Int) (g : Nat → Cl) (w0 : World) (hN : N ≤ w0.heap.size) (hL : LaysAt w0 sL n L) (hC : ClsAt w0 sa m g) (hrL : ∀ p : Addr, sL = some p → ∀ a : Addr, a.block = p.block → Ok a false) (hrd : RdC Ok sa m g) (hfr : ∀ a wr, N ≤ a.block → Ok a wr) :
    CallsX Tryz.prog main (DX Ok) 17 #[.slice sL n capL, .slice sa m cap] w0 fun v w' => v = .tuple #[.int .i64 (chk n L m g).1, .int .i64 (chk n L m g).2] ∧ Kp [] w0 w' := by
  intro Ψ F c cs hc
  rw [enter_at _ Tryz.func17 rfl]
  simp only [Tryz.ntmps17, List.size_toArray, List.length_cons, List.length_nil, Nat.reduceAdd, Nat.reduceSub, Array.replicate_succ, Array.replicate_zero, List.push_toArray, List.append_toArray, List.nil_append, List.cons_append]
  by_cases h6 : (6 : Int) < (n : Int)
  · refine F.ctl (fun _ => stepG_seq) ?_
    refine F.rr ?_
    simp only [rg, Nat.reduceAdd]
    iterate 2 (refine F.oq rfl rfl rfl (fun _ => by simp [go_sem]) fun d K hK => ?_; go_simp; refine hK _ ?_; clear hK K d; try walk_nrm)
    refine F.es ?_
    refine F.sr ?_
    simp only [rg, Nat.reduceAdd]
    iterate 3 (refine F.oq rfl rfl rfl (fun _ => by simp [go_sem]) fun d K hK => ?_; go_simp; refine hK _ ?_; clear hK K d; try walk_nrm)
    refine F.re ?_
    refine F.ct rfl ?_
    refine F.sr ?_
    simp only [rg, Nat.reduceAdd]
    iterate 2 (refine F.oq rfl rfl rfl (fun _ => by simp [go_sem]) fun d K hK => ?_; go_simp; refine hK _ ?_; clear hK K d; try walk_nrm)
    refine F.re ?_
    refine F.ctl (fun _ => stepG_ret') ?_
    refine F.leave rfl rfl Tryz.func17 (resultsC_tmp2 (by rfl) _) ?_
    exact hc _ _ ⟨by simp [chk, show 6 < n by omega], Kp.refl _⟩
  refine F.sr ?_
  simp only [rg, Nat.reduceAdd]
  iterate 2 (refine F.oq rfl rfl rfl (fun _ => by simp [go_sem]) fun d K hK => ?_; go_simp; refine hK _ ?_; clear hK K d; try walk_nrm)
  refine F.es ?_
  refine F.sr ?_
  simp only [rg, Nat.reduceAdd]
  iterate 3 (refine F.oq rfl rfl rfl (fun _ => by simp [go_sem]) fun d K hK => ?_; go_simp; refine hK _ ?_; clear hK K d; try walk_nrm)
  refine F.re ?_
  refine F.cf rfl ?_
  refine F.sk ?_
  refine F.sr ?_
  simp only [rg, Nat.reduceAdd]
  refine F.oq rfl rfl rfl (fun _ => by simp [go_sem]) fun d K hK => ?_; go_simp; refine hK _ ?_; clear hK K d; try walk_nrm
  refine F.es ?_
  refine F.sr ?_
  simp only [rg, Nat.reduceAdd]
  refine F.oq rfl rfl rfl (fun _ => by simp [go_sem]) fun d K hK => ?_; go_simp; refine hK _ ?_; clear hK K d; try walk_nrm
  refine F.re ?_
  refine F.bl ?_
  refine F.ctl (fun _ => stepG_loop) ?_
  refine loopN n (fun k a w => ∃ (y r : Int) (x8 x9 x10 x11 x12 x13 x14 x15 x16 x17 x18 x19 x20 x21 x22 x23 x24 x25 x26 x27 x28 x29 x30 x31 x32 x33 x34 x35 x36 x37 x38 x39 x40 x41 x42 x43 x44 x45 x46 x47 x48 x49 x50 x51 x52 x53 x54 x55 x56 x57 x58 x59 x60 x61 x62 x63 x64 : Value), a = ⟨#[.slice sL n capL, .slice sa m cap, undef, undef, .int .i64 0, .int .i64 0, .int .i64 r, .int .i64 y, x8, x9, x10, x11, x12, x13, x14, x15, x16, x17, x18, x19, x20, x21, x22, x23, x24, x25, x26, x27, x28, x29, x30, x31, x32, x33, x34, x35, x36, x37, x38, x39, x40, x41, x42, x43, x44, x45, x46, x47, x48, x49, x50, x51, x52, x53, x54, x55, x56, x57, x58, x59, x60, x61, x62, x63, x64], []⟩ ∧ y = k ∧ Kp [] w0 w ∧ 0 ≤ r ∧ r ≤ 2 ∧ Hid (badAt L n 0 0 = badAt L (n - k) k r)) ?_ ?_ ⟨0, 0, _, _, _, _, _, _, _, _, _, _, _, _, _, _, _, _, _, _, _, _, _, _, _, _, _, _, _, _, _, _, _, _, _, _, _, _, _, _, _, _, _, _, _, _, _, _, _, _, _, _, _, _, _, _, _, _, _, rfl, rfl, Kp.refl _, by omega, by omega, rfl⟩
  · intro k a w hk hI hnext
    obtain ⟨y, r, x8, x9, x10, x11, x12, x13, x14, x15, x16, x17, x18, x19, x20, x21, x22, x23, x24, x25, x26, x27, x28, x29, x30, x31, x32, x33, x34, x35, x36, x37, x38, x39, x40, x41, x42, x43, x44, x45, x46, x47, x48, x49, x50, x51, x52, x53, x54, x55, x56, x57, x58, x59, x60, x61, x62, x63, x64, rfl, rfl, kp, hr0, hr2, hb⟩ := hI
    obtain ⟨pb, po, rfl, hj⟩ := hL k hk
    have hrb : ∀ a : Addr, a.block = pb → Ok a false := hrL _ rfl
    clear hrL hL hrd
    have hk' : (k : Int) < (n : Int) := by omega
    have hk0 : (0 : Int) ≤ (k : Int) := by omega
    have hwk : IntKind.i64.wrap ((k : Int) + 1) = (k : Int) + 1 := wr (by omega) (by omega)
    have hwr : IntKind.i64.wrap (r + 1) = r + 1 := wr (by omega) (by omega)
    have l0 := kp.cell _ _ (by simp) (hj 0 (by omega))
    have l1 := kp.cell _ _ (by simp) (hj 1 (by omega))
    have l2 := kp.cell _ _ (by simp) (hj 2 (by omega))
    have l3 := kp.cell _ _ (by simp) (hj 3 (by omega))
    have l4 := kp.cell _ _ (by simp) (hj 4 (by omega))
    have l5 := kp.cell _ _ (by simp) (hj 5 (by omega))
    simp only [Nat.add_zero] at l0 l1 l2 l3 l4 l5
    have hsz := kp.size
    clear hj
    refine F.sq ?_
    refine F.sr ?_
    simp only [rg, Nat.reduceAdd]
    iterate 4 (refine F.oq rfl rfl rfl (fun _ => by simp [go_sem]) fun d K hK => ?_; go_simp; refine hK _ ?_; clear hK K d; try walk_nrm)
    refine F.re ?_
    refine F.ct rfl ?_
    refine F.sk ?_
    refine F.sq ?_
    refine F.bl ?_
    refine F.sr ?_
    simp only [rg, Nat.reduceAdd]
    iterate 3 (refine F.oq rfl rfl rfl (fun _ => by first | (simp [go_sem]; done) | simp [go_sem, Instr.makeInterface, Instr.makeFunc, *]) fun d K hK => ?_; go_simp; refine hK _ ?_; clear hK K d; try walk_nrm)
    refine F.op rfl rfl (by decide) (fun d K hK => ?_)
    go_simp
    refine hK _ _ ⟨DX.still _ (fun e he => ?_), ?_⟩
    · have hm := mem_listed he
      simp [go_sem, *] at hm
      rcases hm with rfl | rfl | rfl | rfl | rfl | rfl <;> exact .inl ⟨_, rfl, rfl, by (first | assumption | exact hrb _ rfl | (apply hfr <;> dsimp only <;> omega) | (apply hok; simp; done)), lt_of_cell (w := w) (by assumption)⟩
    clear hK K d
    try walk_nrm
    refine F.enter rfl rfl (by decide) (fun _ => run_call_body rfl Tryz.func28 (by rfl) (by rfl)) (fun _ => events_call_body rfl Tryz.func28 (by rfl) (by rfl) _) ?_
    walk_nrm
    refine refLayer_x N (L k 0) (L k 1) (L k 2) (L k 3) (L k 4) (L k 5) w (by omega) hfr _ F _ _ (fun v wc hp => ?_)
    obtain ⟨rfl, kq⟩ := hp
    replace kp := kp.callN kq (by simp) (by simp)
    replace l0 := kq.cell _ _ (by simp) l0
    clear l1 l2 l3 l4 l5
    rw [Frame.finish_at]
    cases hg : goodL (L k 0) (L k 1) (L k 2) (L k 3) (L k 4) (L k 5) with
    | false =>
      try walk_nrm
      refine F.oq rfl rfl rfl (fun _ => by simp [go_sem]) fun d K hK => ?_; go_simp; refine hK _ ?_; clear hK K d; try walk_nrm
      refine F.es ?_
      refine F.sr ?_
      simp only [rg, Nat.reduceAdd]
      iterate 3 (refine F.oq rfl rfl rfl (fun _ => by simp [go_sem]) fun d K hK => ?_; go_simp; refine hK _ ?_; clear hK K d; try walk_nrm)
      refine F.unwanted rfl rfl ?_
      try walk_nrm
      refine F.unwanted rfl rfl ?_
      try walk_nrm
      refine F.unwanted rfl rfl ?_
      try walk_nrm
      refine F.unwanted rfl rfl ?_
      try walk_nrm
      refine F.unwanted rfl rfl ?_
      try walk_nrm
      refine F.unwanted rfl rfl ?_
      try walk_nrm
      refine F.unwanted rfl rfl ?_
      try walk_nrm
      refine F.unwanted rfl rfl ?_
      try walk_nrm
      refine F.unwanted rfl rfl ?_
      try walk_nrm
      refine F.unwanted rfl rfl ?_
      try walk_nrm
      refine F.oq rfl rfl rfl (fun _ => by simp [go_sem]) fun d K hK => ?_; go_simp; refine hK _ ?_; clear hK K d; try walk_nrm
      refine F.re ?_
      refine F.ct rfl ?_
      refine F.sr ?_
      simp only [rg, Nat.reduceAdd]
      iterate 3 (refine F.oq rfl rfl rfl (fun _ => by simp [go_sem]) fun d K hK => ?_; go_simp; refine hK _ ?_; clear hK K d; try walk_nrm)
      refine F.re ?_
      refine F.ctl (fun _ => stepG_ret') ?_
      refine F.leave rfl rfl Tryz.func17 (resultsC_tmp2 (by rfl) _) ?_
      have hnk : n - k = (n - (k + 1)) + 1 := by omega
      have hb2 : badAt L n 0 0 = badAt L (n - k) k r := hb
      have hbk : badAt L n 0 0 = k := by rw [hb2, hnk]; simp [badAt, hg]
      exact hc _ _ ⟨by simp [chk, hbk, show ¬ 6 < n by omega, hk], kp⟩

    | true =>
    try walk_nrm
    by_cases hk1 : L k 0 = 1
    · rw [hk1] at l0
      by_cases hr : r = 2
      · subst hr
        refine F.oq rfl rfl rfl (fun _ => by simp [go_sem]) fun d K hK => ?_; go_simp; refine hK _ ?_; clear hK K d; try walk_nrm
        refine F.es ?_
        refine F.sr ?_
        simp only [rg, Nat.reduceAdd]
        iterate 7 (refine F.oq rfl rfl rfl (fun _ => by first | (simp [go_sem]; done) | simp [go_sem, Instr.makeInterface, Instr.makeFunc, *]) fun d K hK => ?_; go_simp; refine hK _ ?_; clear hK K d; try walk_nrm)
        refine F.op rfl rfl (by decide) (fun d K hK => ?_)
        go_simp
        refine hK _ _ ⟨DX.still _ (fun e he => ?_), ?_⟩
        · have hm := mem_listed he
          simp [go_sem, *] at hm
          subst hm
          exact .inl ⟨_, rfl, rfl, by (first | assumption | exact hrb _ rfl | (apply hfr <;> dsimp only <;> omega) | (apply hok; simp; done)), lt_of_cell (w := wc) (by assumption)⟩
        clear hK K d
        try walk_nrm
        iterate 6 (refine F.oq rfl rfl rfl (fun _ => by simp [go_sem]) fun d K hK => ?_; go_simp; refine hK _ ?_; clear hK K d; try walk_nrm)
        refine F.re ?_
        refine F.ct rfl ?_
        refine F.sr ?_
        simp only [rg, Nat.reduceAdd]
        iterate 3 (refine F.oq rfl rfl rfl (fun _ => by simp [go_sem]) fun d K hK => ?_; go_simp; refine hK _ ?_; clear hK K d; try walk_nrm)
        refine F.re ?_
        refine F.ctl (fun _ => stepG_ret') ?_
        refine F.leave rfl rfl Tryz.func17 (resultsC_tmp2 (by rfl) _) ?_
        have hnk : n - k = (n - (k + 1)) + 1 := by omega
        have hb2 : badAt L n 0 0 = badAt L (n - k) k 2 := hb
        have hbk : badAt L n 0 0 = k := by rw [hb2, hnk]; simp [badAt, hk1]
        exact hc _ _ ⟨by simp [chk, hbk, show ¬ 6 < n by omega, hk], kp⟩

      have hr' : (r == 2) = false := by simpa using hr
      refine F.oq rfl rfl rfl (fun _ => by simp [go_sem]) fun d K hK => ?_; go_simp; refine hK _ ?_; clear hK K d; try walk_nrm
      refine F.es ?_
      refine F.sr ?_
      simp only [rg, Nat.reduceAdd]
      iterate 7 (refine F.oq rfl rfl rfl (fun _ => by first | (simp [go_sem]; done) | simp [go_sem, Instr.makeInterface, Instr.makeFunc, *]) fun d K hK => ?_; go_simp; refine hK _ ?_; clear hK K d; try walk_nrm)
      refine F.op rfl rfl (by decide) (fun d K hK => ?_)
      go_simp
      refine hK _ _ ⟨DX.still _ (fun e he => ?_), ?_⟩
      · have hm := mem_listed he
        simp [go_sem, *] at hm
        subst hm
        exact .inl ⟨_, rfl, rfl, by (first | assumption | exact hrb _ rfl | (apply hfr <;> dsimp only <;> omega) | (apply hok; simp; done)), lt_of_cell (w := wc) (by assumption)⟩
      clear hK K d
      try walk_nrm
      iterate 6 (refine F.oq rfl rfl rfl (fun _ => by simp [go_sem]) fun d K hK => ?_; go_simp; refine hK _ ?_; clear hK K d; try walk_nrm)
      refine F.re ?_
      refine F.cf rfl ?_
      refine F.sk ?_
      refine F.sr ?_
      simp only [rg, Nat.reduceAdd]
      iterate 4 (refine F.oq rfl rfl rfl (fun _ => by first | (simp [go_sem]; done) | simp [go_sem, Instr.makeInterface, Instr.makeFunc, *]) fun d K hK => ?_; go_simp; refine hK _ ?_; clear hK K d; try walk_nrm)
      refine F.op rfl rfl (by decide) (fun d K hK => ?_)
      go_simp
      refine hK _ _ ⟨DX.still _ (fun e he => ?_), ?_⟩
      · have hm := mem_listed he
        simp [go_sem, *] at hm
        subst hm
        exact .inl ⟨_, rfl, rfl, by (first | assumption | exact hrb _ rfl | (apply hfr <;> dsimp only <;> omega) | (apply hok; simp; done)), lt_of_cell (w := wc) (by assumption)⟩
      clear hK K d
      try walk_nrm
      refine F.oq rfl rfl rfl (fun _ => by simp [go_sem]) fun d K hK => ?_; go_simp; refine hK _ ?_; clear hK K d; try walk_nrm
      refine F.re ?_
      refine F.ct rfl ?_
      refine F.rr ?_
      simp only [rg, Nat.reduceAdd]
      iterate 3 (refine F.oq rfl rfl rfl (fun _ => by simp [go_sem]) fun d K hK => ?_; go_simp; refine hK _ ?_; clear hK K d; try walk_nrm)
      refine F.re ?_
      refine F.ib ?_
      refine F.rr ?_
      simp only [rg, Nat.reduceAdd]
      iterate 3 (refine F.oq rfl rfl rfl (fun _ => by simp [go_sem]) fun d K hK => ?_; go_simp; refine hK _ ?_; clear hK K d; try walk_nrm)
      refine F.re ?_
      refine F.ctl (fun _ => stepG_inLoop) ?_
      refine hnext _ _ ⟨_, r + 1, _, _, _, _, _, _, _, _, _, _, _, _, _, _, _, _, _, _, _, _, _, _, _, _, _, _, _, _, _, _, _, _, _, _, _, _, _, _, _, _, _, _, _, _, _, _, _, _, _, _, _, _, _, _, _, _, _, rfl, by omega, kp, by omega, by omega, ?_⟩
      show badAt L n 0 0 = _
      have hnk : n - k = (n - (k + 1)) + 1 := by omega
      have hb2 : badAt L n 0 0 = badAt L (n - k) k r := hb
      have hnl : ¬ 2 < r + 1 := by omega
      rw [hb2, hnk]; simp only [badAt, hg]; simp [hk1, hnl]
    have hk1' : (L k 0 == 1) = false := by simpa using hk1
    refine F.oq rfl rfl rfl (fun _ => by simp [go_sem]) fun d K hK => ?_; go_simp; refine hK _ ?_; clear hK K d; try walk_nrm
    refine F.es ?_
    refine F.sr ?_
    simp only [rg, Nat.reduceAdd]
    iterate 7 (refine F.oq rfl rfl rfl (fun _ => by first | (simp [go_sem]; done) | simp [go_sem, Instr.makeInterface, Instr.makeFunc, *]) fun d K hK => ?_; go_simp; refine hK _ ?_; clear hK K d; try walk_nrm)
    refine F.op rfl rfl (by decide) (fun d K hK => ?_)
    go_simp
    refine hK _ _ ⟨DX.still _ (fun e he => ?_), ?_⟩
    · have hm := mem_listed he
      simp [go_sem, *] at hm
      subst hm
      exact .inl ⟨_, rfl, rfl, by (first | assumption | exact hrb _ rfl | (apply hfr <;> dsimp only <;> omega) | (apply hok; simp; done)), lt_of_cell (w := wc) (by assumption)⟩
    clear hK K d
    try walk_nrm
    iterate 2 (refine F.oq rfl rfl rfl (fun _ => by simp [go_sem]) fun d K hK => ?_; go_simp; refine hK _ ?_; clear hK K d; try walk_nrm)
    refine F.unwanted rfl rfl ?_
    try walk_nrm
    refine F.unwanted rfl rfl ?_
    try walk_nrm
    iterate 2 (refine F.oq rfl rfl rfl (fun _ => by simp [go_sem]) fun d K hK => ?_; go_simp; refine hK _ ?_; clear hK K d; try walk_nrm)
    refine F.re ?_
    refine F.cf rfl ?_
    refine F.sk ?_
    refine F.sr ?_
    simp only [rg, Nat.reduceAdd]
    iterate 4 (refine F.oq rfl rfl rfl (fun _ => by first | (simp [go_sem]; done) | simp [go_sem, Instr.makeInterface, Instr.makeFunc, *]) fun d K hK => ?_; go_simp; refine hK _ ?_; clear hK K d; try walk_nrm)
    refine F.op rfl rfl (by decide) (fun d K hK => ?_)
    go_simp
    refine hK _ _ ⟨DX.still _ (fun e he => ?_), ?_⟩
    · have hm := mem_listed he
      simp [go_sem, *] at hm
      subst hm
      exact .inl ⟨_, rfl, rfl, by (first | assumption | exact hrb _ rfl | (apply hfr <;> dsimp only <;> omega) | (apply hok; simp; done)), lt_of_cell (w := wc) (by assumption)⟩
    clear hK K d
    try walk_nrm
    refine F.oq rfl rfl rfl (fun _ => by simp [go_sem]) fun d K hK => ?_; go_simp; refine hK _ ?_; clear hK K d; try walk_nrm
    refine F.re ?_
    refine F.cf rfl ?_
    refine F.sk ?_
    refine F.ib ?_
    refine F.rr ?_
    simp only [rg, Nat.reduceAdd]
    iterate 3 (refine F.oq rfl rfl rfl (fun _ => by simp [go_sem]) fun d K hK => ?_; go_simp; refine hK _ ?_; clear hK K d; try walk_nrm)
    refine F.re ?_
    refine F.ctl (fun _ => stepG_inLoop) ?_
    refine hnext _ _ ⟨_, r, _, _, _, _, _, _, _, _, _, _, _, _, _, _, _, _, _, _, _, _, _, _, _, _, _, _, _, _, _, _, _, _, _, _, _, _, _, _, _, _, _, _, _, _, _, _, _, _, _, _, _, _, _, _, _, _, _, rfl, by omega, kp, by omega, by omega, ?_⟩
    show badAt L n 0 0 = _
    have hnk : n - k = (n - (k + 1)) + 1 := by omega
    have hb2 : badAt L n 0 0 = badAt L (n - k) k r := hb
    have hnl : ¬ 2 < r := by omega
    rw [hb2, hnk]; simp only [badAt, hg]; simp [hk1, hnl]
  intro a w hI
  obtain ⟨y, r, x8, x9, x10, x11, x12, x13, x14, x15, x16, x17, x18, x19, x20, x21, x22, x23, x24, x25, x26, x27, x28, x29, x30, x31, x32, x33, x34, x35, x36, x37, x38, x39, x40, x41, x42, x43, x44, x45, x46, x47, x48, x49, x50, x51, x52, x53, x54, x55, x56, x57, x58, x59, x60, x61, x62, x63, x64, rfl, rfl, kp1, hr0, hr2, hb⟩ := hI
  have hbn : Hid (badAt L n 0 0 = n) := by
    have hb2 : badAt L n 0 0 = badAt L (n - n) n r := hb
    rw [Nat.sub_self] at hb2
    exact hb2
  clear hb hL
  by_cases h9 : (9 : Int) < (m : Int)
  · refine F.ctl (fun _ => stepG_seq) ?_
    refine F.sr ?_
    simp only [rg, Nat.reduceAdd]
    iterate 4 (refine F.oq rfl rfl rfl (fun _ => by simp [go_sem]) fun d K hK => ?_; go_simp; refine hK _ ?_; clear hK K d; try walk_nrm)
    refine F.re ?_
    refine F.cf rfl ?_
    refine F.ctl (fun _ => stepG_exit rfl) ?_
    refine F.sq ?_
    refine F.sr ?_
    simp only [rg, Nat.reduceAdd]
    iterate 3 (refine F.oq rfl rfl rfl (fun _ => by simp [go_sem]) fun d K hK => ?_; go_simp; refine hK _ ?_; clear hK K d; try walk_nrm)
    refine F.re ?_
    refine F.ct rfl ?_
    refine F.sr ?_
    simp only [rg, Nat.reduceAdd]
    iterate 2 (refine F.oq rfl rfl rfl (fun _ => by simp [go_sem]) fun d K hK => ?_; go_simp; refine hK _ ?_; clear hK K d; try walk_nrm)
    refine F.re ?_
    refine F.ctl (fun _ => stepG_ret') ?_
    refine F.leave rfl rfl Tryz.func17 (resultsC_tmp2 (by rfl) _) ?_
    have hbn2 : badAt L n 0 0 = n := hbn
    exact hc _ _ ⟨by simp [chk, hbn2, show ¬ 6 < n by omega, show 9 < m by omega], kp1⟩
  refine F.sq ?_
  refine F.sr ?_
  simp only [rg, Nat.reduceAdd]
  iterate 4 (refine F.oq rfl rfl rfl (fun _ => by simp [go_sem]) fun d K hK => ?_; go_simp; refine hK _ ?_; clear hK K d; try walk_nrm)
  refine F.re ?_
  refine F.cf rfl ?_
  refine F.ctl (fun _ => stepG_exit rfl) ?_
  refine F.sq ?_
  refine F.sr ?_
  simp only [rg, Nat.reduceAdd]
  iterate 3 (refine F.oq rfl rfl rfl (fun _ => by simp [go_sem]) fun d K hK => ?_; go_simp; refine hK _ ?_; clear hK K d; try walk_nrm)
  refine F.re ?_
  refine F.cf rfl ?_
  refine F.sk ?_
  refine F.sq ?_
  refine F.sr ?_
  simp only [rg, Nat.reduceAdd]
  refine F.oq rfl rfl rfl (fun _ => by simp [go_sem]) fun d K hK => ?_; go_simp; refine hK _ ?_; clear hK K d; try walk_nrm
  refine F.re ?_
  refine F.bl ?_
  refine F.ctl (fun _ => stepG_loop) ?_
  refine loopN m (fun k a w => ∃ (y : Int) (x6 x7 x8 x10 x11 x12 x13 x14 x15 x16 x17 x18 x19 x20 x21 x22 x23 x24 x25 x26 x27 x28 x29 x30 x31 x32 x33 x34 x35 x36 x37 x38 x39 x40 x41 x42 x43 x44 x45 x46 x47 x48 x49 x50 x51 x52 x53 x54 x55 x56 x57 x58 x59 x60 x61 x62 x63 x64 : Value), a = ⟨#[.slice sL n capL, .slice sa m cap, undef, undef, .int .i64 0, .int .i64 0, x6, x7, x8, .int .i64 y, x10, x11, x12, x13, x14, x15, x16, x17, x18, x19, x20, x21, x22, x23, x24, x25, x26, x27, x28, x29, x30, x31, x32, x33, x34, x35, x36, x37, x38, x39, x40, x41, x42, x43, x44, x45, x46, x47, x48, x49, x50, x51, x52, x53, x54, x55, x56, x57, x58, x59, x60, x61, x62, x63, x64], []⟩ ∧ y = k ∧ Kp [] w0 w ∧ Hid (badC g m 0 = badC g (m - k) k)) ?_ ?_ ⟨0, _, _, _, _, _, _, _, _, _, _, _, _, _, _, _, _, _, _, _, _, _, _, _, _, _, _, _, _, _, _, _, _, _, _, _, _, _, _, _, _, _, _, _, _, _, _, _, _, _, _, _, _, _, _, _, _, _, _, rfl, rfl, kp1, rfl⟩
  · clear kp1
    clear x8 x10 x11 x12 x13 x14 x15 x16 x17 x18 x19 x20 x21 x22 x23 x24 x25 x26 x27 x28 x29 x30 x31 x32 x33 x34 x35 x36 x37 x38 x39 x40 x41 x42 x43 x44 x45 x46 x47 x48 x49 x50 x51 x52 x53 x54 x55 x56 x57 x58 x59 x60 x61 x62 x63 x64
    intro k a w hk hI hnext
    obtain ⟨y, x6, x7, x8, x10, x11, x12, x13, x14, x15, x16, x17, x18, x19, x20, x21, x22, x23, x24, x25, x26, x27, x28, x29, x30, x31, x32, x33, x34, x35, x36, x37, x38, x39, x40, x41, x42, x43, x44, x45, x46, x47, x48, x49, x50, x51, x52, x53, x54, x55, x56, x57, x58, x59, x60, x61, x62, x63, x64, rfl, rfl, kp, hb⟩ := hI
    obtain ⟨pb, po, rfl, l0, l1, hT⟩ := hC k hk
    have hrb : ∀ a : Addr, a.block = pb → Ok a false := hrd.1 _ rfl
    have hrt := hrd.2 k hk
    clear hrd hC
    have hk' : (k : Int) < (m : Int) := by omega
    have hk0 : (0 : Int) ≤ (k : Int) := by omega
    have hwk : IntKind.i64.wrap ((k : Int) + 1) = (k : Int) + 1 := wr (by omega) (by omega)
    have l0 := kp.cell _ _ (by simp) l0
    have l1 := kp.cell _ _ (by simp) l1
    have hsz := kp.size
    refine F.sq ?_
    refine F.sr ?_
    simp only [rg, Nat.reduceAdd]
    iterate 4 (refine F.oq rfl rfl rfl (fun _ => by simp [go_sem]) fun d K hK => ?_; go_simp; refine hK _ ?_; clear hK K d; try walk_nrm)
    refine F.re ?_
    refine F.ct rfl ?_
    refine F.sk ?_
    refine F.sq ?_
    refine F.bl ?_
    refine F.sr ?_
    simp only [rg, Nat.reduceAdd]
    iterate 3 (refine F.oq rfl rfl rfl (fun _ => by first | (simp [go_sem]; done) | simp [go_sem, Instr.makeInterface, Instr.makeFunc, *]) fun d K hK => ?_; go_simp; refine hK _ ?_; clear hK K d; try walk_nrm)
    refine F.op rfl rfl (by decide) (fun d K hK => ?_)
    go_simp
    refine hK _ _ ⟨DX.still _ (fun e he => ?_), ?_⟩
    · have hm := mem_listed he
      simp [go_sem, *] at hm
      rcases hm with rfl | rfl <;> exact .inl ⟨_, rfl, rfl, by (first | assumption | exact hrb _ rfl | (apply hfr <;> dsimp only <;> omega) | (apply hok; simp; done)), lt_of_cell (w := w) (by assumption)⟩
    clear hK K d
    try walk_nrm
    clear l0 l1
    refine F.enter rfl rfl (by decide) (fun _ => run_call_body rfl Tryz.func29 (by rfl) (by rfl)) (fun _ => events_call_body rfl Tryz.func29 (by rfl) (by rfl) _) ?_
    walk_nrm
    refine client2_x N (g k).nt (g k).tc (g k).st (g k).ta (g k).T w (by omega) (hT.kp kp) hrt hfr _ F _ _ (fun v wc hp => ?_)
    obtain ⟨rfl, kq⟩ := hp
    replace kp := kp.callN kq (by simp) (by simp)
    rw [Frame.finish_at]
    cases hg : goodC (g k).st (g k).nt (g k).T with
    | false =>
      try walk_nrm
      refine F.oq rfl rfl rfl (fun _ => by simp [go_sem]) fun d K hK => ?_; go_simp; refine hK _ ?_; clear hK K d; try walk_nrm
      refine F.esr ?_
      simp only [rg, Nat.reduceAdd]
      iterate 2 (refine F.oq rfl rfl rfl (fun _ => by simp [go_sem]) fun d K hK => ?_; go_simp; refine hK _ ?_; clear hK K d; try walk_nrm)
      refine F.re ?_
      refine F.ct rfl ?_
      refine F.sr ?_
      simp only [rg, Nat.reduceAdd]
      iterate 3 (refine F.oq rfl rfl rfl (fun _ => by simp [go_sem]) fun d K hK => ?_; go_simp; refine hK _ ?_; clear hK K d; try walk_nrm)
      refine F.re ?_
      refine F.ctl (fun _ => stepG_ret') ?_
      refine F.leave rfl rfl Tryz.func17 (resultsC_tmp2 (by rfl) _) ?_
      have hnk : m - k = (m - (k + 1)) + 1 := by omega
      have hb2 : badC g m 0 = badC g (m - k) k := hb
      have hbk : badC g m 0 = k := by rw [hb2, hnk]; simp [badC, Cl.good, hg]
      have hbn2 : badAt L n 0 0 = n := hbn
      exact hc _ _ ⟨by simp [chk, hbn2, hbk, show ¬ 6 < n by omega, show ¬ 9 < m by omega, hk], kp⟩
    | true =>
      try walk_nrm
      refine F.oq rfl rfl rfl (fun _ => by simp [go_sem]) fun d K hK => ?_; go_simp; refine hK _ ?_; clear hK K d; try walk_nrm
      refine F.esr ?_
      simp only [rg, Nat.reduceAdd]
      iterate 2 (refine F.oq rfl rfl rfl (fun _ => by simp [go_sem]) fun d K hK => ?_; go_simp; refine hK _ ?_; clear hK K d; try walk_nrm)
      refine F.re ?_
      refine F.cf rfl ?_
      refine F.sk ?_
      refine F.ib ?_
      refine F.rr ?_
      simp only [rg, Nat.reduceAdd]
      iterate 3 (refine F.oq rfl rfl rfl (fun _ => by simp [go_sem]) fun d K hK => ?_; go_simp; refine hK _ ?_; clear hK K d; try walk_nrm)
      refine F.re ?_
      refine F.ctl (fun _ => stepG_inLoop) ?_
      refine hnext _ _ ⟨_, _, _, _, _, _, _, _, _, _, _, _, _, _, _, _, _, _, _, _, _, _, _, _, _, _, _, _, _, _, _, _, _, _, _, _, _, _, _, _, _, _, _, _, _, _, _, _, _, _, _, _, _, _, _, _, _, _, _, rfl, by omega, kp, ?_⟩
      show badC g m 0 = _
      have hnk : m - k = (m - (k + 1)) + 1 := by omega
      have hb2 : badC g m 0 = badC g (m - k) k := hb
      rw [hb2, hnk]; simp [badC, Cl.good, hg]
  clear x8 x10 x11 x12 x13 x14 x15 x16 x17 x18 x19 x20 x21 x22 x23 x24 x25 x26 x27 x28 x29 x30 x31 x32 x33 x34 x35 x36 x37 x38 x39 x40 x41 x42 x43 x44 x45 x46 x47 x48 x49 x50 x51 x52 x53 x54 x55 x56 x57 x58 x59 x60 x61 x62 x63 x64
  intro a w hI
  obtain ⟨y, x6, x7, x8, x10, x11, x12, x13, x14, x15, x16, x17, x18, x19, x20, x21, x22, x23, x24, x25, x26, x27, x28, x29, x30, x31, x32, x33, x34, x35, x36, x37, x38, x39, x40, x41, x42, x43, x44, x45, x46, x47, x48, x49, x50, x51, x52, x53, x54, x55, x56, x57, x58, x59, x60, x61, x62, x63, x64, rfl, rfl, kp, hb⟩ := hI
  refine F.sq ?_
  refine F.sr ?_
  simp only [rg, Nat.reduceAdd]
  iterate 4 (refine F.oq rfl rfl rfl (fun _ => by simp [go_sem]) fun d K hK => ?_; go_simp; refine hK _ ?_; clear hK K d; try walk_nrm)
  refine F.re ?_
  refine F.cf rfl ?_
  refine F.ctl (fun _ => stepG_exit rfl) ?_
  refine F.sr ?_
  simp only [rg, Nat.reduceAdd]
  iterate 2 (refine F.oq rfl rfl rfl (fun _ => by simp [go_sem]) fun d K hK => ?_; go_simp; refine hK _ ?_; clear hK K d; try walk_nrm)
  refine F.re ?_
  refine F.ctl (fun _ => stepG_ret') ?_
  refine F.leave rfl rfl Tryz.func17 (resultsC_tmp2 (by rfl) _) ?_
  have hb2 : badC g m 0 = badC g (m - m) m := hb
  rw [Nat.sub_self] at hb2
  have hb3 : badC g m 0 = m := hb2
  have hbn2 : badAt L n 0 0 = n := hbn
  exact hc _ _ ⟨by simp [chk, hbn2, hb3, show ¬ 6 < n by omega, show ¬ 9 < m by omega], kp⟩

set_option maxRecDepth 100000 in
theorem num_x (x : Int) (w0 : World) : CallsX Tryz.prog main (DX Ok) 18 #[.int .i64 x] w0 fun v w' => v = .int .i64 x ∧ w' = w0 := by
  intro Ψ F c cs hc
  rw [enter_at _ Tryz.func18 rfl]
  simp only [Tryz.ntmps18, List.size_toArray, List.length_cons, List.length_nil, Nat.reduceAdd, Nat.reduceSub, Array.replicate_succ, Array.replicate_zero, List.push_toArray, List.append_toArray, List.nil_append, List.cons_append]
  refine F.sr ?_
  simp only [rg, Nat.reduceAdd]
  refine F.oq rfl rfl rfl (fun _ => by simp [go_sem]) fun d K hK => ?_; go_simp; refine hK _ ?_; clear hK K d; try walk_nrm
  refine F.esr ?_
  simp only [rg, Nat.reduceAdd]
  iterate 2 (refine F.oq rfl rfl rfl (fun _ => by simp [go_sem]) fun d K hK => ?_; go_simp; refine hK _ ?_; clear hK K d; try walk_nrm)
  refine F.re ?_
  refine F.ctl (fun _ => stepG_ret') ?_
  refine F.leave rfl rfl Tryz.func18 (resultsC_tmp (by rfl) _) ?_
  exact hc _ _ ⟨rfl, rfl⟩

end Go.Proofs.YtobagnjnbmgidaaGreatDoor
