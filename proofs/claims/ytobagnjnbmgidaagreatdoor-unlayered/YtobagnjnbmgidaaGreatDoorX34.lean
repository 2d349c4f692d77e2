/- Check. -/
import Derived.Test.YtobagnjnbmgidaaGreatDoorX32
import Derived.Test.YtobagnjnbmgidaaGreatDoorX33
import Derived.ChangeSlices
import Derived.Test.YtobagnjnbmgidaaGreatDoorX30
set_option linter.unusedSimpArgs false
set_option linter.unusedVariables false
set_option maxHeartbeats 8000000
set_option maxRecDepth 100000
namespace Go.Proofs.YtobagnjnbmgidaaGreatDoor
section
open Go.Conc Go.RowKit
variable {main : Bool} {Ok : Addr → Bool → Prop}

structure Cl where
  st : Int
  ta : Option Addr
  nt : Nat
  tc : Nat
  T : Nat → Nat → Int
def Cl.good (c : Cl) : Bool := goodC c.st c.nt c.T
def badC (g : Nat → Cl) : Nat → Nat → Nat
  | 0, k => k
  | m + 1, k => if (g k).good = false then k else badC g m (k + 1)
def ClsAt (w : World) (sa : Option Addr) (m : Nat) (g : Nat → Cl) : Prop :=
  ∀ i, i < m → ∃ b o : Nat, sa = some ⟨b, o, none⟩ ∧ w.cell? ⟨b, o + i * 2, none⟩ = some (.int .i64 (g i).st) ∧ w.cell? ⟨b, o + i * 2 + 1, none⟩ = some (.slice (g i).ta (g i).nt (g i).tc) ∧ TurnsAt w (g i).ta (g i).nt (g i).T
theorem ClsAt.kp {w w' : World} {sa : Option Addr} {m : Nat} {g : Nat → Cl} (h : ClsAt w sa m g) (k : Kp [] w w') : ClsAt w' sa m g := fun i hi => by
  obtain ⟨b, o, e, h1, h2, h3⟩ := h i hi; exact ⟨b, o, e, k.cell _ _ (by simp) h1, k.cell _ _ (by simp) h2, h3.kp k⟩
def RdC (Ok : Addr → Bool → Prop) (sa : Option Addr) (m : Nat) (g : Nat → Cl) : Prop := (∀ p : Addr, sa = some p → ∀ a : Addr, a.block = p.block → Ok a false) ∧ ∀ i, i < m → 0 < (g i).nt → ∀ p : Addr, (g i).ta = some p → ∀ a : Addr, a.block = p.block → Ok a false
def chk (n : Nat) (L : Nat → Nat → Int) (m : Nat) (g : Nat → Cl) : Int × Int :=
  if 6 < n then (1, 0) else if badAt L n 0 0 < n then (2, badAt L n 0 0) else if 9 < m then (3, 0) else if badC g m 0 < m then (4, badC g m 0) else (0, 0)

theorem fbc_x (N m cap : Nat) (sa : Option Addr) (g : Nat → Cl) (w0 : World) (hN : N ≤ w0.heap.size) (hm : m ≤ 9) (hC : ClsAt w0 sa m g) (hrd : RdC Ok sa m g) (hfr : ∀ a wr, N ≤ a.block → Ok a wr) :
    CallsX Tryz.prog main (DX Ok) 27 #[.slice sa m cap] w0 fun v w' => v = .int .i64 (badC g m 0) ∧ Kp [] w0 w' := by
  intro Ψ F c cs hc; rw [enter_at _ Tryz.func27 rfl]; simp only [Tryz.ntmps27, List.size_toArray, List.length_cons, List.length_nil, Nat.reduceAdd, Nat.reduceSub, Array.replicate_succ, Array.replicate_zero, List.push_toArray, List.append_toArray, List.nil_append, List.cons_append]; refine F.sr ?_; simp only [rg, Nat.reduceAdd]; refine F.oq rfl rfl rfl (by simp [go_sem]) fun d K h => ?_; go_simp; refine h _ ?_; clear h K d; try walk_nrm
  refine F.es ?_; refine F.sr ?_; simp only [rg, Nat.reduceAdd]; iterate 3 (refine F.oq rfl rfl rfl (by simp [go_sem]) fun d K h => ?_; go_simp; refine h _ ?_; clear h K d; try walk_nrm)
  refine F.re ?_; refine F.bl ?_; refine F.ctl (fun _ => stepG_loop) ?_; refine loopN m (fun k a w => ∃ (y : Int) (x3 x4 x8 x9 x10 x11 x12 x13 x14 x15 x16 x17 x18 : Value), a = ⟨#[.slice sa m cap, undef, .int .i64 0, x3, x4, .slice sa m cap, .int .i64 m, .int .i64 y, x8, x9, x10, x11, x12, x13, x14, x15, x16, x17, x18], []⟩ ∧ y = k ∧ Kp [] w0 w ∧ Hid (badC g m 0 = badC g (m - k) k)) ?_ ?_ ⟨0, _, _, _, _, _, _, _, _, _, _, _, _, _, rfl, rfl, Kp.refl _, rfl⟩
  · intro k a w hk hI hnext
    obtain ⟨y, x3, x4, x8, x9, x10, x11, x12, x13, x14, x15, x16, x17, x18, rfl, rfl, kp, hb⟩ := hI; obtain ⟨pb, po, rfl, l0, l1, hT⟩ := hC k hk; have hrb : ∀ a : Addr, a.block = pb → Ok a false := hrd.1 _ rfl; have hrt := hrd.2 k hk; clear hrd hC; have hk' : (k : Int) < (m : Int) := by omega
    have hk0 : (0 : Int) ≤ (k : Int) := by omega
    have hwk : IntKind.i64.wrap ((k : Int) + 1) = (k : Int) + 1 := wr (by omega) (by omega); have l0 := kp.cell _ _ (by simp) l0; have l1 := kp.cell _ _ (by simp) l1; have hsz := kp.size; refine F.sr ?_; simp only [rg, Nat.reduceAdd]; refine F.oq rfl rfl rfl (by simp [go_sem]) fun d K h => ?_; go_simp; refine h _ ?_; clear h K d; try walk_nrm
    refine F.es ?_; refine F.ct rfl ?_; refine F.sk ?_; refine F.sq ?_; refine F.bl ?_; refine F.sr ?_; simp only [rg, Nat.reduceAdd]; iterate 2 (refine F.oq rfl rfl rfl (fun _ => by first | (simp [go_sem]; done) | simp [go_sem, Instr.makeInterface, Instr.makeFunc, *]) fun d K hK => ?_; go_simp; refine hK _ ?_; clear hK K d; try walk_nrm)
    refine F.ol rfl rfl rfl fun d K hK => ?_
    go_simp; refine hK _ (fun e hm => ?_) ?_
    · simp [go_sem, *] at hm
      rcases hm with rfl | rfl <;> exact evr (w := w) (by assumption) (by first | assumption | exact hrb _ rfl | (apply hfr <;> dsimp only <;> omega))
    clear hK K d; try walk_nrm
    clear l0 l1; refine F.op rfl rfl (by decide) (fun d K hK => ?_); go_simp; rw [alloc_at']; refine hK _ _ ⟨DX.alloc _ _ (fun e he => ?_), ?_⟩
    · have hm := mem_listed he
      simp [go_sem] at hm
    clear hK K d; try walk_nrm
    generalize ew1 : World.alloc w _ = w1; generalize hn1 : (World.heap w).size = n1; have sz1 := sz_al ew1 hn1; have hf0 := cl_new (i := 0) ew1 hn1 rfl; have zf0 := fz_new ew1 hn1 0; have hf1 := cl_new (i := 1) ew1 hn1 rfl; have zf1 := fz_new ew1 hn1 1; try simp only [List.getElem_toArray, List.getElem_cons_zero, List.getElem_cons_succ] at hf0 hf1
    replace kp := kp.alN ew1; refine F.oq rfl rfl rfl (by simp [go_sem]) fun d K h => ?_; go_simp; refine h _ ?_; clear h K d; try walk_nrm
    refine F.op rfl rfl (by decide) (fun d K hK => ?_); go_simp
    repeat rw [setCell_at']
    refine hK _ _ ⟨DX.set2 _ (by (first | assumption | exact hrb _ rfl | (apply hfr <;> dsimp only <;> omega))) (by (first | assumption | exact hrb _ rfl | (apply hfr <;> dsimp only <;> omega))) (fun e he => ?_), ?_⟩
    · have hm := mem_listed he
      simp [go_sem, storedEv, evst_slice, evst_ptr, evst_iface, evst_nil, evst_bool, *] at hm; rcases hm with rfl | rfl <;> exact .inl ⟨_, rfl, rfl, by (first | assumption | exact hrb _ rfl | (apply hfr <;> dsimp only <;> omega)), by simp only [size_at, size_set]; first | omega | exact lt_of_cell (by assumption)⟩
    clear hK K d; try walk_nrm
    generalize ew2 : World.setCell w1 _ _ = w2; have sz2 := sz_st ew2; replace zf0 := fz_st zf0 ew2; replace zf1 := fz_st zf1 ew2; replace hf0 := cl_st' hf0 ew2; replace hf1 := cl_st hf1 ew2 (by simp <;> omega); replace kp := kp.stN ew2 (by first | (left; simp; done) | (right; left; simp; done) | (right; right; dsimp only; omega)); generalize ew3 : World.setCell w2 _ _ = w3; have sz3 := sz_st ew3; replace zf0 := fz_st zf0 ew3; replace zf1 := fz_st zf1 ew3; replace hf0 := cl_st hf0 ew3 (by simp <;> omega); replace hf1 := cl_st' hf1 ew3; replace kp := kp.stN ew3 (by first | (left; simp; done) | (right; left; simp; done) | (right; right; dsimp only; omega)); refine F.esr ?_; simp only [rg, Nat.reduceAdd]; refine F.ol rfl rfl rfl fun d K hK => ?_
    go_simp; refine hK _ (fun e hm => ?_) ?_
    · simp [go_sem, *] at hm
      rcases hm with rfl | rfl <;> exact evr (w := w3) (by assumption) (by first | assumption | exact hrb _ rfl | (apply hfr <;> dsimp only <;> omega))
    clear hK K d; try walk_nrm
    refine F.enter rfl rfl (by decide) (fun _ => run_call_body rfl Tryz.func41 (by rfl) (by rfl)) (fun _ => events_call_body rfl Tryz.func41 (by rfl) (by rfl) _) ?_; walk_nrm; refine goodClient_x N (g k).nt (g k).tc (g k).st (g k).ta (g k).T w3 (by omega) (hT.kp kp) hrt hfr _ F _ _ (fun v wc hp => ?_); obtain ⟨rfl, kq⟩ := hp; replace kp := kp.callN kq (by simp) (by simp); rw [Frame.finish_at]; cases hg : goodC (g k).st (g k).nt (g k).T with
    | false =>
      try walk_nrm
      refine F.oq rfl rfl rfl (by simp [go_sem]) fun d K h => ?_; go_simp; refine h _ ?_; clear h K d; try walk_nrm
      refine F.re ?_; refine F.ct rfl ?_; refine F.sr ?_; simp only [rg, Nat.reduceAdd]; iterate 2 (refine F.oq rfl rfl rfl (by simp [go_sem]) fun d K h => ?_; go_simp; refine h _ ?_; clear h K d; try walk_nrm)
      refine F.re ?_; refine F.ctl (fun _ => stepG_ret') ?_; refine F.leave rfl rfl Tryz.func27 (resultsC_tmp (by rfl) _) ?_; refine hc _ _ ⟨?_, kp⟩; have hnk : m - k = (m - (k + 1)) + 1 := by omega
      have hb2 : badC g m 0 = badC g (m - k) k := hb; rw [hb2, hnk]; simp [badC, Cl.good, hg]
    | true =>
      try walk_nrm
      refine F.oq rfl rfl rfl (by simp [go_sem]) fun d K h => ?_; go_simp; refine h _ ?_; clear h K d; try walk_nrm
      refine F.re ?_; refine F.cf rfl ?_; refine F.sk ?_; refine F.ib ?_; refine F.rr ?_; simp only [rg, Nat.reduceAdd]; iterate 2 (refine F.oq rfl rfl rfl (by simp [go_sem]) fun d K h => ?_; go_simp; refine h _ ?_; clear h K d; try walk_nrm)
      refine F.re ?_; refine F.ctl (fun _ => stepG_inLoop) ?_; refine hnext _ _ ⟨_, _, _, _, _, _, _, _, _, _, _, _, _, _, rfl, by omega, kp, ?_⟩
      show badC g m 0 = _
      have hnk : m - k = (m - (k + 1)) + 1 := by omega
      have hb2 : badC g m 0 = badC g (m - k) k := hb; rw [hb2, hnk]; simp [badC, Cl.good, hg]
  · intro a w hI
    obtain ⟨y, x3, x4, x8, x9, x10, x11, x12, x13, x14, x15, x16, x17, x18, rfl, rfl, kp, hb⟩ := hI; refine F.sr ?_; simp only [rg, Nat.reduceAdd]; refine F.oq rfl rfl rfl (by simp [go_sem]) fun d K h => ?_; go_simp; refine h _ ?_; clear h K d; try walk_nrm
    refine F.es ?_; refine F.cf rfl ?_; refine F.ctl (fun _ => stepG_exit rfl) ?_; refine F.sr ?_; simp only [rg, Nat.reduceAdd]; iterate 3 (refine F.oq rfl rfl rfl (by simp [go_sem]) fun d K h => ?_; go_simp; refine h _ ?_; clear h K d; try walk_nrm)
    refine F.re ?_; refine F.ctl (fun _ => stepG_ret') ?_; refine F.leave rfl rfl Tryz.func27 (resultsC_tmp (by rfl) _) ?_; have hb2 : badC g m 0 = badC g (m - m) m := hb; rw [Nat.sub_self] at hb2; exact hc _ _ ⟨by rw [hb2]; rfl, kp⟩

theorem badAt_le (L : Nat → Nat → Int) : ∀ (m k : Nat) (r : Int), badAt L m k r ≤ k + m
  | 0, k, r => by simp [badAt]
  | m + 1, k, r => by
    rw [badAt]; have := badAt_le L m (k + 1) (if L k 0 = 1 then r + 1 else r)
    by_cases h : (2 < (if L k 0 = 1 then r + 1 else r) ∨ goodL (L k 0) (L k 1) (L k 2) (L k 3) (L k 4) (L k 5) = false)
    · rw [if_pos h]; omega
    · rw [if_neg h]; omega
theorem badC_le (g : Nat → Cl) : ∀ (m k : Nat), badC g m k ≤ k + m
  | 0, k => by simp [badC]
  | m + 1, k => by
    rw [badC]; split
    · omega
    · have := badC_le g m (k + 1); omega

theorem check_x (N n capL m cap : Nat) (sL sa : Option Addr) (L : Nat → Nat → Int) (g : Nat → Cl) (w0 : World) (hN : N ≤ w0.heap.size) (hL : LaysAt w0 sL n L) (hC : ClsAt w0 sa m g) (hrL : ∀ p : Addr, sL = some p → ∀ a : Addr, a.block = p.block → Ok a false) (hrd : RdC Ok sa m g) (hfr : ∀ a wr, N ≤ a.block → Ok a wr) :
    CallsX Tryz.prog main (DX Ok) 16 #[.slice sL n capL, .slice sa m cap] w0 fun v w' => v = .tuple #[.int .i64 (chk n L m g).1, .int .i64 (chk n L m g).2] ∧ Kp [] w0 w' := by
  intro Ψ F c cs hc; rw [enter_at _ Tryz.func16 rfl]; simp only [Tryz.ntmps16, List.size_toArray, List.length_cons, List.length_nil, Nat.reduceAdd, Nat.reduceSub, Array.replicate_succ, Array.replicate_zero, List.push_toArray, List.append_toArray, List.nil_append, List.cons_append]
  by_cases h6 : (6 : Int) < (n : Int)
  · refine F.ctl (fun _ => stepG_seq) ?_
    refine F.rr ?_; simp only [rg, Nat.reduceAdd]; iterate 2 (refine F.oq rfl rfl rfl (by simp [go_sem]) fun d K h => ?_; go_simp; refine h _ ?_; clear h K d; try walk_nrm)
    refine F.es ?_; refine F.sr ?_; simp only [rg, Nat.reduceAdd]; iterate 3 (refine F.oq rfl rfl rfl (by simp [go_sem]) fun d K h => ?_; go_simp; refine h _ ?_; clear h K d; try walk_nrm)
    refine F.re ?_; refine F.ct rfl ?_; refine F.sr ?_; simp only [rg, Nat.reduceAdd]; iterate 2 (refine F.oq rfl rfl rfl (by simp [go_sem]) fun d K h => ?_; go_simp; refine h _ ?_; clear h K d; try walk_nrm)
    refine F.re ?_; refine F.ctl (fun _ => stepG_ret') ?_; refine F.leave rfl rfl Tryz.func16 (resultsC_tmp2 (by rfl) _) ?_; exact hc _ _ ⟨by simp [chk, show 6 < n by omega], Kp.refl _⟩
  refine F.sr ?_; simp only [rg, Nat.reduceAdd]; iterate 2 (refine F.oq rfl rfl rfl (by simp [go_sem]) fun d K h => ?_; go_simp; refine h _ ?_; clear h K d; try walk_nrm)
  refine F.es ?_; refine F.sr ?_; simp only [rg, Nat.reduceAdd]; iterate 3 (refine F.oq rfl rfl rfl (by simp [go_sem]) fun d K h => ?_; go_simp; refine h _ ?_; clear h K d; try walk_nrm)
  refine F.re ?_; refine F.cf rfl ?_; refine F.sk ?_; refine F.sq ?_; refine F.sr ?_; simp only [rg, Nat.reduceAdd]; refine F.oq rfl rfl rfl (by simp [go_sem]) fun d K h => ?_; go_simp; refine h _ ?_; clear h K d; try walk_nrm
  refine F.enter rfl rfl (by decide) (fun _ => run_call_body rfl Tryz.func26 (by rfl) (by rfl)) (fun _ => events_call_body rfl Tryz.func26 (by rfl) (by rfl) _) ?_; walk_nrm; refine fbl_x N n capL sL L w0 hN (by omega) hL hrL hfr _ F _ _ (fun v w1 hp => ?_); obtain ⟨rfl, k1⟩ := hp; rw [Frame.finish_at]; have hle := badAt_le L n 0 0; generalize hba : badAt L n 0 0 = ba at hle ⊢; try walk_nrm
  by_cases hl : (ba : Int) < (n : Int)
  · refine F.opq rfl rfl (by decide) (fun _ => (by first | (simp [go_sem]; done) | (simp [go_sem, Instr.makeInterface, Instr.makeFunc]; done) | (simp [go_sem, *]; done))) (fun d K hK => ?_)
    go_simp; refine hK _ ?_; clear hK K d; try walk_nrm
    refine F.esr ?_; simp only [rg, Nat.reduceAdd]; iterate 4 (refine F.oq rfl rfl rfl (by simp [go_sem]) fun d K h => ?_; go_simp; refine h _ ?_; clear h K d; try walk_nrm)
    refine F.re ?_; refine F.ct rfl ?_; refine F.sr ?_; simp only [rg, Nat.reduceAdd]; iterate 3 (refine F.oq rfl rfl rfl (by simp [go_sem]) fun d K h => ?_; go_simp; refine h _ ?_; clear h K d; try walk_nrm)
    refine F.re ?_; refine F.ctl (fun _ => stepG_ret') ?_; refine F.leave rfl rfl Tryz.func16 (resultsC_tmp2 (by rfl) _) ?_; exact hc _ _ ⟨by simp [chk, hba, show ¬ 6 < n by omega, show ba < n by omega], k1⟩
  refine F.oq rfl rfl rfl (by simp [go_sem]) fun d K h => ?_; go_simp; refine h _ ?_; clear h K d; try walk_nrm
  refine F.esr ?_; simp only [rg, Nat.reduceAdd]; iterate 4 (refine F.oq rfl rfl rfl (by simp [go_sem]) fun d K h => ?_; go_simp; refine h _ ?_; clear h K d; try walk_nrm)
  refine F.re ?_; refine F.cf rfl ?_; refine F.sk ?_
  by_cases h9 : (9 : Int) < (m : Int)
  · refine F.ctl (fun _ => stepG_seq) ?_
    refine F.sr ?_; simp only [rg, Nat.reduceAdd]; iterate 3 (refine F.oq rfl rfl rfl (by simp [go_sem]) fun d K h => ?_; go_simp; refine h _ ?_; clear h K d; try walk_nrm)
    refine F.re ?_; refine F.ct rfl ?_; refine F.sr ?_; simp only [rg, Nat.reduceAdd]; iterate 2 (refine F.oq rfl rfl rfl (by simp [go_sem]) fun d K h => ?_; go_simp; refine h _ ?_; clear h K d; try walk_nrm)
    refine F.re ?_; refine F.ctl (fun _ => stepG_ret') ?_; refine F.leave rfl rfl Tryz.func16 (resultsC_tmp2 (by rfl) _) ?_; exact hc _ _ ⟨by simp [chk, hba, show ¬ 6 < n by omega, show ¬ ba < n by omega, show 9 < m by omega], k1⟩
  refine F.sq ?_; refine F.sr ?_; simp only [rg, Nat.reduceAdd]; iterate 3 (refine F.oq rfl rfl rfl (by simp [go_sem]) fun d K h => ?_; go_simp; refine h _ ?_; clear h K d; try walk_nrm)
  refine F.re ?_; refine F.cf rfl ?_; refine F.sk ?_; refine F.sq ?_; refine F.sr ?_; simp only [rg, Nat.reduceAdd]; refine F.oq rfl rfl rfl (by simp [go_sem]) fun d K h => ?_; go_simp; refine h _ ?_; clear h K d; try walk_nrm
  have hs1 := k1.size; refine F.enter rfl rfl (by decide) (fun _ => run_call_body rfl Tryz.func27 (by rfl) (by rfl)) (fun _ => events_call_body rfl Tryz.func27 (by rfl) (by rfl) _) ?_; walk_nrm; refine fbc_x N m cap sa g w1 (by omega) (by omega) (hC.kp k1) hrd hfr _ F _ _ (fun v w2 hp => ?_); obtain ⟨rfl, k2⟩ := hp; rw [Frame.finish_at]; have hle2 := badC_le g m 0; generalize hbc : badC g m 0 = bc at hle2 ⊢; try walk_nrm
  have k12 : Kp [] w0 w2 := k1.callN k2 (by simp) (by simp)
  by_cases hl2 : (bc : Int) < (m : Int)
  · refine F.opq rfl rfl (by decide) (fun _ => (by first | (simp [go_sem]; done) | (simp [go_sem, Instr.makeInterface, Instr.makeFunc]; done) | (simp [go_sem, *]; done))) (fun d K hK => ?_)
    go_simp; refine hK _ ?_; clear hK K d; try walk_nrm
    refine F.esr ?_; simp only [rg, Nat.reduceAdd]; iterate 4 (refine F.oq rfl rfl rfl (by simp [go_sem]) fun d K h => ?_; go_simp; refine h _ ?_; clear h K d; try walk_nrm)
    refine F.re ?_; refine F.ct rfl ?_; refine F.sr ?_; simp only [rg, Nat.reduceAdd]; iterate 3 (refine F.oq rfl rfl rfl (by simp [go_sem]) fun d K h => ?_; go_simp; refine h _ ?_; clear h K d; try walk_nrm)
    refine F.re ?_; refine F.ctl (fun _ => stepG_ret') ?_; refine F.leave rfl rfl Tryz.func16 (resultsC_tmp2 (by rfl) _) ?_; exact hc _ _ ⟨by simp [chk, hba, hbc, show ¬ 6 < n by omega, show ¬ ba < n by omega, show ¬ 9 < m by omega, show bc < m by omega], k12⟩
  refine F.oq rfl rfl rfl (by simp [go_sem]) fun d K h => ?_; go_simp; refine h _ ?_; clear h K d; try walk_nrm
  refine F.esr ?_; simp only [rg, Nat.reduceAdd]; iterate 4 (refine F.oq rfl rfl rfl (by simp [go_sem]) fun d K h => ?_; go_simp; refine h _ ?_; clear h K d; try walk_nrm)
  refine F.re ?_; refine F.cf rfl ?_; refine F.sk ?_; refine F.sr ?_; simp only [rg, Nat.reduceAdd]; iterate 2 (refine F.oq rfl rfl rfl (by simp [go_sem]) fun d K h => ?_; go_simp; refine h _ ?_; clear h K d; try walk_nrm)
  refine F.re ?_; refine F.ctl (fun _ => stepG_ret') ?_; refine F.leave rfl rfl Tryz.func16 (resultsC_tmp2 (by rfl) _) ?_; exact hc _ _ ⟨by simp [chk, hba, hbc, show ¬ 6 < n by omega, show ¬ ba < n by omega, show ¬ 9 < m by omega, show ¬ bc < m by omega], k12⟩
end
section
open Go.Conc Go.RowKit Go.ChangeShapes

def fieldsIn (p : Program) (t : TypeId) : List (TypeId × Nat) := match p.underlying t with | some (.struct fs) => fs.toList.map fun f => (f.type, f.offset) | _ => []
theorem u3 : Tryz.prog.underlying 3 = some (.int .i64) := by kernel_rfl
theorem u23 : Tryz.prog.underlying 23 = some (.slice 43) := by kernel_rfl
theorem u41 : Tryz.prog.underlying 41 = some (.slice 39) := by kernel_rfl
theorem f39 : fieldsIn Tryz.prog 39 = [(3, 0), (3, 1), (3, 2)] := by kernel_rfl
theorem f43 : fieldsIn Tryz.prog 43 = [(3, 0), (41, 1)] := by kernel_rfl
theorem c39 : Tryz.prog.cellsOf 39 = 3 := by kernel_rfl
theorem c43 : Tryz.prog.cellsOf 43 = 2 := by kernel_rfl
theorem c41 : Tryz.prog.cellsOf 41 = 1 := by kernel_rfl
theorem c3 : Tryz.prog.cellsOf 3 = 1 := by kernel_rfl

section
variable {H : Type} {enc : TypeId × Value → H} {W : World} {sp : Nat → Bool} {hd : Bool}

theorem field_read {t u : TypeId} {j o fuel : Nat} {cs : List Value} {x : DataW H × List MemPlace} (hf : (fieldsIn Tryz.prog t)[j]? = some (u, o)) (hc : Tryz.prog.cellsOf u = 1) (ho : o < Tryz.prog.cellsOf t) (h : DataW.trod enc Tryz.prog W 0 sp hd fuel t cs = some x) :
    ∃ v n y, cs[o]? = some v ∧ DataW.trod enc Tryz.prog W 0 sp hd n u [v] = some y := by
  unfold fieldsIn at hf
  split at hf
  · rename_i fs hu
    obtain ⟨xs, n, rfl, _, hlen, hxl, hall⟩ := DataW.trod_struct hu h; simp only [List.getElem?_map, Option.map_eq_some_iff] at hf; obtain ⟨f, hf, e⟩ := hf; have hf' : fs[j]? = some f := by simpa using hf
    have hj : j < xs.length := by rw [hxl]; exact (Array.getElem?_eq_some_iff.1 hf').1
    have := hall j f hf'; simp only [Prod.mk.injEq] at e; obtain ⟨rfl, rfl⟩ := e; rw [hc, List.getElem?_eq_getElem hj] at this; cases hd0 : cs.drop f.offset with
    | nil =>
      have := congrArg List.length hd0
      simp at this
      omega
    | cons v r =>
      rw [hd0] at this; refine ⟨v, n, _, ?_, by simpa using this⟩; have h0 : (cs.drop f.offset)[0]? = some v := by rw [hd0]; rfl
      simpa using h0
  · simp at hf

theorem cells_get {a : Addr} {k : Nat} {cs : List Value} (h : W.cells? 0 a k = some cs) (j : Nat) (hj : j < k) : W.cell? (a.add j) = cs[j]? := by
  unfold World.cells? at h; rw [if_pos (Nat.zero_le _)] at h; exact mapM_some_get h j j (by simp [hj])

theorem open_rows {t e : TypeId} {k fuel : Nat} {cs : List Value} {x : DataW H × List MemPlace} (ht : Tryz.prog.underlying t = some (.slice e)) (hc : Tryz.prog.cellsOf e = k) (hk : 0 < k) (hf : ∀ j, j < k → (fieldsIn Tryz.prog e)[j]? = some (3, j)) (h : DataW.trod enc Tryz.prog W 0 sp hd fuel t cs = some x) :
    ∃ sa n cap, ∃ T : Nat → Nat → Int, cs = [.slice sa n cap] ∧ ∀ i, i < n → ∃ b o : Nat, sa = some ⟨b, o, none⟩ ∧ ∀ j, j < k → W.cell? ⟨b, o + i * k + j, none⟩ = some (.int .i64 (T i j)) := by
  rcases DataW.trod_slice ht h with ⟨rfl, _⟩ | ⟨a, len, cap, elems, rest, n, _, rfl, _, _, _, _, hlen, hel, _, _⟩
  · exact ⟨none, 0, 0, fun _ _ => 0, rfl, fun i hi => absurd hi (by omega)⟩
  have each : ∀ i, i < len → ∀ j, j < k → ∃ m, W.cell? ((a.add (i * k)).add j) = some (.int .i64 m) := fun i hi j hj => by
    have h1 := hel i hi; rw [hc, List.getElem?_eq_getElem (by omega), Option.bind_eq_some_iff] at h1; obtain ⟨cs', h2, h3⟩ := h1; obtain ⟨v, n', y, h4, h5⟩ := field_read (hf j hj) c3 (by rw [hc]; exact hj) h3; obtain ⟨m, e1, _, _⟩ := DataW.trod_int u3 h5; rw [cells_get h2 j hj, h4]; exact ⟨m, by simpa using e1⟩
  refine ⟨some a, len, cap, fun i j => if hi : i < len then (if hj : j < k then (each i hi j hj).choose else 0) else 0, rfl, fun i hi => ?_⟩
  have hs : a.spot = none := by
    obtain ⟨m, h1⟩ := each 0 (by omega) 0 hk
    simpa [Addr.add] using World.cell?_spot h1
  obtain ⟨b, o, s⟩ := a; cases hs
  refine ⟨b, o, rfl, fun j hj => ?_⟩; have hsp := (each i hi j hj).choose_spec; simp only [dif_pos hi, dif_pos hj]; generalize (each i hi j hj).choose = m at hsp ⊢; rw [addN, addN] at hsp; exact hsp

theorem open_turns {fuel : Nat} {cs : List Value} {x : DataW H × List MemPlace} (h : DataW.trod enc Tryz.prog W 0 sp hd fuel 41 cs = some x) : ∃ sa n cap T, cs = [.slice sa n cap] ∧ TurnsAt W sa n T :=
  open_rows u41 c39 (by decide) (fun j hj => by rw [f39]; match j, hj with | 0, _ => rfl | 1, _ => rfl | 2, _ => rfl) h

theorem open_clients {fuel : Nat} {cs : List Value} {x : DataW H × List MemPlace} (h : DataW.trod enc Tryz.prog W 0 sp hd fuel 23 cs = some x) : ∃ sa m cap g, cs = [.slice sa m cap] ∧ ClsAt W sa m g := by
  rcases DataW.trod_slice u23 h with ⟨rfl, _⟩ | ⟨a, len, cap, elems, rest, n, _, rfl, _, _, _, _, hlen, hel, _, _⟩
  · exact ⟨none, 0, 0, fun _ => ⟨0, none, 0, 0, fun _ _ => 0⟩, rfl, fun i hi => absurd hi (by omega)⟩
  have each : ∀ i, i < len → ∃ c : Cl, W.cell? ((a.add (i * 2)).add 0) = some (.int .i64 c.st) ∧ W.cell? ((a.add (i * 2)).add 1) = some (.slice c.ta c.nt c.tc) ∧ TurnsAt W c.ta c.nt c.T := fun i hi => by
    have h1 := hel i hi; rw [c43, List.getElem?_eq_getElem (by omega), Option.bind_eq_some_iff] at h1; obtain ⟨cs', h2, h3⟩ := h1; obtain ⟨v, n1, y, h4, h5⟩ := field_read (j := 0) (o := 0) (by rw [f43]; rfl) c3 (by rw [c43]; decide) h3; obtain ⟨v', n2, y', h6, h7⟩ := field_read (j := 1) (o := 1) (by rw [f43]; rfl) c41 (by rw [c43]; decide) h3; obtain ⟨m, e1, _, _⟩ := DataW.trod_int u3 h5; obtain ⟨sa, q, cap', T, e2, hT⟩ := open_turns h7; simp only [List.cons.injEq, and_true] at e1 e2; subst e1; subst e2; exact ⟨⟨m, sa, q, cap', T⟩, by rw [cells_get h2 0 (by decide), h4], by rw [cells_get h2 1 (by decide), h6], hT⟩
  refine ⟨some a, len, cap, fun i => if hi : i < len then (each i hi).choose else ⟨0, none, 0, 0, fun _ _ => 0⟩, rfl, fun i hi => ?_⟩
  have hs : a.spot = none := by
    obtain ⟨c, h1, _⟩ := each 0 (by omega)
    simpa [Addr.add] using World.cell?_spot h1
  obtain ⟨b, o, s⟩ := a; cases hs
  have hsp := (each i hi).choose_spec; simp only [dif_pos hi]; generalize (each i hi).choose = c at hsp ⊢; rw [addN, addN, addN] at hsp; exact ⟨b, o, rfl, hsp.1, hsp.2.1, hsp.2.2⟩
end
end
section
open Go.Conc Go.RowKit
variable {main : Bool} {Ok : Addr → Bool → Prop}

theorem mc99 (w : World) : (Instr.makeChan 99 (.int .i64 0)).run Tryz.prog w = .ok (.chan (some w.heap.size)) (w.alloc (.chan 0 #[] false 0 0 false)) := by kernel_rfl
theorem mc99e (w : World) (es : Array Event) : (Instr.makeChan 99 (.int .i64 0)).events Tryz.prog w es = es := by kernel_rfl
theorem mc113 (w : World) : (Instr.makeChan 113 (.int .i64 0)).run Tryz.prog w = .ok (.chan (some w.heap.size)) (w.alloc (.chan 0 #[] false 0 0 false)) := by kernel_rfl
theorem mc113e (w : World) (es : Array Event) : (Instr.makeChan 113 (.int .i64 0)).events Tryz.prog w es = es := by kernel_rfl
end
section
open Go.Conc Go.RowKit
variable {main : Bool} {Ok : Addr → Bool → Prop}

def zoL : Nat → List Value
  | 0 => []
  | n + 1 => .int .i64 0 :: .int .i64 0 :: .int .i64 0 :: .slice none 0 0 :: zoL n
theorem zoL_at : ∀ (n j : Nat), j < n → (zoL n)[j * 4]? = some (.int .i64 0) ∧ (zoL n)[j * 4 + 1]? = some (.int .i64 0) ∧ (zoL n)[j * 4 + 2]? = some (.int .i64 0) ∧ (zoL n)[j * 4 + 3]? = some (.slice none 0 0)
  | n + 1, 0, _ => ⟨rfl, rfl, rfl, rfl⟩
  | n + 1, j + 1, h => by
    have := zoL_at n j (by omega); rw [show (j + 1) * 4 = j * 4 + 1 + 1 + 1 + 1 by omega]
    simpa [zoL] using this
def zhL : Nat → List Value
  | 0 => []
  | n + 1 => .int .i64 0 :: zhL n
theorem zhL_at : ∀ (n j : Nat), j < n → (zhL n)[j]? = some (.int .i64 0)
  | n + 1, 0, _ => rfl
  | n + 1, j + 1, h => zhL_at n j (by omega)

theorem mkH (n : Nat) (h : n ≤ 9) (w : World) : (Instr.makeSlice 58 (.int .i64 (n : Int)) (.int .i64 (n : Int))).run Tryz.prog w = .ok (.slice (some ⟨w.heap.size, 0, none⟩) n n) (w.alloc (.cells (zhL n).toArray 3)) := by
  obtain rfl | rfl | rfl | rfl | rfl | rfl | rfl | rfl | rfl | rfl : n = 0 ∨ n = 1 ∨ n = 2 ∨ n = 3 ∨ n = 4 ∨ n = 5 ∨ n = 6 ∨ n = 7 ∨ n = 8 ∨ n = 9 := by omega
  all_goals kernel_rfl
theorem mkHe (n : Nat) (h : n ≤ 9) (w : World) (es : Array Event) : (Instr.makeSlice 58 (.int .i64 (n : Int)) (.int .i64 (n : Int))).events Tryz.prog w es = es := by
  obtain rfl | rfl | rfl | rfl | rfl | rfl | rfl | rfl | rfl | rfl : n = 0 ∨ n = 1 ∨ n = 2 ∨ n = 3 ∨ n = 4 ∨ n = 5 ∨ n = 6 ∨ n = 7 ∨ n = 8 ∨ n = 9 := by omega
  all_goals kernel_rfl
theorem mkO (n : Nat) (h : n ≤ 9) (w : World) : (Instr.makeSlice 32 (.int .i64 (n : Int)) (.int .i64 (n : Int))).run Tryz.prog w = .ok (.slice (some ⟨w.heap.size, 0, none⟩) n n) (w.alloc (.cells (zoL n).toArray 46)) := by
  obtain rfl | rfl | rfl | rfl | rfl | rfl | rfl | rfl | rfl | rfl : n = 0 ∨ n = 1 ∨ n = 2 ∨ n = 3 ∨ n = 4 ∨ n = 5 ∨ n = 6 ∨ n = 7 ∨ n = 8 ∨ n = 9 := by omega
  all_goals kernel_rfl
theorem mkOe (n : Nat) (h : n ≤ 9) (w : World) (es : Array Event) : (Instr.makeSlice 32 (.int .i64 (n : Int)) (.int .i64 (n : Int))).events Tryz.prog w es = es := by
  obtain rfl | rfl | rfl | rfl | rfl | rfl | rfl | rfl | rfl | rfl : n = 0 ∨ n = 1 ∨ n = 2 ∨ n = 3 ∨ n = 4 ∨ n = 5 ∨ n = 6 ∨ n = 7 ∨ n = 8 ∨ n = 9 := by omega
  all_goals kernel_rfl

/-- The backend's two blocks. -/
structure BackN (w : World) (B HD J : Nat) (sa : Option Addr) (n cap : Nat) : Prop where
  b1 : w.cell? ⟨B, 1, none⟩ = some (.int .i64 (-1))
  b2 : w.cell? ⟨B, 2, none⟩ = some (.pointer (some ⟨J, 0, none⟩))
  b3 : w.cell? ⟨B, 3, none⟩ = some (.slice sa n cap)
  b4 : w.cell? ⟨B, 4, none⟩ = some (.slice (some ⟨HD, 0, none⟩) n n)
  h : ∀ j, j < n → w.cell? ⟨HD, j, none⟩ = some (.int .i64 0) ∧ w.frozen? ⟨HD, j, none⟩ = false
theorem BackN.kp {w w' : World} {B HD J : Nat} {sa : Option Addr} {n cap : Nat} {C : List Addr} (h : BackN w B HD J sa n cap) (k : Kp [] w w' C) (hC : ∀ x ∈ C, x.block ≠ B ∧ x.block ≠ HD) : BackN w' B HD J sa n cap := by
  have c1 : ∀ i, (⟨B, i, none⟩ : Addr) ∉ C := fun i z => (hC _ z).1 rfl
  have c2 : ∀ i, (⟨HD, i, none⟩ : Addr) ∉ C := fun i z => (hC _ z).2 rfl
  exact ⟨k.cellC _ _ (by simp) (c1 _) h.b1, k.cellC _ _ (by simp) (c1 _) h.b2, k.cellC _ _ (by simp) (c1 _) h.b3, k.cellC _ _ (by simp) (c1 _) h.b4, fun j hj => ⟨k.cellC _ _ (by simp) (c2 _) (h.h j hj).1, (k.frozC _ _ (by simp) (c2 _) (h.h j hj).1).trans (h.h j hj).2⟩⟩

theorem newBackendN_x (J : Nat) (sa : Option Addr) (n cap : Nat) (w0 : World) (h9 : n ≤ 9) :
    CallsX Tryz.prog main (DX Ok) 47 #[.slice sa n cap, .pointer (some ⟨J, 0, none⟩)] w0 fun v w' => ∃ B HD, v = .iface 138 (.pointer (some ⟨B, 0, none⟩)) ∧ Kp [] w0 w' ∧ w0.heap.size ≤ HD ∧ HD < B ∧ B < w'.heap.size ∧ BackN w' B HD J sa n cap := by
  intro Ψ F c cs hc; rw [enter_at _ Tryz.func47 rfl]; simp only [Tryz.ntmps47, List.size_toArray, List.length_cons, List.length_nil, Nat.reduceAdd, Nat.reduceSub, Array.replicate_succ, Array.replicate_zero, List.push_toArray, List.append_toArray, List.nil_append, List.cons_append]; refine F.sr ?_; simp only [rg, Nat.reduceAdd]; refine F.oq rfl rfl rfl (by simp [go_sem]) fun d K h => ?_; go_simp; refine h _ ?_; clear h K d; try walk_nrm
  refine F.esr ?_; simp only [rg, Nat.reduceAdd]; iterate 5 (refine F.oq rfl rfl rfl (by simp [go_sem]) fun d K h => ?_; go_simp; refine h _ ?_; clear h K d; try walk_nrm)
  refine F.op rfl rfl (by decide) (fun d K hK => ?_); go_simp; rw [mkH n h9]; go_simp; rw [alloc_at']; refine hK _ _ ⟨DX.alloc _ _ (fun e he => ?_), ?_⟩
  · have hm := mem_listed he
    simp [go_sem, mkH n h9, mkHe n h9] at hm
  clear hK K d; try walk_nrm
  generalize ew1 : World.alloc w0 _ = w1; generalize hn1 : (World.heap w0).size = n1; have sz1 := sz_al2 ew1 hn1; have hz : ∀ j, j < n → w1.cell? ⟨n1, j, none⟩ = some (.int .i64 0) ∧ w1.frozen? ⟨n1, j, none⟩ = false := fun j hj => ⟨cl_new (i := j) ew1 hn1 (by simpa using zhL_at n j hj), fz_new ew1 hn1 j⟩
  have kp : Kp [] w0 w1 := Kp.alloc ew1; refine F.oq rfl rfl rfl (by simp [go_sem]) fun d K h => ?_; go_simp; refine h _ ?_; clear h K d; try walk_nrm
  refine F.op rfl rfl (by decide) (fun d K hK => ?_); go_simp; rw [alloc_at']; refine hK _ _ ⟨DX.alloc _ _ (fun e he => ?_), ?_⟩
  · have hm := mem_listed he
    simp [go_sem] at hm
  clear hK K d; try walk_nrm
  generalize ew2 : World.alloc w1 _ = w2; generalize hn2 : (World.heap w1).size = n2; have sz2 := sz_al2 ew2 hn2; have hb0 := cl_new (i := 0) ew2 hn2 rfl; have zb0 := fz_new ew2 hn2 0; have hb1 := cl_new (i := 1) ew2 hn2 rfl; have zb1 := fz_new ew2 hn2 1; have hb2 := cl_new (i := 2) ew2 hn2 rfl; have zb2 := fz_new ew2 hn2 2; have hb3 := cl_new (i := 3) ew2 hn2 rfl; have zb3 := fz_new ew2 hn2 3; have hb4 := cl_new (i := 4) ew2 hn2 rfl; have zb4 := fz_new ew2 hn2 4; try simp only [List.getElem_toArray, List.getElem_cons_zero, List.getElem_cons_succ] at hb0 hb1 hb2 hb3 hb4
  replace kp := kp.alN ew2; iterate 2 (refine F.oq rfl rfl rfl (fun _ => by first | (simp [go_sem]; done) | simp [go_sem, Instr.makeInterface, Instr.makeFunc, *]) fun d K hK => ?_; go_simp; refine hK _ ?_; clear hK K d; try walk_nrm)
  refine F.re ?_; refine F.ctl (fun _ => stepG_ret') ?_; refine F.leave rfl rfl Tryz.func47 (resultsC_tmp (by rfl) _) ?_; have k2 : Kp [] w1 w2 := Kp.alloc ew2; exact hc _ _ ⟨n2, n1, rfl, kp, by omega, by omega, lt_of_cell hb0, hb1, hb2, hb3, hb4, fun j hj => ⟨k2.cell _ _ (by simp) (hz j hj).1, (k2.froz _ _ (by simp) (hz j hj).1).trans (hz j hj).2⟩⟩

theorem stackN_x (J : Nat) (sa : Option Addr) (n cap : Nat) (w0 : World) (h9 : n ≤ 9) :
    CallsX Tryz.prog main (DX Ok) 34 #[.slice none 0 0, .slice sa n cap, .pointer (some ⟨J, 0, none⟩)] w0 fun v w' => ∃ B HD, v = .iface 138 (.pointer (some ⟨B, 0, none⟩)) ∧ Kp [] w0 w' ∧ w0.heap.size ≤ HD ∧ HD < B ∧ B < w'.heap.size ∧ BackN w' B HD J sa n cap := by
  intro Ψ F c cs hc; have hw0 : IntKind.i64.wrap 0 = 0 := by decide
  have hw1 : IntKind.i64.wrap (-1) = -1 := by decide
  rw [enter_at _ Tryz.func34 rfl]; simp only [Tryz.ntmps34, List.size_toArray, List.length_cons, List.length_nil, Nat.reduceAdd, Nat.reduceSub, Array.replicate_succ, Array.replicate_zero, List.push_toArray, List.append_toArray, List.nil_append, List.cons_append]; refine F.sr ?_; simp only [rg, Nat.reduceAdd]; refine F.oq rfl rfl rfl (by simp [go_sem]) fun d K h => ?_; go_simp; refine h _ ?_; clear h K d; try walk_nrm
  refine F.esr ?_; simp only [rg, Nat.reduceAdd]; iterate 2 (refine F.oq rfl rfl rfl (by simp [go_sem]) fun d K h => ?_; go_simp; refine h _ ?_; clear h K d; try walk_nrm)
  refine F.enter rfl rfl (by decide) (fun _ => run_call_body rfl Tryz.func47 (by rfl) (by rfl)) (fun _ => events_call_body rfl Tryz.func47 (by rfl) (by rfl) _) ?_; walk_nrm; refine newBackendN_x J sa n cap w0 h9 _ F _ _ (fun v w1 hp => ?_); obtain ⟨B, HD, rfl, k1, h1, h2, h3, h4⟩ := hp; rw [Frame.finish_at]; try walk_nrm
  refine F.oq rfl rfl rfl (by simp [go_sem]) fun d K h => ?_; go_simp; refine h _ ?_; clear h K d; try walk_nrm
  refine F.es ?_; refine F.sr ?_; simp only [rg, Nat.reduceAdd]; iterate 4 (refine F.oq rfl rfl rfl (by simp [go_sem]) fun d K h => ?_; go_simp; refine h _ ?_; clear h K d; try walk_nrm)
  refine F.re ?_; refine F.bl ?_; refine F.ctl (fun _ => stepG_loop) ?_; refine F.sq ?_; refine F.sr ?_; simp only [rg, Nat.reduceAdd]; iterate 2 (refine F.oq rfl rfl rfl (by simp [go_sem]) fun d K h => ?_; go_simp; refine h _ ?_; clear h K d; try walk_nrm)
  refine F.re ?_; refine F.cf rfl ?_; refine F.ctl (fun _ => stepG_exit rfl) ?_; refine F.sr ?_; simp only [rg, Nat.reduceAdd]; iterate 2 (refine F.oq rfl rfl rfl (by simp [go_sem]) fun d K h => ?_; go_simp; refine h _ ?_; clear h K d; try walk_nrm)
  refine F.re ?_; refine F.ctl (fun _ => stepG_ret') ?_; refine F.leave rfl rfl Tryz.func34 (resultsC_tmp (by rfl) _) ?_; exact hc _ _ ⟨B, HD, rfl, k1, h1, h2, h3, h4⟩
end
end Go.Proofs.YtobagnjnbmgidaaGreatDoor
