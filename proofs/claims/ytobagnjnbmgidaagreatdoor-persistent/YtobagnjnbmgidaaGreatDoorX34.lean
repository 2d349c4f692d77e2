/- Check. -/
import Derived.Test.YtobagnjnbmgidaaGreatDoorX32
import Derived.Test.YtobagnjnbmgidaaGreatDoorX33
set_option linter.unusedSimpArgs false
set_option linter.unusedVariables false
namespace Go.Proofs.YtobagnjnbmgidaaGreatDoor
open Go.Conc Go.RowKit
variable {main : Bool} {Ok : Addr → Bool → Prop}

/-- A client: its start, its turns' slice, the turns. -/
structure Cl where
  st : Int
  ta : Option Addr
  nt : Nat
  tc : Nat
  T : Nat → Nat → Int
def Cl.good (c : Cl) : Bool := goodC c.st c.nt c.T
def badC (g : Nat → Cl) : Nat → Nat → Nat
  | 0, k => k
  | m + 1, k => if (g k).good = false then k else badC g m (k + 1)
def ClsAt (w : World) (sa : Option Addr) (m : Nat) (g : Nat → Cl) : Prop :=
  ∀ i, i < m → ∃ b o : Nat, sa = some ⟨b, o, none⟩ ∧ w.cell? ⟨b, o + i * 2, none⟩ = some (.int .i64 (g i).st) ∧ w.cell? ⟨b, o + i * 2 + 1, none⟩ = some (.slice (g i).ta (g i).nt (g i).tc) ∧ TurnsAt w (g i).ta (g i).nt (g i).T
theorem ClsAt.kp {w w' : World} {sa : Option Addr} {m : Nat} {g : Nat → Cl} (h : ClsAt w sa m g) (k : Kp [] w w') : ClsAt w' sa m g := fun i hi => by
  obtain ⟨b, o, e, h1, h2, h3⟩ := h i hi
  exact ⟨b, o, e, k.cell _ _ (by simp) h1, k.cell _ _ (by simp) h2, h3.kp k⟩
theorem LaysAt.kp {w w' : World} {sa : Option Addr} {n : Nat} {L : Nat → Nat → Int} (h : LaysAt w sa n L) (k : Kp [] w w') : LaysAt w' sa n L := fun i hi => by
  obtain ⟨b, o, e, hj⟩ := h i hi
  exact ⟨b, o, e, fun j hj' => k.cell _ _ (by simp) (hj j hj')⟩
/-- What may be read. -/
def RdC (Ok : Addr → Bool → Prop) (sa : Option Addr) (m : Nat) (g : Nat → Cl) : Prop := (∀ p : Addr, sa = some p → ∀ a : Addr, a.block = p.block → Ok a false) ∧ ∀ i, i < m → 0 < (g i).nt → ∀ p : Addr, (g i).ta = some p → ∀ a : Addr, a.block = p.block → Ok a false
def chk (n : Nat) (L : Nat → Nat → Int) (m : Nat) (g : Nat → Cl) : Int × Int :=
  if 6 < n then (1, 0) else if badAt L n 0 0 < n then (2, badAt L n 0 0) else if 9 < m then (3, 0) else if badC g m 0 < m then (4, badC g m 0) else (0, 0)

set_option maxRecDepth 100000 in
set_option maxHeartbeats 8000000 in
theorem fbc_x (N m cap : Nat) (sa : Option Addr) (g : Nat → Cl) (w0 : World) (hN : N ≤ w0.heap.size) (hm : m ≤ 9) (hC : ClsAt w0 sa m g) (hrd : RdC Ok sa m g) (hfr : ∀ a wr, N ≤ a.block → Ok a wr) :
    CallsX Tryz.prog main (DX Ok) 27 #[.slice sa m cap] w0 fun v w' => v = .int .i64 (badC g m 0) ∧ Kp [] w0 w' := by
  intro Ψ F c cs hc
  rw [enter_at _ Tryz.func27 rfl]
  simp only [Tryz.ntmps27, List.size_toArray, List.length_cons, List.length_nil, Nat.reduceAdd, Nat.reduceSub, Array.replicate_succ, Array.replicate_zero, List.push_toArray, List.append_toArray, List.nil_append, List.cons_append]
  refine F.sr ?_
  simp only [rg, Nat.reduceAdd]
  refine F.oq rfl rfl rfl (fun _ => by simp [go_sem]) fun d K hK => ?_; go_simp; refine hK _ ?_; clear hK K d; try walk_nrm
  refine F.es ?_
  refine F.sr ?_
  simp only [rg, Nat.reduceAdd]
  iterate 3 (refine F.oq rfl rfl rfl (fun _ => by simp [go_sem]) fun d K hK => ?_; go_simp; refine hK _ ?_; clear hK K d; try walk_nrm)
  refine F.re ?_
  refine F.bl ?_
  refine F.ctl (fun _ => stepG_loop) ?_
  refine loopN m (fun k a w => ∃ (y : Int) (x3 x4 x8 x9 x10 x11 x12 x13 x14 x15 x16 x17 x18 : Value), a = ⟨#[.slice sa m cap, undef, .int .i64 0, x3, x4, .slice sa m cap, .int .i64 m, .int .i64 y, x8, x9, x10, x11, x12, x13, x14, x15, x16, x17, x18], []⟩ ∧ y = k ∧ Kp [] w0 w ∧ Hid (badC g m 0 = badC g (m - k) k)) ?_ ?_ ⟨0, _, _, _, _, _, _, _, _, _, _, _, _, _, rfl, rfl, Kp.refl _, rfl⟩
  · intro k a w hk hI hnext
    obtain ⟨y, x3, x4, x8, x9, x10, x11, x12, x13, x14, x15, x16, x17, x18, rfl, rfl, kp, hb⟩ := hI
    obtain ⟨pb, po, rfl, l0, l1, hT⟩ := hC k hk
    have hrb : ∀ a : Addr, a.block = pb → Ok a false := hrd.1 _ rfl
    have hrt := hrd.2 k hk
    clear hrd hC
    have hk' : (k : Int) < (m : Int) := by omega
    have hk0 : (0 : Int) ≤ (k : Int) := by omega
    have hwk : IntKind.i64.wrap ((k : Int) + 1) = (k : Int) + 1 := wr (by omega) (by omega)
    have l0 := kp.cell _ _ (by simp) l0
    have l1 := kp.cell _ _ (by simp) l1
    have hsz := kp.size
    refine F.sr ?_
    simp only [rg, Nat.reduceAdd]
    refine F.oq rfl rfl rfl (fun _ => by simp [go_sem]) fun d K hK => ?_; go_simp; refine hK _ ?_; clear hK K d; try walk_nrm
    refine F.es ?_
    refine F.ct rfl ?_
    refine F.sk ?_
    refine F.sq ?_
    refine F.bl ?_
    refine F.sr ?_
    simp only [rg, Nat.reduceAdd]
    iterate 2 (refine F.oq rfl rfl rfl (fun _ => by first | (simp [go_sem]; done) | simp [go_sem, Instr.makeInterface, Instr.makeFunc, *]) fun d K hK => ?_; go_simp; refine hK _ ?_; clear hK K d; try walk_nrm)
    refine F.ol rfl rfl rfl fun d K hK => ?_
    go_simp
    refine hK _ (fun e hm => ?_) ?_
    · simp [go_sem, *] at hm
      rcases hm with rfl | rfl <;> exact evr (w := w) (by assumption) (by first | assumption | exact hrb _ rfl | (apply hfr <;> dsimp only <;> omega))
    clear hK K d
    try walk_nrm
    clear l0 l1
    refine F.op rfl rfl (by decide) (fun d K hK => ?_)
    go_simp
    rw [alloc_at']
    refine hK _ _ ⟨DX.alloc _ _ (fun e he => ?_), ?_⟩
    · have hm := mem_listed he
      simp [go_sem] at hm
    clear hK K d
    try walk_nrm
    generalize ew1 : World.alloc w _ = w1
    generalize hn1 : (World.heap w).size = n1
    have sz1 := sz_al ew1 hn1
    have hf0 := cl_new (i := 0) ew1 hn1 rfl
    have zf0 := fz_new ew1 hn1 0
    have hf1 := cl_new (i := 1) ew1 hn1 rfl
    have zf1 := fz_new ew1 hn1 1
    try simp only [List.getElem_toArray, List.getElem_cons_zero, List.getElem_cons_succ] at hf0 hf1
    replace kp := kp.alN ew1
    refine F.oq rfl rfl rfl (fun _ => by simp [go_sem]) fun d K hK => ?_; go_simp; refine hK _ ?_; clear hK K d; try walk_nrm
    refine F.op rfl rfl (by decide) (fun d K hK => ?_)
    go_simp
    repeat rw [setCell_at']
    refine hK _ _ ⟨DX.set2 _ (by (first | assumption | exact hrb _ rfl | (apply hfr <;> dsimp only <;> omega))) (by (first | assumption | exact hrb _ rfl | (apply hfr <;> dsimp only <;> omega))) (fun e he => ?_), ?_⟩
    · have hm := mem_listed he
      simp [go_sem, storedEv, evst_slice, evst_ptr, evst_iface, evst_nil, evst_bool, *] at hm
      rcases hm with rfl | rfl <;> exact .inl ⟨_, rfl, rfl, by (first | assumption | exact hrb _ rfl | (apply hfr <;> dsimp only <;> omega)), by simp only [size_at, size_set]; first | omega | exact lt_of_cell (by assumption)⟩
    clear hK K d
    try walk_nrm
    generalize ew2 : World.setCell w1 _ _ = w2
    have sz2 := sz_st ew2
    replace zf0 := fz_st zf0 ew2
    replace zf1 := fz_st zf1 ew2
    replace hf0 := cl_st' hf0 ew2
    replace hf1 := cl_st hf1 ew2 (by intro e; simp at e <;> omega)
    replace kp := kp.stN ew2 (by first | (left; simp; done) | (right; left; simp; done) | (right; right; dsimp only; omega))
    generalize ew3 : World.setCell w2 _ _ = w3
    have sz3 := sz_st ew3
    replace zf0 := fz_st zf0 ew3
    replace zf1 := fz_st zf1 ew3
    replace hf0 := cl_st hf0 ew3 (by intro e; simp at e <;> omega)
    replace hf1 := cl_st' hf1 ew3
    replace kp := kp.stN ew3 (by first | (left; simp; done) | (right; left; simp; done) | (right; right; dsimp only; omega))
    refine F.esr ?_
    simp only [rg, Nat.reduceAdd]
    refine F.ol rfl rfl rfl fun d K hK => ?_
    go_simp
    refine hK _ (fun e hm => ?_) ?_
    · simp [go_sem, *] at hm
      rcases hm with rfl | rfl <;> exact evr (w := w3) (by assumption) (by first | assumption | exact hrb _ rfl | (apply hfr <;> dsimp only <;> omega))
    clear hK K d
    try walk_nrm
    refine F.enter rfl rfl (by decide) (fun _ => run_call_body rfl Tryz.func41 (by rfl) (by rfl)) (fun _ => events_call_body rfl Tryz.func41 (by rfl) (by rfl) _) ?_
    walk_nrm
    refine goodClient_x N (g k).nt (g k).tc (g k).st (g k).ta (g k).T w3 (by omega) (hT.kp kp) hrt hfr _ F _ _ (fun v wc hp => ?_)
    obtain ⟨rfl, kq⟩ := hp
    replace kp := kp.callN kq (by simp) (by simp)
    rw [Frame.finish_at]
    cases hg : goodC (g k).st (g k).nt (g k).T with
    | false =>
      try walk_nrm
      refine F.oq rfl rfl rfl (fun _ => by simp [go_sem]) fun d K hK => ?_; go_simp; refine hK _ ?_; clear hK K d; try walk_nrm
      refine F.re ?_
      refine F.ct rfl ?_
      refine F.sr ?_
      simp only [rg, Nat.reduceAdd]
      iterate 2 (refine F.oq rfl rfl rfl (fun _ => by simp [go_sem]) fun d K hK => ?_; go_simp; refine hK _ ?_; clear hK K d; try walk_nrm)
      refine F.re ?_
      refine F.ctl (fun _ => stepG_ret') ?_
      refine F.leave rfl rfl Tryz.func27 (resultsC_tmp (by rfl) _) ?_
      refine hc _ _ ⟨?_, kp⟩
      have hnk : m - k = (m - (k + 1)) + 1 := by omega
      have hb2 : badC g m 0 = badC g (m - k) k := hb
      rw [hb2, hnk]; simp [badC, Cl.good, hg]
    | true =>
      try walk_nrm
      refine F.oq rfl rfl rfl (fun _ => by simp [go_sem]) fun d K hK => ?_; go_simp; refine hK _ ?_; clear hK K d; try walk_nrm
      refine F.re ?_
      refine F.cf rfl ?_
      refine F.sk ?_
      refine F.ib ?_
      refine F.rr ?_
      simp only [rg, Nat.reduceAdd]
      iterate 2 (refine F.oq rfl rfl rfl (fun _ => by simp [go_sem]) fun d K hK => ?_; go_simp; refine hK _ ?_; clear hK K d; try walk_nrm)
      refine F.re ?_
      refine F.ctl (fun _ => stepG_inLoop) ?_
      refine hnext _ _ ⟨_, _, _, _, _, _, _, _, _, _, _, _, _, _, rfl, by omega, kp, ?_⟩
      show badC g m 0 = _
      have hnk : m - k = (m - (k + 1)) + 1 := by omega
      have hb2 : badC g m 0 = badC g (m - k) k := hb
      rw [hb2, hnk]; simp [badC, Cl.good, hg]
  · intro a w hI
    obtain ⟨y, x3, x4, x8, x9, x10, x11, x12, x13, x14, x15, x16, x17, x18, rfl, rfl, kp, hb⟩ := hI
    refine F.sr ?_
    simp only [rg, Nat.reduceAdd]
    refine F.oq rfl rfl rfl (fun _ => by simp [go_sem]) fun d K hK => ?_; go_simp; refine hK _ ?_; clear hK K d; try walk_nrm
    refine F.es ?_
    refine F.cf rfl ?_
    refine F.ctl (fun _ => stepG_exit rfl) ?_
    refine F.sr ?_
    simp only [rg, Nat.reduceAdd]
    iterate 3 (refine F.oq rfl rfl rfl (fun _ => by simp [go_sem]) fun d K hK => ?_; go_simp; refine hK _ ?_; clear hK K d; try walk_nrm)
    refine F.re ?_
    refine F.ctl (fun _ => stepG_ret') ?_
    refine F.leave rfl rfl Tryz.func27 (resultsC_tmp (by rfl) _) ?_
    have hb2 : badC g m 0 = badC g (m - m) m := hb
    rw [Nat.sub_self] at hb2
    exact hc _ _ ⟨by rw [hb2]; rfl, kp⟩

theorem badAt_le (L : Nat → Nat → Int) : ∀ (m k : Nat) (r : Int), badAt L m k r ≤ k + m
  | 0, k, r => by simp [badAt]
  | m + 1, k, r => by
    rw [badAt]
    have := badAt_le L m (k + 1) (if L k 0 = 1 then r + 1 else r)
    by_cases h : (2 < (if L k 0 = 1 then r + 1 else r) ∨ goodL (L k 0) (L k 1) (L k 2) (L k 3) (L k 4) (L k 5) = false)
    · rw [if_pos h]; omega
    · rw [if_neg h]; omega
theorem badC_le (g : Nat → Cl) : ∀ (m k : Nat), badC g m k ≤ k + m
  | 0, k => by simp [badC]
  | m + 1, k => by
    rw [badC]; split
    · omega
    · have := badC_le g m (k + 1); omega

set_option maxRecDepth 100000 in
set_option maxHeartbeats 8000000 in
theorem check_x (N n capL m cap : Nat) (sL sa : Option Addr) (L : Nat → Nat → Int) (g : Nat → Cl) (w0 : World) (hN : N ≤ w0.heap.size) (hL : LaysAt w0 sL n L) (hC : ClsAt w0 sa m g) (hrL : ∀ p : Addr, sL = some p → ∀ a : Addr, a.block = p.block → Ok a false) (hrd : RdC Ok sa m g) (hfr : ∀ a wr, N ≤ a.block → Ok a wr) :
    CallsX Tryz.prog main (DX Ok) 16 #[.slice sL n capL, .slice sa m cap] w0 fun v w' => v = .tuple #[.int .i64 (chk n L m g).1, .int .i64 (chk n L m g).2] ∧ Kp [] w0 w' := by
  intro Ψ F c cs hc
  rw [enter_at _ Tryz.func16 rfl]
  simp only [Tryz.ntmps16, List.size_toArray, List.length_cons, List.length_nil, Nat.reduceAdd, Nat.reduceSub, Array.replicate_succ, Array.replicate_zero, List.push_toArray, List.append_toArray, List.nil_append, List.cons_append]
  by_cases h6 : (6 : Int) < (n : Int)
  · refine F.ctl (fun _ => stepG_seq) ?_
    refine F.rr ?_
    simp only [rg, Nat.reduceAdd]
    iterate 2 (refine F.oq rfl rfl rfl (fun _ => by simp [go_sem]) fun d K hK => ?_; go_simp; refine hK _ ?_; clear hK K d; try walk_nrm)
    refine F.es ?_
    refine F.sr ?_
    simp only [rg, Nat.reduceAdd]
    iterate 3 (refine F.oq rfl rfl rfl (fun _ => by simp [go_sem]) fun d K hK => ?_; go_simp; refine hK _ ?_; clear hK K d; try walk_nrm)
    refine F.re ?_
    refine F.ct rfl ?_
    refine F.sr ?_
    simp only [rg, Nat.reduceAdd]
    iterate 2 (refine F.oq rfl rfl rfl (fun _ => by simp [go_sem]) fun d K hK => ?_; go_simp; refine hK _ ?_; clear hK K d; try walk_nrm)
    refine F.re ?_
    refine F.ctl (fun _ => stepG_ret') ?_
    refine F.leave rfl rfl Tryz.func16 (resultsC_tmp2 (by rfl) _) ?_
    exact hc _ _ ⟨by simp [chk, show 6 < n by omega], Kp.refl _⟩
  refine F.sr ?_
  simp only [rg, Nat.reduceAdd]
  iterate 2 (refine F.oq rfl rfl rfl (fun _ => by simp [go_sem]) fun d K hK => ?_; go_simp; refine hK _ ?_; clear hK K d; try walk_nrm)
  refine F.es ?_
  refine F.sr ?_
  simp only [rg, Nat.reduceAdd]
  iterate 3 (refine F.oq rfl rfl rfl (fun _ => by simp [go_sem]) fun d K hK => ?_; go_simp; refine hK _ ?_; clear hK K d; try walk_nrm)
  refine F.re ?_
  refine F.cf rfl ?_
  refine F.sk ?_
  refine F.sq ?_
  refine F.sr ?_
  simp only [rg, Nat.reduceAdd]
  refine F.oq rfl rfl rfl (fun _ => by simp [go_sem]) fun d K hK => ?_; go_simp; refine hK _ ?_; clear hK K d; try walk_nrm
  refine F.enter rfl rfl (by decide) (fun _ => run_call_body rfl Tryz.func26 (by rfl) (by rfl)) (fun _ => events_call_body rfl Tryz.func26 (by rfl) (by rfl) _) ?_
  walk_nrm
  refine fbl_x N n capL sL L w0 hN (by omega) hL hrL hfr _ F _ _ (fun v w1 hp => ?_)
  obtain ⟨rfl, k1⟩ := hp
  rw [Frame.finish_at]
  have hle := badAt_le L n 0 0
  generalize hba : badAt L n 0 0 = ba at hle ⊢
  try walk_nrm
  by_cases hl : (ba : Int) < (n : Int)
  · refine F.opq rfl rfl (by decide) (fun _ => (by first | (simp [go_sem]; done) | (simp [go_sem, Instr.makeInterface, Instr.makeFunc]; done) | (simp [go_sem, *]; done))) (fun d K hK => ?_)
    go_simp
    refine hK _ ?_
    clear hK K d
    try walk_nrm
    refine F.esr ?_
    simp only [rg, Nat.reduceAdd]
    iterate 4 (refine F.oq rfl rfl rfl (fun _ => by simp [go_sem]) fun d K hK => ?_; go_simp; refine hK _ ?_; clear hK K d; try walk_nrm)
    refine F.re ?_
    refine F.ct rfl ?_
    refine F.sr ?_
    simp only [rg, Nat.reduceAdd]
    iterate 3 (refine F.oq rfl rfl rfl (fun _ => by simp [go_sem]) fun d K hK => ?_; go_simp; refine hK _ ?_; clear hK K d; try walk_nrm)
    refine F.re ?_
    refine F.ctl (fun _ => stepG_ret') ?_
    refine F.leave rfl rfl Tryz.func16 (resultsC_tmp2 (by rfl) _) ?_
    exact hc _ _ ⟨by simp [chk, hba, show ¬ 6 < n by omega, show ba < n by omega], k1⟩
  refine F.oq rfl rfl rfl (fun _ => by simp [go_sem]) fun d K hK => ?_; go_simp; refine hK _ ?_; clear hK K d; try walk_nrm
  refine F.esr ?_
  simp only [rg, Nat.reduceAdd]
  iterate 4 (refine F.oq rfl rfl rfl (fun _ => by simp [go_sem]) fun d K hK => ?_; go_simp; refine hK _ ?_; clear hK K d; try walk_nrm)
  refine F.re ?_
  refine F.cf rfl ?_
  refine F.sk ?_
  by_cases h9 : (9 : Int) < (m : Int)
  · refine F.ctl (fun _ => stepG_seq) ?_
    refine F.sr ?_
    simp only [rg, Nat.reduceAdd]
    iterate 3 (refine F.oq rfl rfl rfl (fun _ => by simp [go_sem]) fun d K hK => ?_; go_simp; refine hK _ ?_; clear hK K d; try walk_nrm)
    refine F.re ?_
    refine F.ct rfl ?_
    refine F.sr ?_
    simp only [rg, Nat.reduceAdd]
    iterate 2 (refine F.oq rfl rfl rfl (fun _ => by simp [go_sem]) fun d K hK => ?_; go_simp; refine hK _ ?_; clear hK K d; try walk_nrm)
    refine F.re ?_
    refine F.ctl (fun _ => stepG_ret') ?_
    refine F.leave rfl rfl Tryz.func16 (resultsC_tmp2 (by rfl) _) ?_
    exact hc _ _ ⟨by simp [chk, hba, show ¬ 6 < n by omega, show ¬ ba < n by omega, show 9 < m by omega], k1⟩
  refine F.sq ?_
  refine F.sr ?_
  simp only [rg, Nat.reduceAdd]
  iterate 3 (refine F.oq rfl rfl rfl (fun _ => by simp [go_sem]) fun d K hK => ?_; go_simp; refine hK _ ?_; clear hK K d; try walk_nrm)
  refine F.re ?_
  refine F.cf rfl ?_
  refine F.sk ?_
  refine F.sq ?_
  refine F.sr ?_
  simp only [rg, Nat.reduceAdd]
  refine F.oq rfl rfl rfl (fun _ => by simp [go_sem]) fun d K hK => ?_; go_simp; refine hK _ ?_; clear hK K d; try walk_nrm
  have hs1 := k1.size
  refine F.enter rfl rfl (by decide) (fun _ => run_call_body rfl Tryz.func27 (by rfl) (by rfl)) (fun _ => events_call_body rfl Tryz.func27 (by rfl) (by rfl) _) ?_
  walk_nrm
  refine fbc_x N m cap sa g w1 (by omega) (by omega) (hC.kp k1) hrd hfr _ F _ _ (fun v w2 hp => ?_)
  obtain ⟨rfl, k2⟩ := hp
  rw [Frame.finish_at]
  have hle2 := badC_le g m 0
  generalize hbc : badC g m 0 = bc at hle2 ⊢
  try walk_nrm
  have k12 : Kp [] w0 w2 := k1.callN k2 (by simp) (by simp)
  by_cases hl2 : (bc : Int) < (m : Int)
  · refine F.opq rfl rfl (by decide) (fun _ => (by first | (simp [go_sem]; done) | (simp [go_sem, Instr.makeInterface, Instr.makeFunc]; done) | (simp [go_sem, *]; done))) (fun d K hK => ?_)
    go_simp
    refine hK _ ?_
    clear hK K d
    try walk_nrm
    refine F.esr ?_
    simp only [rg, Nat.reduceAdd]
    iterate 4 (refine F.oq rfl rfl rfl (fun _ => by simp [go_sem]) fun d K hK => ?_; go_simp; refine hK _ ?_; clear hK K d; try walk_nrm)
    refine F.re ?_
    refine F.ct rfl ?_
    refine F.sr ?_
    simp only [rg, Nat.reduceAdd]
    iterate 3 (refine F.oq rfl rfl rfl (fun _ => by simp [go_sem]) fun d K hK => ?_; go_simp; refine hK _ ?_; clear hK K d; try walk_nrm)
    refine F.re ?_
    refine F.ctl (fun _ => stepG_ret') ?_
    refine F.leave rfl rfl Tryz.func16 (resultsC_tmp2 (by rfl) _) ?_
    exact hc _ _ ⟨by simp [chk, hba, hbc, show ¬ 6 < n by omega, show ¬ ba < n by omega, show ¬ 9 < m by omega, show bc < m by omega], k12⟩
  refine F.oq rfl rfl rfl (fun _ => by simp [go_sem]) fun d K hK => ?_; go_simp; refine hK _ ?_; clear hK K d; try walk_nrm
  refine F.esr ?_
  simp only [rg, Nat.reduceAdd]
  iterate 4 (refine F.oq rfl rfl rfl (fun _ => by simp [go_sem]) fun d K hK => ?_; go_simp; refine hK _ ?_; clear hK K d; try walk_nrm)
  refine F.re ?_
  refine F.cf rfl ?_
  refine F.sk ?_
  refine F.sr ?_
  simp only [rg, Nat.reduceAdd]
  iterate 2 (refine F.oq rfl rfl rfl (fun _ => by simp [go_sem]) fun d K hK => ?_; go_simp; refine hK _ ?_; clear hK K d; try walk_nrm)
  refine F.re ?_
  refine F.ctl (fun _ => stepG_ret') ?_
  refine F.leave rfl rfl Tryz.func16 (resultsC_tmp2 (by rfl) _) ?_
  exact hc _ _ ⟨by simp [chk, hba, hbc, show ¬ 6 < n by omega, show ¬ ba < n by omega, show ¬ 9 < m by omega, show ¬ bc < m by omega], k12⟩

end Go.Proofs.YtobagnjnbmgidaaGreatDoor
