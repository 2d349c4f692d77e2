/- The law of the checks: from its entry to the end of the run. -/
import Derived.Test.YtobagnjnbmgidaaGreatDoorX53
import Derived.Test.YtobagnjnbmgidaaGreatDoorX35
set_option linter.unusedSimpArgs false
set_option linter.unusedVariables false
namespace Go.Proofs.YtobagnjnbmgidaaGreatDoor
open Go.Conc Go.RowKit
open Go.ConcN (sumTo upd sumTo_upd upd_ne upd_same)

theorem stepG_top {P : Program} {b : Frame} {a : Act} {fn : Func} {todo : List Item} {w : World} {v : Value} (hn : b.kind = .normal) (hi : P.inits.idxOf? b.fn = none) (hd : a.defers = []) (hf : P.funcs[b.fn]? = some fn)
    (hr : (results fn a.tmps).run P w = .ok v w) (he : (results fn a.tmps).events P w #[] = #[]) :
    stepG P true (G { b.at a todo with mode := .returning } []) w = .ended (.done v) w #[] := by
  simp [G, stepG, unwind, doReturn, Frame.at, hn, hd, hf, hr, he, hi, seen, GStep.after]

theorem top_tmp {P : Program} {b : Frame} {a : Act} {fn : Func} {todo : List Item} {w : World} {v : Value} (hn : b.kind = .normal) (hi : P.inits.idxOf? b.fn = none) (hd : a.defers = []) (hf : P.funcs[b.fn]? = some fn) (hr : ResultsC P fn a.tmps v) :
    stepG P true (G { b.at a todo with mode := .returning } []) w = .ended (.done v) w #[] := stepG_top hn hi hd hf (hr w).1 (hr w).2
theorem noInit3 : Tryz.prog.inits.idxOf? 3 = none := by kernel_rfl

theorem LaysAt.old {w w' : World} {sa : Option Addr} {n : Nat} {L : Nat → Nat → Int} (h : LaysAt w sa n L) (k : Old w w') : LaysAt w' sa n L := fun i hi => by
  obtain ⟨b, o, e, hj⟩ := h i hi
  exact ⟨b, o, e, fun j hj' => k.cell _ _ (hj j hj')⟩
theorem TurnsAt.old {w w' : World} {sa : Option Addr} {n : Nat} {T : Nat → Nat → Int} (h : TurnsAt w sa n T) (k : Old w w') : TurnsAt w' sa n T := fun i hi => by
  obtain ⟨b, o, e, hj⟩ := h i hi
  exact ⟨b, o, e, fun j hj' => k.cell _ _ (hj j hj')⟩
theorem ClsAt.old {w w' : World} {sa : Option Addr} {m : Nat} {g : Nat → Cl} (h : ClsAt w sa m g) (k : Old w w') : ClsAt w' sa m g := fun i hi => by
  obtain ⟨b, o, e, h1, h2, h3⟩ := h i hi
  exact ⟨b, o, e, k.cell _ _ h1, k.cell _ _ h2, h3.old k⟩

section
variable {wI : World} {Post : Value → World → Prop}

set_option maxRecDepth 100000 in
set_option maxHeartbeats 8000000 in
theorem checks_at (n capL m cap : Nat) (sL sa : Option Addr) (L : Nat → Nat → Int) (g : Nat → Cl) (i0 : 0 < wI.heap.size) (hg : wI.cell? ⟨0, 0, none⟩ = some (.iface 217 (.agg #[.pointer (some ⟨1, 121, none⟩)])))
    (hL : LaysAt wI sL n L) (hC : ClsAt wI sa m g) (bL : ∀ p : Addr, sL = some p → p.block < wI.heap.size) (bC : ∀ p : Addr, sa = some p → p.block < wI.heap.size) (bT : ∀ i, i < m → 0 < (g i).nt → ∀ p : Addr, (g i).ta = some p → p.block < wI.heap.size)
    (hpost : ∀ w', Old wI w' → wI.heap.size ≤ w'.heap.size → Post (.bool true) w') :
    At0 Tryz.prog Post (Old wI) (ShL []) 1 (G (Frame.enter Tryz.prog 3 #[.slice sL n capL, .slice sa m cap] .normal) []) wI := by
  have F := fut0 (P := Tryz.prog) (Post := Post) (wI := wI) (l := []) 1
  rw [enter_at _ Tryz.func3 rfl]
  simp only [Tryz.ntmps3, List.size_toArray, List.length_cons, List.length_nil, Nat.reduceAdd, Nat.reduceSub, Array.replicate_succ, Array.replicate_zero, List.push_toArray, List.append_toArray, List.nil_append, List.cons_append]
  refine F.sr ?_
  simp only [rg, Nat.reduceAdd]
  refine F.oq rfl rfl rfl (fun _ => by simp [go_sem]) fun d K hK => ?_; go_simp; refine hK _ ?_; clear hK K d; try walk_nrm
  refine F.esr ?_
  simp only [rg, Nat.reduceAdd]
  refine F.enter rfl rfl (by decide) (fun _ => run_call_body rfl Tryz.func15 (by rfl) (by rfl)) (fun _ => events_call_body rfl Tryz.func15 (by rfl) (by rfl) _) ?_
  walk_nrm
  refine heads_at wI _ _ i0 (Nat.le_refl _) hg (fun l w1 hl hz => ?_)
  refine At.assume old_at (fun hOld => ?_)
  clear F
  have F := fut0 (P := Tryz.prog) (Post := Post) (wI := wI) (l := l) 3
  have hfr : ∀ (a : Addr) (wr : Bool), w1.heap.size ≤ a.block → OkS wI.heap.size l [] a wr := fun a wr h => ok_fr (N := w1.heap.size) (fun B hB => (hl B hB).2) hz h (by simp) wr
  have hnl : ∀ b, b < wI.heap.size → b ∉ l := fun b hb z => by have := hl b z; omega
  have hrL : ∀ p : Addr, sL = some p → ∀ a : Addr, a.block = p.block → OkS wI.heap.size l [] a false := fun p hp a ha => ok_rdb (by rw [ha]; exact hnl _ (bL p hp))
  have hrd : RdC (OkS wI.heap.size l []) sa m g := ⟨fun p hp a ha => ok_rdb (by rw [ha]; exact hnl _ (bC p hp)), fun i hi h0 p hp a ha => ok_rdb (by rw [ha]; exact hnl _ (bT i hi h0 p hp))⟩
  rw [Frame.finish_at]
  try walk_nrm
  refine F.oq rfl rfl rfl (fun _ => by simp [go_sem]) fun d K hK => ?_; go_simp; refine hK _ ?_; clear hK K d; try walk_nrm
  refine F.esr ?_
  simp only [rg, Nat.reduceAdd]
  iterate 2 (refine F.oq rfl rfl rfl (fun _ => by simp [go_sem]) fun d K hK => ?_; go_simp; refine hK _ ?_; clear hK K d; try walk_nrm)
  refine F.enter rfl rfl (by decide) (fun _ => run_call_body rfl Tryz.func16 (by rfl) (by rfl)) (fun _ => events_call_body rfl Tryz.func16 (by rfl) (by rfl) _) ?_
  walk_nrm
  refine check_x w1.heap.size n capL m cap sL sa L g w1 (Nat.le_refl _) (hL.old hOld) (hC.old hOld) hrL hrd hfr _ F _ _ (fun v w2 hp => ?_)
  obtain ⟨rfl, k1⟩ := hp
  generalize hc1 : (chk n L m g).1 = c1
  generalize hc2 : (chk n L m g).2 = c2
  rw [Frame.finish_at]
  try walk_nrm
  iterate 5 (refine F.oq rfl rfl rfl (fun _ => by simp [go_sem]) fun d K hK => ?_; go_simp; refine hK _ ?_; clear hK K d; try walk_nrm)
  refine F.esr ?_
  simp only [rg, Nat.reduceAdd]
  iterate 2 (refine F.oq rfl rfl rfl (fun _ => by simp [go_sem]) fun d K hK => ?_; go_simp; refine hK _ ?_; clear hK K d; try walk_nrm)
  refine F.enter rfl rfl (by decide) (fun _ => run_call_body rfl Tryz.func17 (by rfl) (by rfl)) (fun _ => events_call_body rfl Tryz.func17 (by rfl) (by rfl) _) ?_
  walk_nrm
  refine refCheck_x w1.heap.size n capL m cap sL sa L g w2 k1.size ((hL.old hOld).kp k1) ((hC.old hOld).kp k1) hrL hrd hfr _ F _ _ (fun v w3 hp => ?_)
  obtain ⟨rfl, k2⟩ := hp
  rw [hc1, hc2]
  rw [Frame.finish_at]
  try walk_nrm
  iterate 5 (refine F.oq rfl rfl rfl (fun _ => by simp [go_sem]) fun d K hK => ?_; go_simp; refine hK _ ?_; clear hK K d; try walk_nrm)
  refine F.esr ?_
  simp only [rg, Nat.reduceAdd]
  iterate 3 (refine F.oq rfl rfl rfl (fun _ => by simp [go_sem]) fun d K hK => ?_; go_simp; refine hK _ ?_; clear hK K d; try walk_nrm)
  refine F.enter rfl rfl (by decide) (fun _ => run_call_body rfl Tryz.func18 (by rfl) (by rfl)) (fun _ => events_call_body rfl Tryz.func18 (by rfl) (by rfl) _) ?_
  walk_nrm
  refine num_x c1 w3 _ F _ _ (fun v wq hp => ?_)
  obtain ⟨rfl, hq⟩ := hp
  have hq := hq.symm
  subst hq
  rw [Frame.finish_at]
  try walk_nrm
  iterate 9 (refine F.oq rfl rfl rfl (fun _ => by simp [go_sem]) fun d K hK => ?_; go_simp; refine hK _ ?_; clear hK K d; try walk_nrm)
  refine F.re ?_
  refine F.ctl (fun _ => stepG_ret') ?_
  have kk : Kp [] w1 w3 := k1.callN k2 (by simp) (by simp)
  refine At.endsK (v := .bool true) (es := #[]) rfl (fun d => ?_) (by simp) (fun d hK => ?_) old_at
  · exact top_tmp rfl noInit3 rfl Tryz.func3 (resultsC_tmp (t := 4) (by rfl) _)
  · exact hpost _ hK (by show wI.heap.size ≤ w3.heap.size; have := kk.size; omega)
end

end Go.Proofs.YtobagnjnbmgidaaGreatDoor
