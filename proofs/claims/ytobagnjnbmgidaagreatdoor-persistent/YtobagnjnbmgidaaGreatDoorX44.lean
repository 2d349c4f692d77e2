/- Goroutine 0 counts the group up. -/
import Derived.Test.YtobagnjnbmgidaaGreatDoorX41
set_option linter.unusedSimpArgs false
set_option linter.unusedVariables false
namespace Go.Proofs.YtobagnjnbmgidaaGreatDoor
open Go.Conc Go.RowKit

theorem un182 : ∃ t, Tryz.prog.underlying 182 = some (.pointer t) ∧ (Tryz.prog.info? t).map (fun i => decide (i.size = 0)) = some false := ⟨match Tryz.prog.underlying 182 with | some (.pointer t) => t | _ => 0, by kernel_rfl, by kernel_rfl⟩
theorem un174 : ∃ t, Tryz.prog.underlying 174 = some (.pointer t) ∧ (Tryz.prog.info? t).map (fun i => decide (i.size = 0)) = some false := ⟨match Tryz.prog.underlying 174 with | some (.pointer t) => t | _ => 0, by kernel_rfl, by kernel_rfl⟩
theorem un178 : Tryz.prog.underlying 178 = some .unsafePointer := by kernel_rfl
theorem info_ne {t : TypeId} (h : (Tryz.prog.info? t).map (fun i => decide (i.size = 0)) = some false) : ∃ i, Tryz.prog.info? t = some i ∧ i.size ≠ 0 := by
  cases hi : Tryz.prog.info? t with
  | none => rw [hi] at h; cases h
  | some i => rw [hi] at h; exact ⟨i, rfl, by simpa using h⟩
theorem cv_run {s t : TypeId} {p : Addr} {v : Value} {w : World} (h1 : Tryz.prog.underlying s = some (.pointer t)) (h2 : (Tryz.prog.info? t).map (fun i => decide (i.size = 0)) = some false) (hc : w.cell? p = some v) : (convert s 178 (.pointer (some p))).run Tryz.prog w = .ok (.pointer (some p)) w := by
  obtain ⟨e, n, hs, hl, _⟩ := World.shape?_of_cell? hc
  obtain ⟨i, hi, hz⟩ := info_ne h2
  have := Nat.not_le.2 hl
  simp [convert, Conv.unsafePointer, Conv.seenAt, viewAt, cellsIn, sizeOf, typeInfo, run_underlying h1, run_underlying un178, hi, hz, hs, this, Result.andThen]
theorem cv_ev {s t : TypeId} {p : Addr} {v : Value} {w : World} (h1 : Tryz.prog.underlying s = some (.pointer t)) (h2 : (Tryz.prog.info? t).map (fun i => decide (i.size = 0)) = some false) (hc : w.cell? p = some v) : (convert s 178 (.pointer (some p))).events Tryz.prog w #[] = #[] := by
  obtain ⟨e, n, hs, hl, _⟩ := World.shape?_of_cell? hc
  obtain ⟨i, hi, hz⟩ := info_ne h2
  have := Nat.not_le.2 hl
  simp [convert, Conv.unsafePointer, Conv.seenAt, viewAt, cellsIn, sizeOf, typeInfo, run_underlying h1, run_underlying un178, hi, hz, hs, this, Result.evThen]
theorem cv182 {p : Addr} {v : Value} {w : World} (hc : w.cell? p = some v) : (convert 182 178 (.pointer (some p))).run Tryz.prog w = .ok (.pointer (some p)) w := by
  obtain ⟨t, h1, h2⟩ := un182; exact cv_run h1 h2 hc
theorem cv182e {p : Addr} {v : Value} {w : World} (hc : w.cell? p = some v) : (convert 182 178 (.pointer (some p))).events Tryz.prog w #[] = #[] := by
  obtain ⟨t, h1, h2⟩ := un182; exact cv_ev h1 h2 hc
theorem cv174 {p : Addr} {v : Value} {w : World} (hc : w.cell? p = some v) : (convert 174 178 (.pointer (some p))).run Tryz.prog w = .ok (.pointer (some p)) w := by
  obtain ⟨t, h1, h2⟩ := un174; exact cv_run h1 h2 hc
theorem cv174e {p : Addr} {v : Value} {w : World} (hc : w.cell? p = some v) : (convert 174 178 (.pointer (some p))).events Tryz.prog w #[] = #[] := by
  obtain ⟨t, h1, h2⟩ := un174; exact cv_ev h1 h2 hc
theorem nb1 : bits .and .u64 4294967296 2147483648 = 0 := by decide
theorem nb2 : bits .and .u64 4294967296 2147483647 = 0 := by decide
theorem nb3 : bits .and .u64 0 2147483648 = 0 := by decide
theorem nb4 : bits .and .u64 0 2147483647 = 0 := by decide
theorem nb5 : bits .and .u64 1 2147483648 = 0 := by decide
theorem nb6 : bits .and .u64 1 2147483647 = 1 := by decide
theorem nb7 : bits .and .u64 4294967297 2147483648 = 0 := by decide
theorem nb8 : bits .and .u64 4294967297 2147483647 = 1 := by decide

set_option maxRecDepth 100000 in
set_option maxHeartbeats 8000000 in
theorem add1_at {wI : World} {l : List Nat} {n : Nat} {Post : Value → World → Prop} (A : Nat) (hA : A ∈ l) (hI : wI.heap.size ≤ A) (c : Frame) (cs : List Frame) (w : World) (hst : Num .u64 ⟨A, 5, none⟩ w 0) (hse : w.cell? ⟨A, 6, none⟩ = some (.int .u32 0))
    (hn : AtD Tryz.prog Post (Old wI) (ShL l) n 0 (G (c.finish (.tuple #[])) cs) (w.setCell ⟨A, 5, none⟩ (.int .u64 4294967296))) :
    AtD Tryz.prog Post (Old wI) (ShL l) n 0 (G (Frame.enter Tryz.prog 88 #[.pointer (some ⟨A, 5, none⟩), .int .i64 1] .normal) (c :: cs)) w := by
  have F := futD (P := Tryz.prog) (Post := Post) (wI := wI) (l := l) n 0
  have hAw : A < w.heap.size := lt_of_cell hst.1
  have w1 : IntKind.u64.wrap 1 = 1 := by decide
  have w2 : IntKind.u64.wrap 4294967296 = 4294967296 := by decide
  have w3 : IntKind.i32.wrap 1 = 1 := by decide
  have w4 : IntKind.u32.wrap 0 = 0 := by decide
  have n1 := nb1
  have n2 := nb2
  rw [enter_at _ Tryz.func88 rfl]
  simp only [Tryz.ntmps88, List.size_toArray, List.length_cons, List.length_nil, Nat.reduceAdd, Nat.reduceSub, Array.replicate_succ, Array.replicate_zero, List.push_toArray, List.append_toArray, List.nil_append, List.cons_append]
  refine F.sq ?_
  refine F.ct rfl ?_
  refine F.sq ?_
  refine F.sr ?_
  simp only [rg, Nat.reduceAdd]
  iterate 2 (refine F.oq rfl rfl rfl (fun _ => by simp [go_sem]) fun d K hK => ?_; go_simp; refine hK _ ?_; clear hK K d; try walk_nrm)
  refine F.re ?_
  refine F.cf rfl ?_
  refine F.sk ?_
  refine F.sr ?_
  simp only [rg, Nat.reduceAdd]
  refine AtD.mark old_at rfl (fun d => stepG_mark0 .disable (by simp) rfl rfl (by decide) rfl Tryz.func66 (by rfl) (by kernel_rfl) (by kernel_rfl) (by kernel_rfl)) id rfl (ev_one (evR_mark rfl trivial)) ?_
  clear F
  have F := futD (P := Tryz.prog) (Post := Post) (wI := wI) (l := l) n 1
  show AtD _ _ _ _ _ 1 _ _
  walk_nrm
  refine F.er ?_
  simp only [rg, Nat.reduceAdd]
  refine F.ctl (fun _ => stepG_defer rfl rfl (by decide) rfl) ?_
  walk_nrm
  refine F.esr ?_
  simp only [rg, Nat.reduceAdd]
  refine F.oq rfl rfl rfl (fun _ => by simp [go_sem]) fun d K hK => ?_; go_simp; refine hK _ ?_; clear hK K d; try walk_nrm
  refine F.es ?_
  refine F.sr ?_
  simp only [rg, Nat.reduceAdd]
  refine F.ctl (fun _ => stepG_entry_pure (.bool false) rfl rfl (by decide) rfl Tryz.func74 (by rfl) (by kernel_rfl) (by kernel_rfl) (by kernel_rfl)) ?_
  walk_nrm
  refine F.re ?_
  refine F.cf rfl ?_
  refine F.sk ?_
  refine F.sr ?_
  simp only [rg, Nat.reduceAdd]
  iterate 6 (refine F.oq rfl rfl rfl (fun _ => by simp [go_sem]) fun d K hK => ?_; go_simp; refine hK _ ?_; clear hK K d; try walk_nrm)
  refine F.enter rfl rfl (by decide) (fun _ => run_call_body rfl Tryz.func108 (by rfl) (by rfl)) (fun _ => events_call_body rfl Tryz.func108 (by rfl) (by rfl) _) ?_
  walk_nrm
  rw [enter_at _ Tryz.func108 rfl]
  simp only [Tryz.ntmps108, List.size_toArray, List.length_cons, List.length_nil, Nat.reduceAdd, Nat.reduceSub, Array.replicate_succ, Array.replicate_zero, List.push_toArray, List.append_toArray, List.nil_append, List.cons_append]
  refine F.sr ?_
  simp only [rg, Nat.reduceAdd]
  refine F.oq rfl rfl rfl (fun _ => by simp [go_sem]) fun d K hK => ?_; go_simp; refine hK _ ?_; clear hK K d; try walk_nrm
  refine F.esr ?_
  simp only [rg, Nat.reduceAdd]
  iterate 4 (refine F.oq rfl rfl rfl (fun _ => by simp [go_sem]) fun d K hK => ?_; go_simp; refine hK _ ?_; clear hK K d; try walk_nrm)
  apply AtD.mark (w' := w.setCell ⟨A, 5, none⟩ (.int .u64 4294967296)) (es := #[⟨.cell ⟨A, 5, none⟩, false, true⟩, ⟨.cell ⟨A, 5, none⟩, true, true⟩]) old_at rfl
  · intro d
    rw [stepG_add_atomic (w := w.at d) (ad := ⟨A, 5, none⟩) (v := 0) (d := 4294967296) rfl rfl (by decide) rfl Tryz.func122 (by rfl) (by kernel_rfl) (by kernel_rfl) .u64 (by kernel_rfl) rfl rfl hst.1 hst.2]
    rfl
  · exact old_set hI
  · simp [World.setCell]
  · exact ev_two (evR_atomic (a := ⟨A, 5, none⟩) (fun z => z) hAw) (evR_atomic (a := ⟨A, 5, none⟩) (fun z => z) hAw)
  clear F
  have F := futD (P := Tryz.prog) (Post := Post) (wI := wI) (l := l) n 1
  have hAw2 : A < (w.setCell ⟨A, 5, none⟩ (.int .u64 4294967296)).heap.size := by rw [size_set]; exact hAw
  have hse2 : (w.setCell ⟨A, 5, none⟩ (.int .u64 4294967296)).cell? ⟨A, 6, none⟩ = some (.int .u32 0) := (World.cell?_setCell_other _ _ _ _ (by simp)).trans hse
  generalize w.setCell ⟨A, 5, none⟩ (.int .u64 4294967296) = w2 at hn hAw2 hse2 ⊢
  have cv1 : ∀ d, (convert 182 178 (.pointer (some ⟨A, 6, none⟩))).run Tryz.prog (w2.at d) = .ok (.pointer (some ⟨A, 6, none⟩)) (w2.at d) := fun d => cv182 (w := w2.at d) hse2
  have cv2 : ∀ d, (convert 182 178 (.pointer (some ⟨A, 6, none⟩))).events Tryz.prog (w2.at d) #[] = #[] := fun d => cv182e (w := w2.at d) hse2
  clear hst hAw
  show AtD _ _ _ _ _ 1 _ _
  walk_nrm
  have e1 : IntKind.u64.wrap (0 + 4294967296) = 4294967296 := by decide
  simp only [e1]
  refine F.oq rfl rfl rfl (fun _ => by simp [go_sem]) fun d K hK => ?_; go_simp; refine hK _ ?_; clear hK K d; try walk_nrm
  refine F.re ?_
  refine F.ctl (fun _ => stepG_ret') ?_
  refine F.leave rfl rfl Tryz.func108 (resultsC_tmp (by rfl) _) ?_
  rw [Frame.finish_at]
  try walk_nrm
  refine F.oq rfl rfl rfl (fun _ => by simp [go_sem]) fun d K hK => ?_; go_simp; refine hK _ ?_; clear hK K d; try walk_nrm
  refine F.es ?_
  refine F.sr ?_
  simp only [rg, Nat.reduceAdd]
  iterate 4 (refine F.oq rfl rfl rfl (fun _ => by simp [go_sem]) fun d K hK => ?_; go_simp; refine hK _ ?_; clear hK K d; try walk_nrm)
  refine F.unwanted rfl rfl ?_
  try walk_nrm
  refine F.unwanted rfl rfl ?_
  try walk_nrm
  refine F.oq rfl rfl rfl (fun _ => by simp [go_sem]) fun d K hK => ?_; go_simp; refine hK _ ?_; clear hK K d; try walk_nrm
  refine F.re ?_
  refine F.cf rfl ?_
  refine F.sk ?_
  refine F.sr ?_
  simp only [rg, Nat.reduceAdd]
  iterate 4 (refine F.oq rfl rfl rfl (fun _ => by simp [go_sem]) fun d K hK => ?_; go_simp; refine hK _ ?_; clear hK K d; try walk_nrm)
  refine F.esr ?_
  simp only [rg, Nat.reduceAdd]
  iterate 4 (refine F.oq rfl rfl rfl (fun _ => by simp [go_sem]) fun d K hK => ?_; go_simp; refine hK _ ?_; clear hK K d; try walk_nrm)
  refine F.es ?_
  refine F.sr ?_
  simp only [rg, Nat.reduceAdd]
  iterate 10 (refine F.oq rfl rfl rfl (fun _ => by simp [go_sem]) fun d K hK => ?_; go_simp; refine hK _ ?_; clear hK K d; try walk_nrm)
  refine F.re ?_
  refine F.ct rfl ?_
  refine F.rr ?_
  simp only [rg, Nat.reduceAdd]
  iterate 4 (refine F.oq rfl rfl rfl (fun _ => by first | (simp [go_sem]; done) | simp [go_sem, Instr.makeInterface, Instr.makeFunc, *]) fun d K hK => ?_; go_simp; refine hK _ ?_; clear hK K d; try walk_nrm)
  refine AtD.mark old_at rfl (fun d => stepG_markAt .read (by simp) rfl rfl (by decide) rfl Tryz.func109 (by rfl) (by kernel_rfl) (by kernel_rfl) (by kernel_rfl) (ad := ⟨A, 6, none⟩) (by simp [Act.eval])) id rfl (ev_one ?_) ?_
  · refine ⟨fun x hx => ?_, hAw2⟩
    simp [MemAct.ofEvent, MemAct.touch?] at hx
    subst hx
    exact ⟨fun z => z.elim, fun _ => ⟨by simp, fun _ => rfl⟩⟩
  show AtD _ _ _ _ _ 1 _ _
  walk_nrm
  refine F.es ?_
  refine F.sr ?_
  simp only [rg, Nat.reduceAdd]
  iterate 2 (refine F.oq rfl rfl rfl (fun _ => by simp [go_sem]) fun d K hK => ?_; go_simp; refine hK _ ?_; clear hK K d; try walk_nrm)
  refine F.re ?_
  refine F.cf rfl ?_
  refine F.sk ?_
  refine F.sq ?_
  refine F.sr ?_
  simp only [rg, Nat.reduceAdd]
  iterate 3 (refine F.oq rfl rfl rfl (fun _ => by simp [go_sem]) fun d K hK => ?_; go_simp; refine hK _ ?_; clear hK K d; try walk_nrm)
  refine F.unwanted rfl rfl ?_
  try walk_nrm
  refine F.unwanted rfl rfl ?_
  try walk_nrm
  iterate 2 (refine F.oq rfl rfl rfl (fun _ => by simp [go_sem]) fun d K hK => ?_; go_simp; refine hK _ ?_; clear hK K d; try walk_nrm)
  refine F.unwanted rfl rfl ?_
  try walk_nrm
  refine F.unwanted rfl rfl ?_
  try walk_nrm
  refine F.unwanted rfl rfl ?_
  try walk_nrm
  refine F.unwanted rfl rfl ?_
  try walk_nrm
  refine F.oq rfl rfl rfl (fun _ => by simp [go_sem]) fun d K hK => ?_; go_simp; refine hK _ ?_; clear hK K d; try walk_nrm
  refine F.re ?_
  refine F.cf rfl ?_
  refine F.sk ?_
  refine F.sq ?_
  refine F.sr ?_
  simp only [rg, Nat.reduceAdd]
  iterate 3 (refine F.oq rfl rfl rfl (fun _ => by simp [go_sem]) fun d K hK => ?_; go_simp; refine hK _ ?_; clear hK K d; try walk_nrm)
  refine F.unwanted rfl rfl ?_
  try walk_nrm
  refine F.unwanted rfl rfl ?_
  try walk_nrm
  refine F.oq rfl rfl rfl (fun _ => by simp [go_sem]) fun d K hK => ?_; go_simp; refine hK _ ?_; clear hK K d; try walk_nrm
  refine F.re ?_
  refine F.ct rfl ?_
  refine F.ctl (fun _ => stepG_ret') ?_
  refine AtD.mark old_at rfl (fun d => stepG_unwind_entry rfl Tryz.func68 (by rfl) (by kernel_rfl) (by kernel_rfl) (e := fun _ => do mark .enable; pure Extern.Race.none_) (by kernel_rfl) (v := .tuple #[]) (evs := #[⟨.mark .enable, false, true⟩]) (by simp [Extern.Race.none_]) (by simp) (by intro x hx; simp at hx; subst hx; exact ⟨rfl, fun g h => by cases h⟩)) id rfl (ev_one (evR_mark rfl trivial)) ?_
  clear F
  have F := futD (P := Tryz.prog) (Post := Post) (wI := wI) (l := l) n 0
  show AtD _ _ _ _ _ 0 _ _
  refine F.leave rfl rfl Tryz.func88 (resultsC_none (by rfl) _) ?_
  exact hn
end Go.Proofs.YtobagnjnbmgidaaGreatDoor
