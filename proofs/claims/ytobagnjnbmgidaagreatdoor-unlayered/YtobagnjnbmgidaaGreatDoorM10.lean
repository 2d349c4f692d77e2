/- Goroutine 0 counts the group up, whatever it counts. -/
import Derived.Test.YtobagnjnbmgidaaGreatDoorM9
set_option linter.unusedSimpArgs false
set_option linter.unusedVariables false
set_option maxHeartbeats 8000000
set_option maxRecDepth 100000
namespace Go.Proofs.YtobagnjnbmgidaaGreatDoor
open Go.Conc Go.RowKit

theorem up_cases (m : Nat) : m = 0 ∨ ((((m + 1 : Nat) : Int) == 1) = false ∧ (((m + 1 : Nat) : Int) < 0) = False ∧ (0 < ((m + 1 : Nat) : Int)) = True) := by
  by_cases hm : m = 0
  · exact .inl hm
  · refine .inr ⟨by simp; omega, propext ⟨fun h => by omega, fun h => h.elim⟩, propext ⟨fun _ => trivial, fun _ => by omega⟩⟩

theorem add1_3 {Post : Value → World → Prop} {K Q : World → Prop} {Shun : Loc → Prop} {St : Nat → Loc → Prop} {Inb : Nat → Option Seat} {D : World → World → Array Event → Prop} {L nb n : Nat} (A : Nat) (GG : GK K Shun (grp A)) (hnb : nb ≤ 8) (hQ : ∀ w d, Q w → Q (w.at d))
    (F0 : ∀ dl L nb, nb ≤ 9 → Fut Tryz.prog true D (At3 Tryz.prog Post K Q Shun St Inb (grp A) L nb 0 n dl)) (hss : ∀ l, AnyS St (fun g => (Inb g).isSome) l → ¬ Shun l) (hc5 : ∀ w, K w → ∃ v, w.cell? ⟨A, 5, none⟩ = some v) (hc6 : ∀ w, K w → ∃ v, w.cell? ⟨A, 6, none⟩ = some v) (c : Frame) (cs : List Frame) (w : World)
    (hn : At3 Tryz.prog Post K Q Shun St Inb (grp A) (L + 1) (nb + 1) 0 n 0 (G (c.finish (.tuple #[])) cs) w) :
    At3 Tryz.prog Post K Q Shun St Inb (grp A) L nb 0 n 0 (G (Frame.enter Tryz.prog 88 #[.pointer (some ⟨A, 5, none⟩), .int .i64 1] .normal) (c :: cs)) w := by
  refine At3.assume GG fun hKw _ => ?_
  have hnb0 : nb ≤ 9 := Nat.le_succ_of_le hnb; have hnb1 : nb + 1 ≤ 9 := Nat.succ_le_succ hnb; obtain ⟨v6, hv6⟩ := hc6 w hKw; obtain ⟨v5, hv5⟩ := hc5 w hKw; have hAw : A < w.heap.size := lt_of_cell hv5; have hns : ¬ AnyS St (fun g => (Inb g).isSome) (.cell ⟨A, 5, none⟩) := fun z => hss _ z GG.sh
  have cv1 : ∀ d, (convert 182 178 (.pointer (some ⟨A, 6, none⟩))).run Tryz.prog (w.at d) = .ok (.pointer (some ⟨A, 6, none⟩)) (w.at d) := fun d => cv182 (w := w.at d) hv6
  have cv2 : ∀ d, (convert 182 178 (.pointer (some ⟨A, 6, none⟩))).events Tryz.prog (w.at d) #[] = #[] := fun d => cv182e (w := w.at d) hv6
  have F := F0 0 L nb hnb0; have w1 : IntKind.u64.wrap 1 = 1 := by decide
  have w2 : IntKind.u64.wrap 4294967296 = 4294967296 := by decide
  have w3 : IntKind.i32.wrap 1 = 1 := by decide
  have w4 : IntKind.u32.wrap 0 = 0 := by decide
  have n1 := nb1; have n2 := nb2; clear hv5 hv6; rw [enter_at _ Tryz.func88 rfl]; simp only [Tryz.ntmps88, List.size_toArray, List.length_cons, List.length_nil, Nat.reduceAdd, Nat.reduceSub, Array.replicate_succ, Array.replicate_zero, List.push_toArray, List.append_toArray, List.nil_append, List.cons_append]; refine F.sq ?_; refine F.ct rfl ?_; refine F.sq ?_; refine F.sr ?_; simp only [rg, Nat.reduceAdd]; iterate 2 (refine F.oq rfl rfl rfl (by simp [go_sem]) fun d K h => ?_; go_simp; refine h _ ?_; clear h K d; try walk_nrm)
  refine F.re ?_; refine F.cf rfl ?_; refine F.sk ?_; refine F.sr ?_; simp only [rg, Nat.reduceAdd]; refine At3.mark GG hnb0 hQ rfl (fun w => stepG_mark0 .disable (by simp) rfl rfl (by decide) rfl Tryz.func66 (by rfl) (by kernel_rfl) (by kernel_rfl) (by kernel_rfl)) (ev_one (evR_mark rfl trivial)) ?_; clear F; have F := F0 1 L nb hnb0
  show At3 _ _ _ _ _ _ _ _ _ _ _ _ 1 _ _
  walk_nrm; refine F.er ?_; simp only [rg, Nat.reduceAdd]; refine F.ctl (fun _ => stepG_defer rfl rfl (by decide) rfl) ?_; walk_nrm; refine F.esr ?_; simp only [rg, Nat.reduceAdd]; refine F.oq rfl rfl rfl (by simp [go_sem]) fun d K h => ?_; go_simp; refine h _ ?_; clear h K d; try walk_nrm
  refine F.es ?_; refine F.sr ?_; simp only [rg, Nat.reduceAdd]; refine F.ctl (fun _ => stepG_entry_pure (.bool false) rfl rfl (by decide) rfl Tryz.func74 (by rfl) (by kernel_rfl) (by kernel_rfl) (by kernel_rfl)) ?_; walk_nrm; refine F.re ?_; refine F.cf rfl ?_; refine F.sk ?_; refine F.sr ?_; simp only [rg, Nat.reduceAdd]; iterate 6 (refine F.oq rfl rfl rfl (by simp [go_sem]) fun d K h => ?_; go_simp; refine h _ ?_; clear h K d; try walk_nrm)
  refine F.enter rfl rfl (by decide) (fun _ => run_call_body rfl Tryz.func108 (by rfl) (by rfl)) (fun _ => events_call_body rfl Tryz.func108 (by rfl) (by rfl) _) ?_; walk_nrm; rw [enter_at _ Tryz.func108 rfl]; simp only [Tryz.ntmps108, List.size_toArray, List.length_cons, List.length_nil, Nat.reduceAdd, Nat.reduceSub, Array.replicate_succ, Array.replicate_zero, List.push_toArray, List.append_toArray, List.nil_append, List.cons_append]; refine F.sr ?_; simp only [rg, Nat.reduceAdd]; refine F.oq rfl rfl rfl (by simp [go_sem]) fun d K h => ?_; go_simp; refine h _ ?_; clear h K d; try walk_nrm
  refine F.esr ?_; simp only [rg, Nat.reduceAdd]; iterate 4 (refine F.oq rfl rfl rfl (by simp [go_sem]) fun d K h => ?_; go_simp; refine h _ ?_; clear h K d; try walk_nrm)
  refine At3.add (g' := ?gg) (es := #[⟨.cell ⟨A, 5, none⟩, false, true⟩, ⟨.cell ⟨A, 5, none⟩, true, true⟩]) GG hnb0 rfl ?add1 (ev_two (evR_atomic (a := ⟨A, 5, none⟩) hns hAw) (evR_atomic (a := ⟨A, 5, none⟩) hns hAw)) ?add2
  case add1 =>
    intro d m hm hKd; have hnum := wv_num GG hKd m; rw [stepG_add_atomic (w := Wv (grp A) (w.at d) m) (ad := ⟨A, 5, none⟩) (v := gv m 0) (d := 4294967296) rfl rfl (by decide) rfl Tryz.func122 (by rfl) (by kernel_rfl) (by kernel_rfl) .u64 (by kernel_rfl) rfl rfl hnum.1 hnum.2, gv_inc m (Nat.lt_succ_of_le (Nat.le_trans hm hnb))]; rw [show (Wv (grp A) (w.at d) m).setCell ⟨A, 5, none⟩ (.int .u64 (gv (m + 1) 0)) = Wv (grp A) (w.at d) (m + 1) from set_set _ _ _ _]
  intro m hm; clear F; have F := F0 1 (L + 1) (nb + 1) hnb1
  show At3 _ _ _ _ _ _ _ _ _ _ _ _ 1 _ _
  walk_nrm; have hm10 : m + 1 < 10 := Nat.succ_lt_succ (Nat.lt_succ_of_le (Nat.le_trans hm hnb)); rcases up_cases m with rfl | ⟨y1, y2, y3⟩
  · rw [show gv (0 + 1) 0 = 4294967296 from rfl]
    refine F.oq rfl rfl rfl (by simp [go_sem]) fun d K h => ?_; go_simp; refine h _ ?_; clear h K d; try walk_nrm
    refine F.re ?_; refine F.ctl (fun _ => stepG_ret') ?_; refine F.leave rfl rfl Tryz.func108 (resultsC_tmp (by rfl) _) ?_; rw [Frame.finish_at]; try walk_nrm
    refine F.oq rfl rfl rfl (by simp [go_sem]) fun d K h => ?_; go_simp; refine h _ ?_; clear h K d; try walk_nrm
    refine F.es ?_; refine F.sr ?_; simp only [rg, Nat.reduceAdd]; iterate 4 (refine F.oq rfl rfl rfl (by simp [go_sem]) fun d K h => ?_; go_simp; refine h _ ?_; clear h K d; try walk_nrm)
    refine F.unwanted rfl rfl ?_; try walk_nrm
    refine F.unwanted rfl rfl ?_; try walk_nrm
    refine F.oq rfl rfl rfl (by simp [go_sem]) fun d K h => ?_; go_simp; refine h _ ?_; clear h K d; try walk_nrm
    refine F.re ?_; refine F.cf rfl ?_; refine F.sk ?_; refine F.sr ?_; simp only [rg, Nat.reduceAdd]; iterate 4 (refine F.oq rfl rfl rfl (by simp [go_sem]) fun d K h => ?_; go_simp; refine h _ ?_; clear h K d; try walk_nrm)
    refine F.esr ?_; simp only [rg, Nat.reduceAdd]; iterate 4 (refine F.oq rfl rfl rfl (by simp [go_sem]) fun d K h => ?_; go_simp; refine h _ ?_; clear h K d; try walk_nrm)
    refine F.es ?_; refine F.sr ?_; simp only [rg, Nat.reduceAdd]; iterate 10 (refine F.oq rfl rfl rfl (by simp [go_sem]) fun d K h => ?_; go_simp; refine h _ ?_; clear h K d; try walk_nrm)
    refine F.re ?_; refine F.ct rfl ?_; refine F.rr ?_; simp only [rg, Nat.reduceAdd]; iterate 4 (refine F.oq rfl rfl rfl (fun _ => by first | (simp [go_sem]; done) | simp [go_sem, Instr.makeInterface, Instr.makeFunc, *]) fun d K hK => ?_; go_simp; refine hK _ ?_; clear hK K d; try walk_nrm)
    refine At3.mark GG hnb1 hQ rfl (fun w => stepG_markAt .read (by simp) rfl rfl (by decide) rfl Tryz.func109 (by rfl) (by kernel_rfl) (by kernel_rfl) (by kernel_rfl) (ad := ⟨A, 6, none⟩) (by simp [Act.eval])) (ev_one ?_) ?_
    · refine ⟨fun x hx => ?_, hAw⟩
      simp [MemAct.ofEvent, MemAct.touch?] at hx; subst hx; exact ⟨fun _ => rfl, fun _ => ⟨by simp, fun _ => rfl⟩⟩
    show At3 _ _ _ _ _ _ _ _ _ _ _ _ 1 _ _
    walk_nrm; refine F.es ?_; refine F.sr ?_; simp only [rg, Nat.reduceAdd]; iterate 2 (refine F.oq rfl rfl rfl (by simp [go_sem]) fun d K h => ?_; go_simp; refine h _ ?_; clear h K d; try walk_nrm)
    refine F.re ?_; refine F.cf rfl ?_; refine F.sk ?_; refine F.sq ?_; refine F.sr ?_; simp only [rg, Nat.reduceAdd]; iterate 3 (refine F.oq rfl rfl rfl (by simp [go_sem]) fun d K h => ?_; go_simp; refine h _ ?_; clear h K d; try walk_nrm)
    refine F.unwanted rfl rfl ?_; try walk_nrm
    refine F.unwanted rfl rfl ?_; try walk_nrm
    iterate 2 (refine F.oq rfl rfl rfl (by simp [go_sem]) fun d K h => ?_; go_simp; refine h _ ?_; clear h K d; try walk_nrm)
    refine F.unwanted rfl rfl ?_; try walk_nrm
    refine F.unwanted rfl rfl ?_; try walk_nrm
    refine F.unwanted rfl rfl ?_; try walk_nrm
    refine F.unwanted rfl rfl ?_; try walk_nrm
    refine F.oq rfl rfl rfl (by simp [go_sem]) fun d K h => ?_; go_simp; refine h _ ?_; clear h K d; try walk_nrm
    refine F.re ?_; refine F.cf rfl ?_; refine F.sk ?_; refine F.sq ?_; refine F.sr ?_; simp only [rg, Nat.reduceAdd]; iterate 3 (refine F.oq rfl rfl rfl (by simp [go_sem]) fun d K h => ?_; go_simp; refine h _ ?_; clear h K d; try walk_nrm)
    refine F.unwanted rfl rfl ?_; try walk_nrm
    refine F.unwanted rfl rfl ?_; try walk_nrm
    refine F.oq rfl rfl rfl (by simp [go_sem]) fun d K h => ?_; go_simp; refine h _ ?_; clear h K d; try walk_nrm
    refine F.re ?_; refine F.ct rfl ?_; refine F.ctl (fun _ => stepG_ret') ?_; refine At3.mark GG hnb1 hQ rfl (fun w => stepG_unwind_entry rfl Tryz.func68 (by rfl) (by kernel_rfl) (by kernel_rfl) (e := fun _ => do mark .enable; pure Extern.Race.none_) (by kernel_rfl) (v := .tuple #[]) (evs := #[⟨.mark .enable, false, true⟩]) (by simp [Extern.Race.none_]) (by simp) (by intro x hx; simp at hx; subst hx; exact ⟨rfl, fun g h => by cases h⟩)) (ev_one (evR_mark rfl trivial)) ?_; clear F; have F := F0 0 (L + 1) (nb + 1) hnb1
    show At3 _ _ _ _ _ _ _ _ _ _ _ _ 0 _ _
    refine F.leave rfl rfl Tryz.func88 (resultsC_none (by rfl) _) ?_; exact hn
  · have f3 := gv_hi (m + 1) 0 hm10 (by decide)
    obtain ⟨f1, f2⟩ := gv_flag (m + 1) 0 hm10 (by decide); generalize ((m + 1 : Nat) : Int) = y at y1 y2 y3 f3; generalize gv (m + 1) 0 = s at f1 f2 f3 ⊢; replace f2 : bits .and .u64 s 2147483647 = 0 := f2; refine F.oq rfl rfl rfl (by simp [go_sem]) fun d K h => ?_; go_simp; refine h _ ?_; clear h K d; try walk_nrm
    refine F.re ?_; refine F.ctl (fun _ => stepG_ret') ?_; refine F.leave rfl rfl Tryz.func108 (resultsC_tmp (by rfl) _) ?_; rw [Frame.finish_at]; try walk_nrm
    refine F.oq rfl rfl rfl (by simp [go_sem]) fun d K h => ?_; go_simp; refine h _ ?_; clear h K d; try walk_nrm
    refine F.es ?_; refine F.sr ?_; simp only [rg, Nat.reduceAdd]; iterate 4 (refine F.oq rfl rfl rfl (by simp [go_sem]) fun d K h => ?_; go_simp; refine h _ ?_; clear h K d; try walk_nrm)
    refine F.unwanted rfl rfl ?_; try walk_nrm
    refine F.unwanted rfl rfl ?_; try walk_nrm
    refine F.oq rfl rfl rfl (by simp [go_sem]) fun d K h => ?_; go_simp; refine h _ ?_; clear h K d; try walk_nrm
    refine F.re ?_; refine F.cf rfl ?_; refine F.sk ?_; refine F.sr ?_; simp only [rg, Nat.reduceAdd]; iterate 4 (refine F.oq rfl rfl rfl (by simp [go_sem]) fun d K h => ?_; go_simp; refine h _ ?_; clear h K d; try walk_nrm)
    refine F.esr ?_; simp only [rg, Nat.reduceAdd]; iterate 4 (refine F.oq rfl rfl rfl (by simp [go_sem]) fun d K h => ?_; go_simp; refine h _ ?_; clear h K d; try walk_nrm)
    refine F.es ?_; refine F.sr ?_; simp only [rg, Nat.reduceAdd]; iterate 10 (refine F.oq rfl rfl rfl (by simp [go_sem]) fun d K h => ?_; go_simp; refine h _ ?_; clear h K d; try walk_nrm)
    refine F.re ?_; refine F.cf rfl ?_; refine F.sk ?_; refine F.sq ?_; refine F.sr ?_; simp only [rg, Nat.reduceAdd]; iterate 2 (refine F.oq rfl rfl rfl (by simp [go_sem]) fun d K h => ?_; go_simp; refine h _ ?_; clear h K d; try walk_nrm)
    refine F.re ?_; refine F.cf rfl ?_; refine F.sk ?_; refine F.sq ?_; refine F.sr ?_; simp only [rg, Nat.reduceAdd]; iterate 3 (refine F.oq rfl rfl rfl (by simp [go_sem]) fun d K h => ?_; go_simp; refine h _ ?_; clear h K d; try walk_nrm)
    refine F.unwanted rfl rfl ?_; try walk_nrm
    refine F.unwanted rfl rfl ?_; try walk_nrm
    iterate 2 (refine F.oq rfl rfl rfl (by simp [go_sem]) fun d K h => ?_; go_simp; refine h _ ?_; clear h K d; try walk_nrm)
    refine F.unwanted rfl rfl ?_; try walk_nrm
    refine F.unwanted rfl rfl ?_; try walk_nrm
    refine F.unwanted rfl rfl ?_; try walk_nrm
    refine F.unwanted rfl rfl ?_; try walk_nrm
    refine F.oq rfl rfl rfl (by simp [go_sem]) fun d K h => ?_; go_simp; refine h _ ?_; clear h K d; try walk_nrm
    refine F.re ?_; refine F.cf rfl ?_; refine F.sk ?_; refine F.sq ?_; refine F.sr ?_; simp only [rg, Nat.reduceAdd]; iterate 3 (refine F.oq rfl rfl rfl (by simp [go_sem]) fun d K h => ?_; go_simp; refine h _ ?_; clear h K d; try walk_nrm)
    refine F.unwanted rfl rfl ?_; try walk_nrm
    refine F.unwanted rfl rfl ?_; try walk_nrm
    refine F.oq rfl rfl rfl (by simp [go_sem]) fun d K h => ?_; go_simp; refine h _ ?_; clear h K d; try walk_nrm
    refine F.re ?_; refine F.ct rfl ?_; refine F.ctl (fun _ => stepG_ret') ?_; refine At3.mark GG hnb1 hQ rfl (fun w => stepG_unwind_entry rfl Tryz.func68 (by rfl) (by kernel_rfl) (by kernel_rfl) (e := fun _ => do mark .enable; pure Extern.Race.none_) (by kernel_rfl) (v := .tuple #[]) (evs := #[⟨.mark .enable, false, true⟩]) (by simp [Extern.Race.none_]) (by simp) (by intro x hx; simp at hx; subst hx; exact ⟨rfl, fun g h => by cases h⟩)) (ev_one (evR_mark rfl trivial)) ?_; clear F; have F := F0 0 (L + 1) (nb + 1) hnb1
    show At3 _ _ _ _ _ _ _ _ _ _ _ _ 0 _ _
    refine F.leave rfl rfl Tryz.func88 (resultsC_none (by rfl) _) ?_; exact hn
end Go.Proofs.YtobagnjnbmgidaaGreatDoor
