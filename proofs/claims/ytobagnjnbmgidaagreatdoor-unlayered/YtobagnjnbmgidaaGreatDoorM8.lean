/- A task that has ended counts the group down, and leaves. -/
import Derived.Test.YtobagnjnbmgidaaGreatDoorX41
set_option linter.unusedSimpArgs false
set_option linter.unusedVariables false
set_option maxHeartbeats 8000000
set_option maxRecDepth 100000
namespace Go.Proofs.YtobagnjnbmgidaaGreatDoor
open Go.Conc Go.RowKit

def grp (A : Nat) : Grp := ⟨⟨A, 5, none⟩, ⟨A, 6, none⟩, by simp⟩

theorem mx_cases {m x : Nat} (x2 : x < 2) (h : x = 0 ∨ 0 < m) : (m = 0 ∧ x = 0) ∨ (((m : Int) < 0) = False ∧ (0 < (m : Int)) = True ∧ (x = 0 ∨ x = 1)) := by
  by_cases hm : m = 0
  · exact .inl ⟨hm, by omega⟩
  · refine .inr ⟨?_, ?_, by omega⟩
    · exact propext ⟨fun h => by omega, fun h => h.elim⟩
    · exact propext ⟨fun _ => trivial, fun _ => by omega⟩

theorem quitsAdd (c : Frame) (cs : List Frame) (T : Array Value) (todo : List Item) (hq : ∃ n, QuitsD Tryz.prog n 0 (G (c.finish (.tuple #[])) cs)) : ∃ n, QuitsD Tryz.prog n 1 (G { (base 88).at ⟨T, [dcall 68 #[]]⟩ todo with mode := .returning } (c :: cs)) := by
  have F := qf_quits (P := Tryz.prog) 0
  have h1 : ∃ n, QuitsD Tryz.prog n 0 (G { (base 88).at ⟨T, []⟩ todo with mode := .returning } (c :: cs)) := by
    refine F.leave rfl rfl Tryz.func88 (resultsC_none (by rfl) _) ?_; exact hq
  obtain ⟨n, h1⟩ := h1; exact ⟨n + 1, QuitsD.unwind_mark .enable rfl (by simp) rfl Tryz.func68 (by rfl) (by kernel_rfl) (by kernel_rfl) (by kernel_rfl) h1⟩

theorem done88_dp {K : World → Prop} (A : Nat) (hc5 : ∀ w, K w → ∃ v, w.cell? ⟨A, 5, none⟩ = some v) (c : Frame) (cs : List Frame) (hend : ∃ n, QuitsD Tryz.prog n 0 (G (c.finish (.tuple #[])) cs)) :
    ∃ n, DP Tryz.prog K (grp A) n 0 (G (Frame.enter Tryz.prog 88 #[.pointer (some ⟨A, 5, none⟩), .int .i64 (-1)] .normal) (c :: cs)) := by
  have F := qf_dp (P := Tryz.prog) (K := K) (Gp := grp A) 0; have w1 : IntKind.u64.wrap (-1) = 18446744073709551615 := by decide
  have w2 : IntKind.u64.wrap 79228162514264337589248983040 = 18446744069414584320 := by decide
  have w3 : IntKind.i32.wrap 0 = 0 := by decide
  have w4 : IntKind.u32.wrap 0 = 0 := by decide
  have w5 : IntKind.u32.wrap 1 = 1 := by decide
  have w6 : IntKind.u64.wrap 0 = 0 := by decide
  have w7 : IntKind.i32.wrap (-1) = -1 := by decide
  have n3 := nb3; have n4 := nb4; have n5 := nb5; have n6 := nb6; rw [enter_at _ Tryz.func88 rfl]; simp only [Tryz.ntmps88, List.size_toArray, List.length_cons, List.length_nil, Nat.reduceAdd, Nat.reduceSub, Array.replicate_succ, Array.replicate_zero, List.push_toArray, List.append_toArray, List.nil_append, List.cons_append]; refine F.sq ?_; refine F.ct rfl ?_; refine F.sq ?_; refine F.sr ?_; simp only [rg, Nat.reduceAdd]; iterate 2 (refine F.oq rfl rfl rfl (by simp [go_sem]) (fun w hw => by go_simp; first | exact ⟨rfl, rfl⟩ | exact rfl) ?_; try walk_nrm)
  refine F.re ?_; refine F.ct rfl ?_; refine F.rr ?_; simp only [rg, Nat.reduceAdd]; refine F.oq rfl rfl rfl (by simp [go_sem]) (fun w hw => by go_simp; first | exact ⟨rfl, rfl⟩ | exact rfl) ?_; try walk_nrm
  apply F.opq rfl rfl (by decide)
  · intro w hw
    obtain ⟨v, hv⟩ := hc5 w hw; simp [go_sem, cv174e hv]
  · intro w hw
    obtain ⟨v, hv⟩ := hc5 w hw; go_simp; simp only [cv174 hv]; go_simp
    first | exact ⟨rfl, rfl⟩ | exact rfl
  try walk_nrm
  refine dp_rel rfl (fun w hw => stepG_markAt .releaseMerge (by simp) rfl rfl (by decide) rfl Tryz.func104 (by rfl) (by kernel_rfl) (by kernel_rfl) (by kernel_rfl) (ad := ⟨A, 5, none⟩) (by simp [Act.eval])) ?_; walk_nrm; clear F; have F := qf_dp (P := Tryz.prog) (K := K) (Gp := grp A) 1; refine F.esr ?_; simp only [rg, Nat.reduceAdd]; refine dp_disable rfl (fun w hw => stepG_mark0 .disable (by simp) rfl rfl (by decide) rfl Tryz.func66 (by rfl) (by kernel_rfl) (by kernel_rfl) (by kernel_rfl)) ?_; walk_nrm; clear F; have F := qf_dp (P := Tryz.prog) (K := K) (Gp := grp A) 2; refine F.er ?_; simp only [rg, Nat.reduceAdd]; refine F.ctl (fun _ => stepG_defer rfl rfl (by decide) rfl) ?_; walk_nrm; refine F.esr ?_; simp only [rg, Nat.reduceAdd]; refine F.oq rfl rfl rfl (by simp [go_sem]) (fun w hw => by go_simp; first | exact ⟨rfl, rfl⟩ | exact rfl) ?_; try walk_nrm
  refine F.es ?_; refine F.sr ?_; simp only [rg, Nat.reduceAdd]; refine F.ctl (fun _ => stepG_entry_pure (.bool false) rfl rfl (by decide) rfl Tryz.func74 (by rfl) (by kernel_rfl) (by kernel_rfl) (by kernel_rfl)) ?_; walk_nrm; refine F.re ?_; refine F.cf rfl ?_; refine F.sk ?_; refine F.sr ?_; simp only [rg, Nat.reduceAdd]; iterate 6 (refine F.oq rfl rfl rfl (by simp [go_sem]) (fun w hw => by go_simp; first | exact ⟨rfl, rfl⟩ | exact rfl) ?_; try walk_nrm)
  refine F.enter rfl rfl (by decide) (fun _ => run_call_body rfl Tryz.func108 (by rfl) (by rfl)) (fun _ => events_call_body rfl Tryz.func108 (by rfl) (by rfl) _) ?_; walk_nrm; rw [enter_at _ Tryz.func108 rfl]; simp only [Tryz.ntmps108, List.size_toArray, List.length_cons, List.length_nil, Nat.reduceAdd, Nat.reduceSub, Array.replicate_succ, Array.replicate_zero, List.push_toArray, List.append_toArray, List.nil_append, List.cons_append]; refine F.sr ?_; simp only [rg, Nat.reduceAdd]; refine F.oq rfl rfl rfl (by simp [go_sem]) (fun w hw => by go_simp; first | exact ⟨rfl, rfl⟩ | exact rfl) ?_; try walk_nrm
  refine F.esr ?_; simp only [rg, Nat.reduceAdd]; iterate 4 (refine F.oq rfl rfl rfl (by simp [go_sem]) (fun w hw => by go_simp; first | exact ⟨rfl, rfl⟩ | exact rfl) ?_; try walk_nrm)
  apply dp_add rfl
  · intro m x m9 x2 hor
    refine ⟨?g, ?h1, ?h2⟩
    case h1 =>
      intro w hw hn; rw [stepG_add_atomic (w := w) (ad := ⟨A, 5, none⟩) (v := gv (m + 1) x) (d := 18446744069414584320) rfl rfl (by decide) rfl Tryz.func122 (by rfl) (by kernel_rfl) (by kernel_rfl) .u64 (by kernel_rfl) rfl rfl hn.1 hn.2, gv_dec m x m9 x2]
      rfl
    walk_nrm; obtain ⟨f1, f2⟩ := gv_flag m x (Nat.lt_succ_of_lt m9) x2; have f3 := gv_hi m x (Nat.lt_succ_of_lt m9) x2; clear F; have F := qf_quits (P := Tryz.prog) 1; rcases mx_cases x2 hor with ⟨rfl, rfl⟩ | ⟨y1, y2, hx⟩
    · rw [show gv 0 0 = 0 from rfl]
      clear f1 f2 f3; refine F.oq rfl rfl rfl (by simp [go_sem]) (fun w hw => by go_simp; first | exact ⟨rfl, rfl⟩ | exact rfl) ?_; try walk_nrm
      refine F.re ?_; refine F.ctl (fun _ => stepG_ret') ?_; refine F.leave rfl rfl Tryz.func108 (resultsC_tmp (by rfl) _) ?_; rw [Frame.finish_at]; try walk_nrm
      refine F.oq rfl rfl rfl (by simp [go_sem]) (fun w hw => by go_simp; first | exact ⟨rfl, rfl⟩ | exact rfl) ?_; try walk_nrm
      refine F.es ?_; refine F.sr ?_; simp only [rg, Nat.reduceAdd]; iterate 4 (refine F.oq rfl rfl rfl (by simp [go_sem]) (fun w hw => by go_simp; first | exact ⟨rfl, rfl⟩ | exact rfl) ?_; try walk_nrm)
      refine F.unwanted rfl rfl ?_; try walk_nrm
      refine F.unwanted rfl rfl ?_; try walk_nrm
      refine F.oq rfl rfl rfl (by simp [go_sem]) (fun w hw => by go_simp; first | exact ⟨rfl, rfl⟩ | exact rfl) ?_; try walk_nrm
      refine F.re ?_; refine F.cf rfl ?_; refine F.sk ?_; refine F.sr ?_; simp only [rg, Nat.reduceAdd]; iterate 4 (refine F.oq rfl rfl rfl (by simp [go_sem]) (fun w hw => by go_simp; first | exact ⟨rfl, rfl⟩ | exact rfl) ?_; try walk_nrm)
      refine F.esr ?_; simp only [rg, Nat.reduceAdd]; iterate 4 (refine F.oq rfl rfl rfl (by simp [go_sem]) (fun w hw => by go_simp; first | exact ⟨rfl, rfl⟩ | exact rfl) ?_; try walk_nrm)
      refine F.es ?_; refine F.sr ?_; simp only [rg, Nat.reduceAdd]; iterate 5 (refine F.oq rfl rfl rfl (by simp [go_sem]) (fun w hw => by go_simp; first | exact ⟨rfl, rfl⟩ | exact rfl) ?_; try walk_nrm)
      refine F.unwanted rfl rfl ?_; try walk_nrm
      refine F.unwanted rfl rfl ?_; try walk_nrm
      refine F.unwanted rfl rfl ?_; try walk_nrm
      refine F.unwanted rfl rfl ?_; try walk_nrm
      refine F.oq rfl rfl rfl (by simp [go_sem]) (fun w hw => by go_simp; first | exact ⟨rfl, rfl⟩ | exact rfl) ?_; try walk_nrm
      refine F.re ?_; refine F.cf rfl ?_; refine F.sk ?_; refine F.sq ?_; refine F.sr ?_; simp only [rg, Nat.reduceAdd]; iterate 2 (refine F.oq rfl rfl rfl (by simp [go_sem]) (fun w hw => by go_simp; first | exact ⟨rfl, rfl⟩ | exact rfl) ?_; try walk_nrm)
      refine F.re ?_; refine F.cf rfl ?_; refine F.sk ?_; refine F.sq ?_; refine F.sr ?_; simp only [rg, Nat.reduceAdd]; iterate 3 (refine F.oq rfl rfl rfl (by simp [go_sem]) (fun w hw => by go_simp; first | exact ⟨rfl, rfl⟩ | exact rfl) ?_; try walk_nrm)
      refine F.unwanted rfl rfl ?_; try walk_nrm
      refine F.unwanted rfl rfl ?_; try walk_nrm
      iterate 2 (refine F.oq rfl rfl rfl (by simp [go_sem]) (fun w hw => by go_simp; first | exact ⟨rfl, rfl⟩ | exact rfl) ?_; try walk_nrm)
      refine F.unwanted rfl rfl ?_; try walk_nrm
      refine F.unwanted rfl rfl ?_; try walk_nrm
      refine F.unwanted rfl rfl ?_; try walk_nrm
      refine F.unwanted rfl rfl ?_; try walk_nrm
      refine F.oq rfl rfl rfl (by simp [go_sem]) (fun w hw => by go_simp; first | exact ⟨rfl, rfl⟩ | exact rfl) ?_; try walk_nrm
      refine F.re ?_; refine F.cf rfl ?_; refine F.sk ?_; refine F.sq ?_; refine F.sr ?_; simp only [rg, Nat.reduceAdd]; iterate 6 (refine F.oq rfl rfl rfl (by simp [go_sem]) (fun w hw => by go_simp; first | exact ⟨rfl, rfl⟩ | exact rfl) ?_; try walk_nrm)
      refine F.re ?_; refine F.ct rfl ?_; refine F.ctl (fun _ => stepG_ret') ?_; exact quitsAdd _ _ _ _ hend
    generalize gv m x = s at f1 f2 f3 ⊢; generalize (m : Int) = y at f3 y1 y2; rcases hx with rfl | rfl
    · replace f2 : bits .and .u64 s 2147483647 = 0 := f2
      refine F.oq rfl rfl rfl (by simp [go_sem]) (fun w hw => by go_simp; first | exact ⟨rfl, rfl⟩ | exact rfl) ?_; try walk_nrm
      refine F.re ?_; refine F.ctl (fun _ => stepG_ret') ?_; refine F.leave rfl rfl Tryz.func108 (resultsC_tmp (by rfl) _) ?_; rw [Frame.finish_at]; try walk_nrm
      refine F.oq rfl rfl rfl (by simp [go_sem]) (fun w hw => by go_simp; first | exact ⟨rfl, rfl⟩ | exact rfl) ?_; try walk_nrm
      refine F.es ?_; refine F.sr ?_; simp only [rg, Nat.reduceAdd]; iterate 4 (refine F.oq rfl rfl rfl (by simp [go_sem]) (fun w hw => by go_simp; first | exact ⟨rfl, rfl⟩ | exact rfl) ?_; try walk_nrm)
      refine F.unwanted rfl rfl ?_; try walk_nrm
      refine F.unwanted rfl rfl ?_; try walk_nrm
      refine F.oq rfl rfl rfl (by simp [go_sem]) (fun w hw => by go_simp; first | exact ⟨rfl, rfl⟩ | exact rfl) ?_; try walk_nrm
      refine F.re ?_; refine F.cf rfl ?_; refine F.sk ?_; refine F.sr ?_; simp only [rg, Nat.reduceAdd]; iterate 4 (refine F.oq rfl rfl rfl (by simp [go_sem]) (fun w hw => by go_simp; first | exact ⟨rfl, rfl⟩ | exact rfl) ?_; try walk_nrm)
      refine F.esr ?_; simp only [rg, Nat.reduceAdd]; iterate 4 (refine F.oq rfl rfl rfl (by simp [go_sem]) (fun w hw => by go_simp; first | exact ⟨rfl, rfl⟩ | exact rfl) ?_; try walk_nrm)
      refine F.es ?_; refine F.sr ?_; simp only [rg, Nat.reduceAdd]; iterate 5 (refine F.oq rfl rfl rfl (by simp [go_sem]) (fun w hw => by go_simp; first | exact ⟨rfl, rfl⟩ | exact rfl) ?_; try walk_nrm)
      refine F.unwanted rfl rfl ?_; try walk_nrm
      refine F.unwanted rfl rfl ?_; try walk_nrm
      refine F.unwanted rfl rfl ?_; try walk_nrm
      refine F.unwanted rfl rfl ?_; try walk_nrm
      refine F.oq rfl rfl rfl (by simp [go_sem]) (fun w hw => by go_simp; first | exact ⟨rfl, rfl⟩ | exact rfl) ?_; try walk_nrm
      refine F.re ?_; refine F.cf rfl ?_; refine F.sk ?_; refine F.sq ?_; refine F.sr ?_; simp only [rg, Nat.reduceAdd]; iterate 2 (refine F.oq rfl rfl rfl (by simp [go_sem]) (fun w hw => by go_simp; first | exact ⟨rfl, rfl⟩ | exact rfl) ?_; try walk_nrm)
      refine F.re ?_; refine F.cf rfl ?_; refine F.sk ?_; refine F.sq ?_; refine F.sr ?_; simp only [rg, Nat.reduceAdd]; iterate 3 (refine F.oq rfl rfl rfl (by simp [go_sem]) (fun w hw => by go_simp; first | exact ⟨rfl, rfl⟩ | exact rfl) ?_; try walk_nrm)
      refine F.unwanted rfl rfl ?_; try walk_nrm
      refine F.unwanted rfl rfl ?_; try walk_nrm
      iterate 2 (refine F.oq rfl rfl rfl (by simp [go_sem]) (fun w hw => by go_simp; first | exact ⟨rfl, rfl⟩ | exact rfl) ?_; try walk_nrm)
      refine F.unwanted rfl rfl ?_; try walk_nrm
      refine F.unwanted rfl rfl ?_; try walk_nrm
      refine F.unwanted rfl rfl ?_; try walk_nrm
      refine F.unwanted rfl rfl ?_; try walk_nrm
      refine F.oq rfl rfl rfl (by simp [go_sem]) (fun w hw => by go_simp; first | exact ⟨rfl, rfl⟩ | exact rfl) ?_; try walk_nrm
      refine F.re ?_; refine F.cf rfl ?_; refine F.sk ?_; refine F.sq ?_; refine F.sr ?_; simp only [rg, Nat.reduceAdd]; iterate 3 (refine F.oq rfl rfl rfl (by simp [go_sem]) (fun w hw => by go_simp; first | exact ⟨rfl, rfl⟩ | exact rfl) ?_; try walk_nrm)
      refine F.unwanted rfl rfl ?_; try walk_nrm
      refine F.unwanted rfl rfl ?_; try walk_nrm
      refine F.oq rfl rfl rfl (by simp [go_sem]) (fun w hw => by go_simp; first | exact ⟨rfl, rfl⟩ | exact rfl) ?_; try walk_nrm
      refine F.re ?_; refine F.ct rfl ?_; refine F.ctl (fun _ => stepG_ret') ?_; exact quitsAdd _ _ _ _ hend
    · replace f2 : bits .and .u64 s 2147483647 = 1 := f2
      refine F.oq rfl rfl rfl (by simp [go_sem]) (fun w hw => by go_simp; first | exact ⟨rfl, rfl⟩ | exact rfl) ?_; try walk_nrm
      refine F.re ?_; refine F.ctl (fun _ => stepG_ret') ?_; refine F.leave rfl rfl Tryz.func108 (resultsC_tmp (by rfl) _) ?_; rw [Frame.finish_at]; try walk_nrm
      refine F.oq rfl rfl rfl (by simp [go_sem]) (fun w hw => by go_simp; first | exact ⟨rfl, rfl⟩ | exact rfl) ?_; try walk_nrm
      refine F.es ?_; refine F.sr ?_; simp only [rg, Nat.reduceAdd]; iterate 4 (refine F.oq rfl rfl rfl (by simp [go_sem]) (fun w hw => by go_simp; first | exact ⟨rfl, rfl⟩ | exact rfl) ?_; try walk_nrm)
      refine F.unwanted rfl rfl ?_; try walk_nrm
      refine F.unwanted rfl rfl ?_; try walk_nrm
      refine F.oq rfl rfl rfl (by simp [go_sem]) (fun w hw => by go_simp; first | exact ⟨rfl, rfl⟩ | exact rfl) ?_; try walk_nrm
      refine F.re ?_; refine F.cf rfl ?_; refine F.sk ?_; refine F.sr ?_; simp only [rg, Nat.reduceAdd]; iterate 4 (refine F.oq rfl rfl rfl (by simp [go_sem]) (fun w hw => by go_simp; first | exact ⟨rfl, rfl⟩ | exact rfl) ?_; try walk_nrm)
      refine F.esr ?_; simp only [rg, Nat.reduceAdd]; iterate 4 (refine F.oq rfl rfl rfl (by simp [go_sem]) (fun w hw => by go_simp; first | exact ⟨rfl, rfl⟩ | exact rfl) ?_; try walk_nrm)
      refine F.es ?_; refine F.sr ?_; simp only [rg, Nat.reduceAdd]; iterate 5 (refine F.oq rfl rfl rfl (by simp [go_sem]) (fun w hw => by go_simp; first | exact ⟨rfl, rfl⟩ | exact rfl) ?_; try walk_nrm)
      refine F.unwanted rfl rfl ?_; try walk_nrm
      refine F.unwanted rfl rfl ?_; try walk_nrm
      refine F.unwanted rfl rfl ?_; try walk_nrm
      refine F.unwanted rfl rfl ?_; try walk_nrm
      refine F.oq rfl rfl rfl (by simp [go_sem]) (fun w hw => by go_simp; first | exact ⟨rfl, rfl⟩ | exact rfl) ?_; try walk_nrm
      refine F.re ?_; refine F.cf rfl ?_; refine F.sk ?_; refine F.sq ?_; refine F.sr ?_; simp only [rg, Nat.reduceAdd]; iterate 2 (refine F.oq rfl rfl rfl (by simp [go_sem]) (fun w hw => by go_simp; first | exact ⟨rfl, rfl⟩ | exact rfl) ?_; try walk_nrm)
      refine F.re ?_; refine F.cf rfl ?_; refine F.sk ?_; refine F.sq ?_; refine F.sr ?_; simp only [rg, Nat.reduceAdd]; iterate 7 (refine F.oq rfl rfl rfl (by simp [go_sem]) (fun w hw => by go_simp; first | exact ⟨rfl, rfl⟩ | exact rfl) ?_; try walk_nrm)
      refine F.unwanted rfl rfl ?_; try walk_nrm
      refine F.unwanted rfl rfl ?_; try walk_nrm
      refine F.unwanted rfl rfl ?_; try walk_nrm
      refine F.unwanted rfl rfl ?_; try walk_nrm
      refine F.oq rfl rfl rfl (by simp [go_sem]) (fun w hw => by go_simp; first | exact ⟨rfl, rfl⟩ | exact rfl) ?_; try walk_nrm
      refine F.re ?_; refine F.cf rfl ?_; refine F.sk ?_; refine F.sq ?_; refine F.sr ?_; simp only [rg, Nat.reduceAdd]; iterate 3 (refine F.oq rfl rfl rfl (by simp [go_sem]) (fun w hw => by go_simp; first | exact ⟨rfl, rfl⟩ | exact rfl) ?_; try walk_nrm)
      refine F.unwanted rfl rfl ?_; try walk_nrm
      refine F.unwanted rfl rfl ?_; try walk_nrm
      refine F.oq rfl rfl rfl (by simp [go_sem]) (fun w hw => by go_simp; first | exact ⟨rfl, rfl⟩ | exact rfl) ?_; try walk_nrm
      refine F.re ?_; refine F.ct rfl ?_; refine F.ctl (fun _ => stepG_ret') ?_; exact quitsAdd _ _ _ _ hend
  have g1 : gv 1 1 = 4294967297 := rfl; have g2 : gv 0 1 = 1 := rfl; have g3 : gv 0 0 = 0 := rfl; have e1 : IntKind.u64.wrap (4294967297 + 18446744069414584320) = 1 := by decide
  refine ⟨?g2, ?k1, ?k2⟩
  case k1 =>
    intro w hw hn; rw [g1] at hn; rw [stepG_add_atomic (w := w) (ad := ⟨A, 5, none⟩) (v := 4294967297) (d := 18446744069414584320) rfl rfl (by decide) rfl Tryz.func122 (by rfl) (by kernel_rfl) (by kernel_rfl) .u64 (by kernel_rfl) rfl rfl hn.1 hn.2, e1]
    rfl
  walk_nrm; try simp only [e1]
  clear g1 e1; clear F; have F := qf_dp (P := Tryz.prog) (K := K) (Gp := grp A) 3; refine F.oq rfl rfl rfl (by simp [go_sem]) (fun w hw => by go_simp; first | exact ⟨rfl, rfl⟩ | exact rfl) ?_; try walk_nrm
  refine F.re ?_; refine F.ctl (fun _ => stepG_ret') ?_; refine F.leave rfl rfl Tryz.func108 (resultsC_tmp (by rfl) _) ?_; try rw [g2]
  rw [Frame.finish_at]; try walk_nrm
  refine F.oq rfl rfl rfl (by simp [go_sem]) (fun w hw => by go_simp; first | exact ⟨rfl, rfl⟩ | exact rfl) ?_; try walk_nrm
  refine F.es ?_; refine F.sr ?_; simp only [rg, Nat.reduceAdd]; iterate 4 (refine F.oq rfl rfl rfl (by simp [go_sem]) (fun w hw => by go_simp; first | exact ⟨rfl, rfl⟩ | exact rfl) ?_; try walk_nrm)
  refine F.unwanted rfl rfl ?_; try walk_nrm
  refine F.unwanted rfl rfl ?_; try walk_nrm
  refine F.oq rfl rfl rfl (by simp [go_sem]) (fun w hw => by go_simp; first | exact ⟨rfl, rfl⟩ | exact rfl) ?_; try walk_nrm
  refine F.re ?_; refine F.cf rfl ?_; refine F.sk ?_; refine F.sr ?_; simp only [rg, Nat.reduceAdd]; iterate 4 (refine F.oq rfl rfl rfl (by simp [go_sem]) (fun w hw => by go_simp; first | exact ⟨rfl, rfl⟩ | exact rfl) ?_; try walk_nrm)
  refine F.esr ?_; simp only [rg, Nat.reduceAdd]; iterate 4 (refine F.oq rfl rfl rfl (by simp [go_sem]) (fun w hw => by go_simp; first | exact ⟨rfl, rfl⟩ | exact rfl) ?_; try walk_nrm)
  refine F.es ?_; refine F.sr ?_; simp only [rg, Nat.reduceAdd]; iterate 5 (refine F.oq rfl rfl rfl (by simp [go_sem]) (fun w hw => by go_simp; first | exact ⟨rfl, rfl⟩ | exact rfl) ?_; try walk_nrm)
  refine F.unwanted rfl rfl ?_; try walk_nrm
  refine F.unwanted rfl rfl ?_; try walk_nrm
  refine F.unwanted rfl rfl ?_; try walk_nrm
  refine F.unwanted rfl rfl ?_; try walk_nrm
  refine F.oq rfl rfl rfl (by simp [go_sem]) (fun w hw => by go_simp; first | exact ⟨rfl, rfl⟩ | exact rfl) ?_; try walk_nrm
  refine F.re ?_; refine F.cf rfl ?_; refine F.sk ?_; refine F.sq ?_; refine F.sr ?_; simp only [rg, Nat.reduceAdd]; iterate 2 (refine F.oq rfl rfl rfl (by simp [go_sem]) (fun w hw => by go_simp; first | exact ⟨rfl, rfl⟩ | exact rfl) ?_; try walk_nrm)
  refine F.re ?_; refine F.cf rfl ?_; refine F.sk ?_; refine F.sq ?_; refine F.sr ?_; simp only [rg, Nat.reduceAdd]; iterate 7 (refine F.oq rfl rfl rfl (by simp [go_sem]) (fun w hw => by go_simp; first | exact ⟨rfl, rfl⟩ | exact rfl) ?_; try walk_nrm)
  refine F.unwanted rfl rfl ?_; try walk_nrm
  refine F.unwanted rfl rfl ?_; try walk_nrm
  refine F.unwanted rfl rfl ?_; try walk_nrm
  refine F.unwanted rfl rfl ?_; try walk_nrm
  refine F.oq rfl rfl rfl (by simp [go_sem]) (fun w hw => by go_simp; first | exact ⟨rfl, rfl⟩ | exact rfl) ?_; try walk_nrm
  refine F.re ?_; refine F.cf rfl ?_; refine F.sk ?_; refine F.sq ?_; refine F.sr ?_; simp only [rg, Nat.reduceAdd]; iterate 6 (refine F.oq rfl rfl rfl (by simp [go_sem]) (fun w hw => by go_simp; first | exact ⟨rfl, rfl⟩ | exact rfl) ?_; try walk_nrm)
  refine F.re ?_; refine F.cf rfl ?_; refine F.sk ?_; refine F.sq ?_; refine F.sr ?_; simp only [rg, Nat.reduceAdd]; iterate 3 (refine F.oq rfl rfl rfl (by simp [go_sem]) (fun w hw => by go_simp; first | exact ⟨rfl, rfl⟩ | exact rfl) ?_; try walk_nrm)
  refine F.enter rfl rfl (by decide) (fun _ => run_call_body rfl Tryz.func67 (by rfl) (by rfl)) (fun _ => events_call_body rfl Tryz.func67 (by rfl) (by rfl) _) ?_; walk_nrm; rw [enter_at _ Tryz.func67 rfl]; simp only [Tryz.ntmps67, List.size_toArray, List.length_cons, List.length_nil, Nat.reduceAdd, Nat.reduceSub, Array.replicate_succ, Array.replicate_zero, List.push_toArray, List.append_toArray, List.nil_append, List.cons_append]; refine F.sr ?_; simp only [rg, Nat.reduceAdd]; refine F.oq rfl rfl rfl (by simp [go_sem]) (fun w hw => by go_simp; first | exact ⟨rfl, rfl⟩ | exact rfl) ?_; try walk_nrm
  refine F.esr ?_; simp only [rg, Nat.reduceAdd]; iterate 3 (refine F.oq rfl rfl rfl (by simp [go_sem]) (fun w hw => by go_simp; first | exact ⟨rfl, rfl⟩ | exact rfl) ?_; try walk_nrm)
  refine dp_load rfl (fun w hw hn => stepG_load_atomic (ad := ⟨A, 5, none⟩) (v := 1) rfl rfl (by decide) rfl Tryz.func96 (by rfl) (by kernel_rfl) (by kernel_rfl) .u64 (by kernel_rfl) rfl hn.1) ?_; walk_nrm; clear F; have F := qf_dp (P := Tryz.prog) (K := K) (Gp := grp A) 4; refine F.oq rfl rfl rfl (by simp [go_sem]) (fun w hw => by go_simp; first | exact ⟨rfl, rfl⟩ | exact rfl) ?_; try walk_nrm
  refine F.re ?_; refine F.ctl (fun _ => stepG_ret') ?_; refine F.leave rfl rfl Tryz.func67 (resultsC_tmp (by rfl) _) ?_; rw [Frame.finish_at]; try walk_nrm
  iterate 2 (refine F.oq rfl rfl rfl (by simp [go_sem]) (fun w hw => by go_simp; first | exact ⟨rfl, rfl⟩ | exact rfl) ?_; try walk_nrm)
  refine F.re ?_; refine F.cf rfl ?_; refine F.sk ?_; refine F.sr ?_; simp only [rg, Nat.reduceAdd]; iterate 3 (refine F.oq rfl rfl rfl (by simp [go_sem]) (fun w hw => by go_simp; first | exact ⟨rfl, rfl⟩ | exact rfl) ?_; try walk_nrm)
  refine F.enter rfl rfl (by decide) (fun _ => run_call_body rfl Tryz.func110 (by rfl) (by rfl)) (fun _ => events_call_body rfl Tryz.func110 (by rfl) (by rfl) _) ?_; walk_nrm; rw [enter_at _ Tryz.func110 rfl]; simp only [Tryz.ntmps110, List.size_toArray, List.length_cons, List.length_nil, Nat.reduceAdd, Nat.reduceSub, Array.replicate_succ, Array.replicate_zero, List.push_toArray, List.append_toArray, List.nil_append, List.cons_append]; refine F.rr ?_; simp only [rg, Nat.reduceAdd]; iterate 4 (refine F.oq rfl rfl rfl (by simp [go_sem]) (fun w hw => by go_simp; first | exact ⟨rfl, rfl⟩ | exact rfl) ?_; try walk_nrm)
  refine dp_store rfl (fun w hw hn => stepG_store_atomic (ad := ⟨A, 5, none⟩) (k := .u64) (v := 0) rfl rfl (by decide) rfl Tryz.func123 (by rfl) (by kernel_rfl) (by kernel_rfl) (by kernel_rfl) rfl rfl hn.1 hn.2) ?_; walk_nrm; clear F; have F := qf_dp (P := Tryz.prog) (K := K) (Gp := grp A) 5; refine F.re ?_; refine F.ctl (fun _ => stepG_end) ?_; refine F.leave rfl rfl Tryz.func110 (resultsC_none (by rfl) _) ?_; rw [Frame.finish_at]; try walk_nrm
  refine F.es ?_; refine F.sr ?_; simp only [rg, Nat.reduceAdd]; refine F.oq rfl rfl rfl (by simp [go_sem]) (fun w hw => by go_simp; first | exact ⟨rfl, rfl⟩ | exact rfl) ?_; try walk_nrm
  refine F.re ?_; refine F.cf rfl ?_; refine F.sk ?_; refine F.bl ?_; refine F.ctl (fun _ => stepG_loop) ?_; refine F.sq ?_; refine F.sr ?_; simp only [rg, Nat.reduceAdd]; iterate 2 (refine F.oq rfl rfl rfl (by simp [go_sem]) (fun w hw => by go_simp; first | exact ⟨rfl, rfl⟩ | exact rfl) ?_; try walk_nrm)
  refine F.re ?_; refine F.ct rfl ?_; refine F.sk ?_; refine F.sq ?_; refine F.bl ?_; refine F.rr ?_; simp only [rg, Nat.reduceAdd]; iterate 3 (refine F.oq rfl rfl rfl (by simp [go_sem]) (fun w hw => by go_simp; first | exact ⟨rfl, rfl⟩ | exact rfl) ?_; try walk_nrm)
  refine dp_semrel rfl (by kernel_rfl) rfl (fun w hw hn => stepG_semrelease (ad := ⟨A, 6, none⟩) (n := 0) rfl rfl (by decide) rfl Tryz.func111 (by rfl) (by kernel_rfl) (by kernel_rfl) (by kernel_rfl) (by simp [Act.eval]) hn.1 hn.2) ?_; walk_nrm; clear F; have F := qf_quits (P := Tryz.prog) 1; refine F.re ?_; refine F.ib ?_; refine F.rr ?_; simp only [rg, Nat.reduceAdd]; iterate 3 (refine F.oq rfl rfl rfl (by simp [go_sem]) (fun w hw => by go_simp; first | exact ⟨rfl, rfl⟩ | exact rfl) ?_; try walk_nrm)
  refine F.re ?_; refine F.ctl (fun _ => stepG_inLoop) ?_; refine F.sq ?_; refine F.sr ?_; simp only [rg, Nat.reduceAdd]; iterate 2 (refine F.oq rfl rfl rfl (by simp [go_sem]) (fun w hw => by go_simp; first | exact ⟨rfl, rfl⟩ | exact rfl) ?_; try walk_nrm)
  refine F.re ?_; refine F.cf rfl ?_; refine F.ctl (fun _ => stepG_exit rfl) ?_; refine F.ctl (fun _ => stepG_end) ?_; exact quitsAdd _ _ _ _ hend
end Go.Proofs.YtobagnjnbmgidaaGreatDoor
