/- Goroutine 0 waits for the group, whatever it counts. -/
import Derived.Test.YtobagnjnbmgidaaGreatDoorM8
set_option linter.unusedSimpArgs false
set_option linter.unusedVariables false
set_option maxHeartbeats 8000000
set_option maxRecDepth 100000
namespace Go.Proofs.YtobagnjnbmgidaaGreatDoor
open Go.Conc Go.RowKit

def lp56 (f : Func) : Code := match f.body with | some (.seq _ (.block _ (.loop b))) => b | _ => .skip
theorem gv_pos {m : Nat} (h : 0 < m) : ((m : Int) == 0) = false := by simp; omega
theorem gv_ne {m m' : Nat} (h : m' < m) : gv m' 0 ≠ gv m 0 := fun e => by unfold gv at e; omega

theorem loop56_ws {K : World → Prop} {Shun : Loc → Prop} {B : Nat} {Anchor : Goroutine → Prop} (A : Nat) (hc5 : ∀ w, K w → ∃ v, w.cell? ⟨A, 5, none⟩ = some v) (hc6 : ∀ w, K w → ∃ v, w.cell? ⟨A, 6, none⟩ = some v) (c : Frame) (cs : List Frame)
    (hend : ∀ k, ∃ n, WS Tryz.prog K Shun B (grp A) Anchor k n 8 (G (c.finish (.tuple #[])) cs)) (k : Nat) : k ≤ 9 → ∀ y1 y2 y3 y4 y5 y6 y7 y8 y9 y10 y11 y12 y13 y14 y15 y16 y17 y18 y19 y20 y21 y22 y23 y24 y25 y26 y27 y28 y29 y30 y31 y32 y33 y34 y35 y36 y37 y38 y39 y40 y41 y42 y43 y44 y45 y46 y47 y48 y49 y50 y51 y52 y53 y54 y55 y56 y57 y58 y59 y60 y61 y62 y63 y64 y65 y66 y67 y68 y69 y70 y71 y72 y73 y74 y75 y76 y77 y78 y79 y80 y81 y82 y83 : Value,
    ∃ n, WS Tryz.prog K Shun B (grp A) Anchor k n 1 (G ((base 56).at ⟨List.toArray (.pointer (some ⟨A, 5, none⟩) :: y1 :: y2 :: y3 :: y4 :: y5 :: y6 :: y7 :: y8 :: y9 :: y10 :: y11 :: y12 :: y13 :: y14 :: y15 :: y16 :: y17 :: y18 :: y19 :: y20 :: y21 :: y22 :: y23 :: y24 :: y25 :: y26 :: y27 :: y28 :: y29 :: y30 :: y31 :: y32 :: y33 :: y34 :: y35 :: y36 :: y37 :: y38 :: y39 :: y40 :: y41 :: y42 :: y43 :: y44 :: y45 :: y46 :: y47 :: y48 :: y49 :: y50 :: y51 :: y52 :: y53 :: y54 :: y55 :: y56 :: y57 :: y58 :: y59 :: y60 :: y61 :: y62 :: y63 :: y64 :: y65 :: y66 :: y67 :: y68 :: y69 :: y70 :: y71 :: y72 :: y73 :: y74 :: y75 :: y76 :: y77 :: y78 :: y79 :: y80 :: y81 :: y82 :: y83 :: []), []⟩ [.code (lp56 Tryz.f56), .inLoop (lp56 Tryz.f56), .inBlock 0]) (c :: cs)) := by
  induction k using Nat.strongRecOn with
  | _ k ih =>
  intro hk y1 y2 y3 y4 y5 y6 y7 y8 y9 y10 y11 y12 y13 y14 y15 y16 y17 y18 y19 y20 y21 y22 y23 y24 y25 y26 y27 y28 y29 y30 y31 y32 y33 y34 y35 y36 y37 y38 y39 y40 y41 y42 y43 y44 y45 y46 y47 y48 y49 y50 y51 y52 y53 y54 y55 y56 y57 y58 y59 y60 y61 y62 y63 y64 y65 y66 y67 y68 y69 y70 y71 y72 y73 y74 y75 y76 y77 y78 y79 y80 y81 y82 y83; have F := qf_ws (P := Tryz.prog) (K := K) (Shun := Shun) (B := B) (Gp := grp A) (Anchor := Anchor) k 1; have w4 : IntKind.u32.wrap 0 = 0 := by decide
  have w5 : IntKind.u64.wrap 0 = 0 := by decide
  have w6 : IntKind.i32.wrap 0 = 0 := by decide
  have n3 := nb3; have n4 := nb4; simp only [lp56, Tryz.f56]; refine F.bl ?_; refine F.sr ?_; simp only [rg, Nat.reduceAdd]; iterate 3 (refine F.oq rfl rfl rfl (by simp [go_sem]) (fun w hw => by go_simp; first | exact ⟨rfl, rfl⟩ | exact rfl) ?_; try walk_nrm)
  refine F.enter rfl rfl (by decide) (fun _ => run_call_body rfl Tryz.func67 (by rfl) (by rfl)) (fun _ => events_call_body rfl Tryz.func67 (by rfl) (by rfl) _) ?_; walk_nrm; rw [enter_at _ Tryz.func67 rfl]; simp only [Tryz.ntmps67, List.size_toArray, List.length_cons, List.length_nil, Nat.reduceAdd, Nat.reduceSub, Array.replicate_succ, Array.replicate_zero, List.push_toArray, List.append_toArray, List.nil_append, List.cons_append]; refine F.sr ?_; simp only [rg, Nat.reduceAdd]; refine F.oq rfl rfl rfl (by simp [go_sem]) (fun w hw => by go_simp; first | exact ⟨rfl, rfl⟩ | exact rfl) ?_; try walk_nrm
  refine F.esr ?_; simp only [rg, Nat.reduceAdd]; iterate 3 (refine F.oq rfl rfl rfl (by simp [go_sem]) (fun w hw => by go_simp; first | exact ⟨rfl, rfl⟩ | exact rfl) ?_; try walk_nrm)
  apply ws_load rfl
  · intro m m0 mk
    have f3 := gv_hi m 0 (Nat.lt_succ_of_le (Nat.le_trans mk hk)) (by decide); obtain ⟨f1, f2⟩ := gv_flag m 0 (Nat.lt_succ_of_le (Nat.le_trans mk hk)) (by decide); replace f2 : bits .and .u64 (gv m 0) 2147483647 = 0 := f2; have f4 := gv_one m (Nat.lt_succ_of_le (Nat.le_trans mk hk)); have f5 := gv_pos m0; refine ⟨?g, ?h1, ?h2⟩
    case h1 =>
      intro w hw hn; rw [stepG_load_atomic (w := w) (ad := ⟨A, 5, none⟩) (v := gv m 0) rfl rfl (by decide) rfl Tryz.func96 (by rfl) (by kernel_rfl) (by kernel_rfl) .u64 (by kernel_rfl) rfl hn.1]
      rfl
    walk_nrm; clear F; have F := qf_ws (P := Tryz.prog) (K := K) (Shun := Shun) (B := B) (Gp := grp A) (Anchor := Anchor) k (100 + m); refine F.oq rfl rfl rfl (by simp [go_sem]) (fun w hw => by go_simp; first | exact ⟨rfl, rfl⟩ | exact rfl) ?_; try walk_nrm
    refine F.re ?_; refine F.ctl (fun _ => stepG_ret') ?_; refine F.leave rfl rfl Tryz.func67 (resultsC_tmp (by rfl) _) ?_; rw [Frame.finish_at]; try walk_nrm
    refine F.oq rfl rfl rfl (by simp [go_sem]) (fun w hw => by go_simp; first | exact ⟨rfl, rfl⟩ | exact rfl) ?_; try walk_nrm
    refine F.esr ?_; simp only [rg, Nat.reduceAdd]; iterate 4 (refine F.oq rfl rfl rfl (by simp [go_sem]) (fun w hw => by go_simp; first | exact ⟨rfl, rfl⟩ | exact rfl) ?_; try walk_nrm)
    refine F.esr ?_; simp only [rg, Nat.reduceAdd]; iterate 4 (refine F.oq rfl rfl rfl (by simp [go_sem]) (fun w hw => by go_simp; first | exact ⟨rfl, rfl⟩ | exact rfl) ?_; try walk_nrm)
    refine F.es ?_; refine F.sr ?_; simp only [rg, Nat.reduceAdd]; iterate 2 (refine F.oq rfl rfl rfl (by simp [go_sem]) (fun w hw => by go_simp; first | exact ⟨rfl, rfl⟩ | exact rfl) ?_; try walk_nrm)
    refine F.re ?_; refine F.cf rfl ?_; refine F.sk ?_; refine F.sr ?_; simp only [rg, Nat.reduceAdd]; iterate 6 (refine F.oq rfl rfl rfl (by simp [go_sem]) (fun w hw => by go_simp; first | exact ⟨rfl, rfl⟩ | exact rfl) ?_; try walk_nrm)
    refine F.enter rfl rfl (by decide) (fun _ => run_call_body rfl Tryz.func71 (by rfl) (by rfl)) (fun _ => events_call_body rfl Tryz.func71 (by rfl) (by rfl) _) ?_; walk_nrm; rw [enter_at _ Tryz.func71 rfl]; simp only [Tryz.ntmps71, List.size_toArray, List.length_cons, List.length_nil, Nat.reduceAdd, Nat.reduceSub, Array.replicate_succ, Array.replicate_zero, List.push_toArray, List.append_toArray, List.nil_append, List.cons_append]; refine F.sr ?_; simp only [rg, Nat.reduceAdd]; refine F.oq rfl rfl rfl (by simp [go_sem]) (fun w hw => by go_simp; first | exact ⟨rfl, rfl⟩ | exact rfl) ?_; try walk_nrm
    refine F.esr ?_; simp only [rg, Nat.reduceAdd]; iterate 5 (refine F.oq rfl rfl rfl (by simp [go_sem]) (fun w hw => by go_simp; first | exact ⟨rfl, rfl⟩ | exact rfl) ?_; try walk_nrm)
    refine ws_swap m0 mk rfl (fun w hw hn => stepG_cas_hit (ad := ⟨A, 5, none⟩) (v := gv m 0) (n := gv m 1) rfl rfl (by decide) rfl Tryz.func97 (by rfl) (by kernel_rfl) (by kernel_rfl) .u64 (by kernel_rfl) rfl rfl rfl hn.1 hn.2) ?_ ?_
    rotate_left
    · intro m' hm'
      refine ⟨?g2, ?k1, ?k2⟩
      case k1 =>
        intro w hw hn; rw [stepG_cas_miss (w := w) (ad := ⟨A, 5, none⟩) (v := gv m' 0) (old := gv m 0) (n := gv m 1) rfl rfl (by decide) rfl Tryz.func97 (by rfl) (by kernel_rfl) (by kernel_rfl) .u64 (by kernel_rfl) rfl rfl rfl hn.1 hn.2 (gv_ne hm')]
        rfl
      obtain ⟨k', rfl⟩ : ∃ k', k = k' + 1 := ⟨k - 1, (Nat.sub_add_cancel (Nat.le_trans m0 mk)).symm⟩; refine (fun ⟨n, h⟩ => ⟨k', n, rfl, h⟩ : (∃ n, WS Tryz.prog K Shun B (grp A) Anchor k' n 1 _) → _) ?_; walk_nrm; clear F; have F := qf_ws (P := Tryz.prog) (K := K) (Shun := Shun) (B := B) (Gp := grp A) (Anchor := Anchor) k' 1; refine F.oq rfl rfl rfl (by simp [go_sem]) (fun w hw => by go_simp; first | exact ⟨rfl, rfl⟩ | exact rfl) ?_; try walk_nrm
      refine F.re ?_; refine F.ctl (fun _ => stepG_ret') ?_; refine F.leave rfl rfl Tryz.func71 (resultsC_tmp (by rfl) _) ?_; rw [Frame.finish_at]; try walk_nrm
      refine F.re ?_; refine F.cf rfl ?_; refine F.sk ?_; refine F.ib ?_; refine F.ctl (fun _ => stepG_inLoop) ?_; exact ih k' (Nat.lt_succ_self _) (Nat.le_of_succ_le hk) _ _ _ _ _ _ _ _ _ _ _ _ _ _ _ _ _ _ _ _ _ _ _ _ _ _ _ _ _ _ _ _ _ _ _ _ _ _ _ _ _ _ _ _ _ _ _ _ _ _ _ _ _ _ _ _ _ _ _ _ _ _ _ _ _ _ _ _ _ _ _ _ _ _ _ _ _ _ _ _ _ _ _
    walk_nrm; clear F; have F := qf_ws (P := Tryz.prog) (K := K) (Shun := Shun) (B := B) (Gp := grp A) (Anchor := Anchor) k 3; refine F.oq rfl rfl rfl (by simp [go_sem]) (fun w hw => by go_simp; first | exact ⟨rfl, rfl⟩ | exact rfl) ?_; try walk_nrm
    refine F.re ?_; refine F.ctl (fun _ => stepG_ret') ?_; refine F.leave rfl rfl Tryz.func71 (resultsC_tmp (by rfl) _) ?_; rw [Frame.finish_at]; try walk_nrm
    refine F.re ?_; refine F.ct rfl ?_; refine F.sq ?_; refine F.sr ?_; simp only [rg, Nat.reduceAdd]; iterate 4 (refine F.oq rfl rfl rfl (by simp [go_sem]) (fun w hw => by go_simp; first | exact ⟨rfl, rfl⟩ | exact rfl) ?_; try walk_nrm)
    refine F.re ?_; refine F.ct rfl ?_; refine F.rr ?_; simp only [rg, Nat.reduceAdd]; iterate 3 (refine F.oq rfl rfl rfl (by simp [go_sem]) (fun w hw => by go_simp; first | exact ⟨rfl, rfl⟩ | exact rfl) ?_; try walk_nrm)
    apply F.opq rfl rfl (by decide)
    · intro w hw
      obtain ⟨v, hv⟩ := hc6 w hw; simp [go_sem, cv182e hv]
    · intro w hw
      obtain ⟨v, hv⟩ := hc6 w hw; go_simp; simp only [cv182 hv]; go_simp
      first | exact ⟨rfl, rfl⟩ | exact rfl
    try walk_nrm
    refine ws_write rfl (fun w hw => stepG_markAt .write (by simp) rfl rfl (by decide) rfl Tryz.func73 (by rfl) (by kernel_rfl) (by kernel_rfl) (by kernel_rfl) (ad := ⟨A, 6, none⟩) (by simp [Act.eval])) ?_; walk_nrm; clear F; have F := qf_ws (P := Tryz.prog) (K := K) (Shun := Shun) (B := B) (Gp := grp A) (Anchor := Anchor) k 4; refine F.esr ?_; simp only [rg, Nat.reduceAdd]; refine F.oq rfl rfl rfl (by simp [go_sem]) (fun w hw => by go_simp; first | exact ⟨rfl, rfl⟩ | exact rfl) ?_; try walk_nrm
    refine F.es ?_; refine F.sr ?_; simp only [rg, Nat.reduceAdd]; iterate 4 (refine F.oq rfl rfl rfl (by simp [go_sem]) (fun w hw => by go_simp; first | exact ⟨rfl, rfl⟩ | exact rfl) ?_; try walk_nrm)
    refine F.unwanted rfl rfl ?_; try walk_nrm
    refine F.oq rfl rfl rfl (by simp [go_sem]) (fun w hw => by go_simp; first | exact ⟨rfl, rfl⟩ | exact rfl) ?_; try walk_nrm
    refine F.re ?_; refine F.cf rfl ?_; refine F.sk ?_; refine F.sr ?_; simp only [rg, Nat.reduceAdd]; iterate 4 (refine F.oq rfl rfl rfl (by simp [go_sem]) (fun w hw => by go_simp; first | exact ⟨rfl, rfl⟩ | exact rfl) ?_; try walk_nrm)
    refine ws_sem rfl rfl (fun w hw hn => stepG_semacquire (ad := ⟨A, 6, none⟩) (n := 1) rfl rfl (by decide) rfl Tryz.func75 (by rfl) (by kernel_rfl) (by kernel_rfl) (by kernel_rfl) (by simp [Act.eval]) hn.1 (by decide) hn.2) (fun w hw hn => stepG_semacquire_wait (ad := ⟨A, 6, none⟩) rfl rfl rfl Tryz.func75 (by rfl) (by kernel_rfl) (by kernel_rfl) (by kernel_rfl) (by simp [Act.eval]) hn.1) ?_; walk_nrm; clear F; have F := qf_ws (P := Tryz.prog) (K := K) (Shun := Shun) (B := B) (Gp := grp A) (Anchor := Anchor) k 5; refine F.esr ?_; simp only [rg, Nat.reduceAdd]; iterate 3 (refine F.oq rfl rfl rfl (by simp [go_sem]) (fun w hw => by go_simp; first | exact ⟨rfl, rfl⟩ | exact rfl) ?_; try walk_nrm)
    refine F.enter rfl rfl (by decide) (fun _ => run_call_body rfl Tryz.func67 (by rfl) (by rfl)) (fun _ => events_call_body rfl Tryz.func67 (by rfl) (by rfl) _) ?_; walk_nrm; rw [enter_at _ Tryz.func67 rfl]; simp only [Tryz.ntmps67, List.size_toArray, List.length_cons, List.length_nil, Nat.reduceAdd, Nat.reduceSub, Array.replicate_succ, Array.replicate_zero, List.push_toArray, List.append_toArray, List.nil_append, List.cons_append]; refine F.sr ?_; simp only [rg, Nat.reduceAdd]; refine F.oq rfl rfl rfl (by simp [go_sem]) (fun w hw => by go_simp; first | exact ⟨rfl, rfl⟩ | exact rfl) ?_; try walk_nrm
    refine F.esr ?_; simp only [rg, Nat.reduceAdd]; iterate 3 (refine F.oq rfl rfl rfl (by simp [go_sem]) (fun w hw => by go_simp; first | exact ⟨rfl, rfl⟩ | exact rfl) ?_; try walk_nrm)
    refine ws_load5 rfl (fun w hw hn => stepG_load_atomic (ad := ⟨A, 5, none⟩) (v := 0) rfl rfl (by decide) rfl Tryz.func96 (by rfl) (by kernel_rfl) (by kernel_rfl) .u64 (by kernel_rfl) rfl hn.1) ?_; walk_nrm; clear F; have F := qf_ws (P := Tryz.prog) (K := K) (Shun := Shun) (B := B) (Gp := grp A) (Anchor := Anchor) k 6; refine F.oq rfl rfl rfl (by simp [go_sem]) (fun w hw => by go_simp; first | exact ⟨rfl, rfl⟩ | exact rfl) ?_; try walk_nrm
    refine F.re ?_; refine F.ctl (fun _ => stepG_ret') ?_; refine F.leave rfl rfl Tryz.func67 (resultsC_tmp (by rfl) _) ?_; rw [Frame.finish_at]; try walk_nrm
    iterate 2 (refine F.oq rfl rfl rfl (by simp [go_sem]) (fun w hw => by go_simp; first | exact ⟨rfl, rfl⟩ | exact rfl) ?_; try walk_nrm)
    refine F.es ?_; refine F.ct rfl ?_; refine F.sr ?_; simp only [rg, Nat.reduceAdd]; refine ws_enable rfl (fun w hw => stepG_mark0 .enable (by simp) rfl rfl (by decide) rfl Tryz.func68 (by rfl) (by kernel_rfl) (by kernel_rfl) (by kernel_rfl)) ?_; walk_nrm; clear F; have F := qf_ws (P := Tryz.prog) (K := K) (Shun := Shun) (B := B) (Gp := grp A) (Anchor := Anchor) k 7; refine F.er ?_; simp only [rg, Nat.reduceAdd]; refine F.oq rfl rfl rfl (by simp [go_sem]) (fun w hw => by go_simp; first | exact ⟨rfl, rfl⟩ | exact rfl) ?_; try walk_nrm
    apply F.opq rfl rfl (by decide)
    · intro w hw
      obtain ⟨v, hv⟩ := hc5 w hw; simp [go_sem, cv174e hv]
    · intro w hw
      obtain ⟨v, hv⟩ := hc5 w hw; go_simp; simp only [cv174 hv]; go_simp
      first | exact ⟨rfl, rfl⟩ | exact rfl
    try walk_nrm
    refine ws_acquire rfl (fun w hw => stepG_markAt .acquire (by simp) rfl rfl (by decide) rfl Tryz.func69 (by rfl) (by kernel_rfl) (by kernel_rfl) (by kernel_rfl) (ad := ⟨A, 5, none⟩) (by simp [Act.eval])) ?_; walk_nrm; clear F; have F := qf_ws (P := Tryz.prog) (K := K) (Shun := Shun) (B := B) (Gp := grp A) (Anchor := Anchor) k 8; refine F.es ?_; refine F.sr ?_; simp only [rg, Nat.reduceAdd]; refine F.oq rfl rfl rfl (by simp [go_sem]) (fun w hw => by go_simp; first | exact ⟨rfl, rfl⟩ | exact rfl) ?_; try walk_nrm
    refine F.re ?_; refine F.cf rfl ?_; refine F.sk ?_; refine F.ctl (fun _ => stepG_ret') ?_; refine F.leave rfl rfl Tryz.func56 (resultsC_none (by rfl) _) ?_; exact hend k
  refine ⟨?g0, ?j1, ?j2⟩
  case j1 =>
    intro w hw hn; rw [stepG_load_atomic (w := w) (ad := ⟨A, 5, none⟩) (v := 0) rfl rfl (by decide) rfl Tryz.func96 (by rfl) (by kernel_rfl) (by kernel_rfl) .u64 (by kernel_rfl) rfl hn.1]
    rfl
  walk_nrm; clear F; have F := qf_ws (P := Tryz.prog) (K := K) (Shun := Shun) (B := B) (Gp := grp A) (Anchor := Anchor) k 6; refine F.oq rfl rfl rfl (by simp [go_sem]) (fun w hw => by go_simp; first | exact ⟨rfl, rfl⟩ | exact rfl) ?_; try walk_nrm
  refine F.re ?_; refine F.ctl (fun _ => stepG_ret') ?_; refine F.leave rfl rfl Tryz.func67 (resultsC_tmp (by rfl) _) ?_; rw [Frame.finish_at]; try walk_nrm
  refine F.oq rfl rfl rfl (by simp [go_sem]) (fun w hw => by go_simp; first | exact ⟨rfl, rfl⟩ | exact rfl) ?_; try walk_nrm
  refine F.esr ?_; simp only [rg, Nat.reduceAdd]; iterate 4 (refine F.oq rfl rfl rfl (by simp [go_sem]) (fun w hw => by go_simp; first | exact ⟨rfl, rfl⟩ | exact rfl) ?_; try walk_nrm)
  refine F.esr ?_; simp only [rg, Nat.reduceAdd]; iterate 4 (refine F.oq rfl rfl rfl (by simp [go_sem]) (fun w hw => by go_simp; first | exact ⟨rfl, rfl⟩ | exact rfl) ?_; try walk_nrm)
  refine F.es ?_; refine F.sr ?_; simp only [rg, Nat.reduceAdd]; iterate 2 (refine F.oq rfl rfl rfl (by simp [go_sem]) (fun w hw => by go_simp; first | exact ⟨rfl, rfl⟩ | exact rfl) ?_; try walk_nrm)
  refine F.re ?_; refine F.ct rfl ?_; refine F.sq ?_; refine F.ct rfl ?_; refine F.sr ?_; simp only [rg, Nat.reduceAdd]; refine ws_enable rfl (fun w hw => stepG_mark0 .enable (by simp) rfl rfl (by decide) rfl Tryz.func68 (by rfl) (by kernel_rfl) (by kernel_rfl) (by kernel_rfl)) ?_; walk_nrm; clear F; have F := qf_ws (P := Tryz.prog) (K := K) (Shun := Shun) (B := B) (Gp := grp A) (Anchor := Anchor) k 7; refine F.er ?_; simp only [rg, Nat.reduceAdd]; refine F.oq rfl rfl rfl (by simp [go_sem]) (fun w hw => by go_simp; first | exact ⟨rfl, rfl⟩ | exact rfl) ?_; try walk_nrm
  apply F.opq rfl rfl (by decide)
  · intro w hw
    obtain ⟨v, hv⟩ := hc5 w hw; simp [go_sem, cv174e hv]
  · intro w hw
    obtain ⟨v, hv⟩ := hc5 w hw; go_simp; simp only [cv174 hv]; go_simp
    first | exact ⟨rfl, rfl⟩ | exact rfl
  try walk_nrm
  refine ws_acquire rfl (fun w hw => stepG_markAt .acquire (by simp) rfl rfl (by decide) rfl Tryz.func69 (by rfl) (by kernel_rfl) (by kernel_rfl) (by kernel_rfl) (ad := ⟨A, 5, none⟩) (by simp [Act.eval])) ?_; walk_nrm; clear F; have F := qf_ws (P := Tryz.prog) (K := K) (Shun := Shun) (B := B) (Gp := grp A) (Anchor := Anchor) k 8; refine F.es ?_; refine F.sr ?_; simp only [rg, Nat.reduceAdd]; iterate 8 (refine F.oq rfl rfl rfl (by simp [go_sem]) (fun w hw => by go_simp; first | exact ⟨rfl, rfl⟩ | exact rfl) ?_; try walk_nrm)
  refine F.unwanted rfl rfl ?_; try walk_nrm
  refine F.unwanted rfl rfl ?_; try walk_nrm
  refine F.oq rfl rfl rfl (by simp [go_sem]) (fun w hw => by go_simp; first | exact ⟨rfl, rfl⟩ | exact rfl) ?_; try walk_nrm
  refine F.re ?_; refine F.cf rfl ?_; refine F.sk ?_; refine F.ctl (fun _ => stepG_ret') ?_; refine F.leave rfl rfl Tryz.func56 (resultsC_none (by rfl) _) ?_; exact hend k

theorem wait56_ws {K : World → Prop} {Shun : Loc → Prop} {B : Nat} {Anchor : Goroutine → Prop} (A : Nat) (hc5 : ∀ w, K w → ∃ v, w.cell? ⟨A, 5, none⟩ = some v) (hc6 : ∀ w, K w → ∃ v, w.cell? ⟨A, 6, none⟩ = some v) (c : Frame) (cs : List Frame)
    (hend : ∀ k, ∃ n, WS Tryz.prog K Shun B (grp A) Anchor k n 8 (G (c.finish (.tuple #[])) cs)) (k : Nat) (hk : k ≤ 9) :
    ∃ n, WS Tryz.prog K Shun B (grp A) Anchor k n 0 (G (Frame.enter Tryz.prog 56 #[.pointer (some ⟨A, 5, none⟩)] .normal) (c :: cs)) := by
  have F := qf_ws (P := Tryz.prog) (K := K) (Shun := Shun) (B := B) (Gp := grp A) (Anchor := Anchor) k 0; rw [enter_at _ Tryz.func56 rfl]; simp only [Tryz.ntmps56, List.size_toArray, List.length_cons, List.length_nil, Nat.reduceAdd, Nat.reduceSub, Array.replicate_succ, Array.replicate_zero, List.push_toArray, List.append_toArray, List.nil_append, List.cons_append]; refine F.sq ?_; refine F.ct rfl ?_; refine F.rr ?_; simp only [rg, Nat.reduceAdd]; refine ws_disable rfl (fun w hw => stepG_mark0 .disable (by simp) rfl rfl (by decide) rfl Tryz.func66 (by rfl) (by kernel_rfl) (by kernel_rfl) (by kernel_rfl)) ?_; walk_nrm; clear F; have F := qf_ws (P := Tryz.prog) (K := K) (Shun := Shun) (B := B) (Gp := grp A) (Anchor := Anchor) k 1; refine F.re ?_; refine F.bl ?_; refine F.ctl (fun _ => stepG_loop) ?_; exact loop56_ws A hc5 hc6 c cs hend k hk _ _ _ _ _ _ _ _ _ _ _ _ _ _ _ _ _ _ _ _ _ _ _ _ _ _ _ _ _ _ _ _ _ _ _ _ _ _ _ _ _ _ _ _ _ _ _ _ _ _ _ _ _ _ _ _ _ _ _ _ _ _ _ _ _ _ _ _ _ _ _ _ _ _ _ _ _ _ _ _ _ _ _
end Go.Proofs.YtobagnjnbmgidaaGreatDoor
