/- Two chains are held against each other. -/
import Derived.Test.YtobagnjnbmgidaaGreatDoorX30
set_option linter.unusedSimpArgs false
set_option linter.unusedVariables false
namespace Go.Proofs.YtobagnjnbmgidaaGreatDoor
open Go.Conc Go.RowKit
variable {main : Bool} {Ok : Addr → Bool → Prop}

theorem neqA (w : World) : (binOp .neq 48 (.agg #[.int .i64 7, .int .i64 0, .int .i64 0]) (.agg #[.int .i64 7, .int .i64 0, .int .i64 0])).run Tryz.prog w = .ok (.bool false) w := by kernel_rfl
theorem neqAe (w : World) : (binOp .neq 48 (.agg #[.int .i64 7, .int .i64 0, .int .i64 0]) (.agg #[.int .i64 7, .int .i64 0, .int .i64 0])).events Tryz.prog w #[] = #[] := by kernel_rfl
theorem eqgA (w : World) : (eqGuard .neq 48 (.tmp 20) (.tmp 24) (.agg #[.int .i64 7, .int .i64 0, .int .i64 0]) (.agg #[.int .i64 7, .int .i64 0, .int .i64 0])).run Tryz.prog w = .ok () w := by kernel_rfl
theorem eqgAe (w : World) (es : Array Event) : (eqGuard .neq 48 (.tmp 20) (.tmp 24) (.agg #[.int .i64 7, .int .i64 0, .int .i64 0]) (.agg #[.int .i64 7, .int .i64 0, .int .i64 0])).events Tryz.prog w es = es := by kernel_rfl
theorem eqgB (w : World) : (eqGuard .neq 48 (.tmp 20) (.tmp 24) (.agg #[.int .i64 1, .int .i64 (-1), .int .i64 3]) (.agg #[.int .i64 1, .int .i64 (-1), .int .i64 3])).run Tryz.prog w = .ok () w := by kernel_rfl
theorem eqgBe (w : World) (es : Array Event) : (eqGuard .neq 48 (.tmp 20) (.tmp 24) (.agg #[.int .i64 1, .int .i64 (-1), .int .i64 3]) (.agg #[.int .i64 1, .int .i64 (-1), .int .i64 3])).events Tryz.prog w es = es := by kernel_rfl
theorem neqB (w : World) : (binOp .neq 48 (.agg #[.int .i64 1, .int .i64 (-1), .int .i64 3]) (.agg #[.int .i64 1, .int .i64 (-1), .int .i64 3])).run Tryz.prog w = .ok (.bool false) w := by kernel_rfl
theorem neqBe (w : World) : (binOp .neq 48 (.agg #[.int .i64 1, .int .i64 (-1), .int .i64 3]) (.agg #[.int .i64 1, .int .i64 (-1), .int .i64 3])).events Tryz.prog w #[] = #[] := by kernel_rfl

set_option maxRecDepth 100000 in
set_option maxHeartbeats 4000000 in
theorem sameChain_x (gA hB cap : Nat) (w0 : World) (a0 : w0.cell? ⟨gA, 0, none⟩ = some (.int .i64 7)) (a1 : w0.cell? ⟨gA, 1, none⟩ = some (.int .i64 0)) (a2 : w0.cell? ⟨gA, 2, none⟩ = some (.int .i64 0)) (a3 : w0.cell? ⟨gA, 3, none⟩ = some (.int .i64 1)) (a4 : w0.cell? ⟨gA, 4, none⟩ = some (.int .i64 (-1))) (a5 : w0.cell? ⟨gA, 5, none⟩ = some (.int .i64 3))
    (b0 : w0.cell? ⟨hB, 0, none⟩ = some (.int .i64 7)) (b1 : w0.cell? ⟨hB, 1, none⟩ = some (.int .i64 0)) (b2 : w0.cell? ⟨hB, 2, none⟩ = some (.int .i64 0)) (b3 : w0.cell? ⟨hB, 3, none⟩ = some (.int .i64 1)) (b4 : w0.cell? ⟨hB, 4, none⟩ = some (.int .i64 (-1))) (b5 : w0.cell? ⟨hB, 5, none⟩ = some (.int .i64 3))
    (hok : ∀ (a : Addr) (wr : Bool), wr = false ∧ (a.block = gA ∨ a.block = hB) → Ok a wr) :
    CallsX Tryz.prog main (DX Ok) 25 #[.slice (some ⟨gA, 0, none⟩) 2 cap, .slice (some ⟨hB, 0, none⟩) 2 2] w0 fun v w' => v = .bool true ∧ w' = w0 := by
  intro Ψ F c cs hc
  have hw1 : IntKind.i64.wrap 1 = 1 := by decide
  have hw2 : IntKind.i64.wrap 2 = 2 := by decide
  rw [enter_at _ Tryz.func25 rfl]
  simp only [Tryz.ntmps25, List.size_toArray, List.length_cons, List.length_nil, Nat.reduceAdd, Nat.reduceSub, Array.replicate_succ, Array.replicate_zero, List.push_toArray, List.append_toArray, List.nil_append, List.cons_append]
  refine F.sr ?_
  simp only [rg, Nat.reduceAdd]
  refine F.oq rfl rfl rfl (fun _ => by simp [go_sem]) fun d K hK => ?_; go_simp; refine hK _ ?_; clear hK K d; try walk_nrm
  refine F.es ?_
  refine F.sr ?_
  simp only [rg, Nat.reduceAdd]
  iterate 5 (refine F.oq rfl rfl rfl (fun _ => by simp [go_sem]) fun d K hK => ?_; go_simp; refine hK _ ?_; clear hK K d; try walk_nrm)
  refine F.re ?_
  refine F.cf rfl ?_
  refine F.sk ?_
  refine F.sq ?_
  refine F.sr ?_
  simp only [rg, Nat.reduceAdd]
  refine F.oq rfl rfl rfl (fun _ => by simp [go_sem]) fun d K hK => ?_; go_simp; refine hK _ ?_; clear hK K d; try walk_nrm
  refine F.re ?_
  refine F.bl ?_
  refine F.ctl (fun _ => stepG_loop) ?_
  refine F.sq ?_
  refine F.sr ?_
  simp only [rg, Nat.reduceAdd]
  iterate 4 (refine F.oq rfl rfl rfl (fun _ => by simp [go_sem]) fun d K hK => ?_; go_simp; refine hK _ ?_; clear hK K d; try walk_nrm)
  refine F.re ?_
  refine F.ct rfl ?_
  refine F.sk ?_
  refine F.sq ?_
  refine F.bl ?_
  refine F.sq ?_
  refine F.drawA (γ := Unit) (n := 9) mixed [[], [], [0, 1], [2], [], [], [4, 5], [6], [3, 7]] rfl (by kernel_rfl) (fun b g => [(17, sel (b 0) (.slice (some ⟨gA, 0, none⟩) 2 cap) (undef)), (18, sel (b 1) (.int .i64 0) (undef)), (19, sel (b 2) (.pointer (some ⟨gA, 0, none⟩)) (undef)), (20, sel (b 3) (.agg #[.int .i64 7, .int .i64 0, .int .i64 0]) (undef)), (21, sel (b 4) (.slice (some ⟨hB, 0, none⟩) 2 2) (undef)), (22, sel (b 5) (.int .i64 0) (undef)), (23, sel (b 6) (.pointer (some ⟨hB, 0, none⟩)) (undef)), (24, sel (b 7) (.agg #[.int .i64 7, .int .i64 0, .int .i64 0]) (undef)), (25, sel (b 8) (.bool false) (undef))]) (fun b g w => (b 8 = false → w = w0) ∧ (b 8 = true → ( w = w0))) (()) (by simp only [pu, Nat.reduceAdd, Nat.reduceEqDiff, reduceIte]) (⟨fun _ => rfl, fun h => by cases h⟩) (all_cons ?_ (all_cons ?_ (all_cons ?_ (all_cons ?_ (all_cons ?_ (all_cons ?_ (all_cons ?_ (all_cons ?_ (all_cons ?_ (all_nil)))))))))) ?_
  · intro b g w hI hcl hbi hdp rest hre hkk
    obtain ⟨hwf, hwt⟩ := hI
    replace hbi : b 0 = false := hbi
    have nb2 : b 2 = false := nbf (fun h => hcl 2 (by decide) h 0 (by decide)) hbi
    have nb3 : b 3 = false := by
        cases hx : b 3 with
        | false => rfl
        | true => have := hcl 3 (by decide) hx 2 (by decide); rw [show b 2 = false from nb2] at this; cases this
    have nb8 : b 8 = false := by
        cases hx : b 8 with
        | false => rfl
        | true => have := hcl 8 (by decide) hx 3 (by decide); rw [show b 3 = false from nb3] at this; cases this
    have ewc := (hwf nb8).symm
    subst ewc
    simp only [nb2, nb3, nb8, hbi, pu, Nat.reduceAdd, Nat.reduceEqDiff, reduceIte]
    refine F.oq rfl rfl rfl (fun _ => by simp [go_sem]) fun d K hK => ?_; go_simp; refine hK _ ?_; clear hK K d; try walk_nrm
    have hk2 := hkk g _ ⟨fun _ => rfl, fun h => no nb8 h⟩
    simp only [nb2, nb3, nb8, hbi, pu, Nat.reduceAdd, Nat.reduceEqDiff, reduceIte] at hk2
    exact hk2
  · intro b g w hI hcl hbi hdp rest hre hkk
    obtain ⟨hwf, hwt⟩ := hI
    replace hbi : b 1 = false := hbi
    have nb2 : b 2 = false := nbf (fun h => hcl 2 (by decide) h 1 (by decide)) hbi
    have nb3 : b 3 = false := by
        cases hx : b 3 with
        | false => rfl
        | true => have := hcl 3 (by decide) hx 2 (by decide); rw [show b 2 = false from nb2] at this; cases this
    have nb8 : b 8 = false := by
        cases hx : b 8 with
        | false => rfl
        | true => have := hcl 8 (by decide) hx 3 (by decide); rw [show b 3 = false from nb3] at this; cases this
    have ewc := (hwf nb8).symm
    subst ewc
    simp only [nb2, nb3, nb8, hbi, pu, Nat.reduceAdd, Nat.reduceEqDiff, reduceIte]
    refine F.oq rfl rfl rfl (fun _ => by simp [go_sem]) fun d K hK => ?_; go_simp; refine hK _ ?_; clear hK K d; try walk_nrm
    have hk2 := hkk g _ ⟨fun _ => rfl, fun h => no nb8 h⟩
    simp only [nb2, nb3, nb8, hbi, pu, Nat.reduceAdd, Nat.reduceEqDiff, reduceIte] at hk2
    exact hk2
  · intro b g w hI hcl hbi hdp rest hre hkk
    obtain ⟨hwf, hwt⟩ := hI
    replace hbi : b 2 = false := hbi
    have d0 : b 0 = true := hdp 0 (by decide)
    have d1 : b 1 = true := hdp 1 (by decide)
    have nb3 : b 3 = false := nbf (fun h => hcl 3 (by decide) h 2 (by decide)) hbi
    have nb8 : b 8 = false := by
        cases hx : b 8 with
        | false => rfl
        | true => have := hcl 8 (by decide) hx 3 (by decide); rw [show b 3 = false from nb3] at this; cases this
    have ewc := (hwf nb8).symm
    subst ewc
    simp only [d0, d1, nb3, nb8, hbi, pu, Nat.reduceAdd, Nat.reduceEqDiff, reduceIte]
    refine F.oq rfl rfl rfl (fun _ => by simp [go_sem]) fun d K hK => ?_; go_simp; refine hK _ ?_; clear hK K d; try walk_nrm
    have hk2 := hkk g _ ⟨fun _ => rfl, fun h => no nb8 h⟩
    simp only [d0, d1, nb3, nb8, hbi, pu, Nat.reduceAdd, Nat.reduceEqDiff, reduceIte] at hk2
    exact hk2
  · intro b g w hI hcl hbi hdp rest hre hkk
    obtain ⟨hwf, hwt⟩ := hI
    replace hbi : b 3 = false := hbi
    have d2 : b 2 = true := hdp 2 (by decide)
    have d0 : b 0 = true := hcl 2 (by decide) d2 0 (by decide)
    have d1 : b 1 = true := hcl 2 (by decide) d2 1 (by decide)
    have nb8 : b 8 = false := nbf (fun h => hcl 8 (by decide) h 3 (by decide)) hbi
    have ewc := (hwf nb8).symm
    subst ewc
    simp only [d2, d0, d1, nb8, hbi, pu, Nat.reduceAdd, Nat.reduceEqDiff, reduceIte]
    refine F.op rfl rfl (by decide) (fun d K hK => ?_)
    go_simp
    refine hK _ _ ⟨DX.still _ (fun e he => ?_), ?_⟩
    · have hm := mem_listed he
      simp [go_sem, *] at hm
      rcases hm with rfl | rfl | rfl <;> exact .inl ⟨_, rfl, rfl, by (first | assumption | exact hrb _ rfl | (apply hfr <;> dsimp only <;> omega) | (apply hok; simp; done)), lt_of_cell (w := w0) (by assumption)⟩
    clear hK K d
    try walk_nrm
    have hk2 := hkk g _ ⟨fun _ => rfl, fun h => no nb8 h⟩
    simp only [d2, d0, d1, nb8, hbi, pu, Nat.reduceAdd, Nat.reduceEqDiff, reduceIte] at hk2
    exact hk2
  · intro b g w hI hcl hbi hdp rest hre hkk
    obtain ⟨hwf, hwt⟩ := hI
    replace hbi : b 4 = false := hbi
    have nb6 : b 6 = false := nbf (fun h => hcl 6 (by decide) h 4 (by decide)) hbi
    have nb7 : b 7 = false := by
        cases hx : b 7 with
        | false => rfl
        | true => have := hcl 7 (by decide) hx 6 (by decide); rw [show b 6 = false from nb6] at this; cases this
    have nb8 : b 8 = false := by
        cases hx : b 8 with
        | false => rfl
        | true => have := hcl 8 (by decide) hx 7 (by decide); rw [show b 7 = false from nb7] at this; cases this
    have ewc := (hwf nb8).symm
    subst ewc
    simp only [nb6, nb7, nb8, hbi, pu, Nat.reduceAdd, Nat.reduceEqDiff, reduceIte]
    refine F.oq rfl rfl rfl (fun _ => by simp [go_sem]) fun d K hK => ?_; go_simp; refine hK _ ?_; clear hK K d; try walk_nrm
    have hk2 := hkk g _ ⟨fun _ => rfl, fun h => no nb8 h⟩
    simp only [nb6, nb7, nb8, hbi, pu, Nat.reduceAdd, Nat.reduceEqDiff, reduceIte] at hk2
    exact hk2
  · intro b g w hI hcl hbi hdp rest hre hkk
    obtain ⟨hwf, hwt⟩ := hI
    replace hbi : b 5 = false := hbi
    have nb6 : b 6 = false := nbf (fun h => hcl 6 (by decide) h 5 (by decide)) hbi
    have nb7 : b 7 = false := by
        cases hx : b 7 with
        | false => rfl
        | true => have := hcl 7 (by decide) hx 6 (by decide); rw [show b 6 = false from nb6] at this; cases this
    have nb8 : b 8 = false := by
        cases hx : b 8 with
        | false => rfl
        | true => have := hcl 8 (by decide) hx 7 (by decide); rw [show b 7 = false from nb7] at this; cases this
    have ewc := (hwf nb8).symm
    subst ewc
    simp only [nb6, nb7, nb8, hbi, pu, Nat.reduceAdd, Nat.reduceEqDiff, reduceIte]
    refine F.oq rfl rfl rfl (fun _ => by simp [go_sem]) fun d K hK => ?_; go_simp; refine hK _ ?_; clear hK K d; try walk_nrm
    have hk2 := hkk g _ ⟨fun _ => rfl, fun h => no nb8 h⟩
    simp only [nb6, nb7, nb8, hbi, pu, Nat.reduceAdd, Nat.reduceEqDiff, reduceIte] at hk2
    exact hk2
  · intro b g w hI hcl hbi hdp rest hre hkk
    obtain ⟨hwf, hwt⟩ := hI
    replace hbi : b 6 = false := hbi
    have d4 : b 4 = true := hdp 4 (by decide)
    have d5 : b 5 = true := hdp 5 (by decide)
    have nb7 : b 7 = false := nbf (fun h => hcl 7 (by decide) h 6 (by decide)) hbi
    have nb8 : b 8 = false := by
        cases hx : b 8 with
        | false => rfl
        | true => have := hcl 8 (by decide) hx 7 (by decide); rw [show b 7 = false from nb7] at this; cases this
    have ewc := (hwf nb8).symm
    subst ewc
    simp only [d4, d5, nb7, nb8, hbi, pu, Nat.reduceAdd, Nat.reduceEqDiff, reduceIte]
    refine F.oq rfl rfl rfl (fun _ => by simp [go_sem]) fun d K hK => ?_; go_simp; refine hK _ ?_; clear hK K d; try walk_nrm
    have hk2 := hkk g _ ⟨fun _ => rfl, fun h => no nb8 h⟩
    simp only [d4, d5, nb7, nb8, hbi, pu, Nat.reduceAdd, Nat.reduceEqDiff, reduceIte] at hk2
    exact hk2
  · intro b g w hI hcl hbi hdp rest hre hkk
    obtain ⟨hwf, hwt⟩ := hI
    replace hbi : b 7 = false := hbi
    have d6 : b 6 = true := hdp 6 (by decide)
    have d4 : b 4 = true := hcl 6 (by decide) d6 4 (by decide)
    have d5 : b 5 = true := hcl 6 (by decide) d6 5 (by decide)
    have nb8 : b 8 = false := nbf (fun h => hcl 8 (by decide) h 7 (by decide)) hbi
    have ewc := (hwf nb8).symm
    subst ewc
    simp only [d6, d4, d5, nb8, hbi, pu, Nat.reduceAdd, Nat.reduceEqDiff, reduceIte]
    refine F.op rfl rfl (by decide) (fun d K hK => ?_)
    go_simp
    refine hK _ _ ⟨DX.still _ (fun e he => ?_), ?_⟩
    · have hm := mem_listed he
      simp [go_sem, *] at hm
      rcases hm with rfl | rfl | rfl <;> exact .inl ⟨_, rfl, rfl, by (first | assumption | exact hrb _ rfl | (apply hfr <;> dsimp only <;> omega) | (apply hok; simp; done)), lt_of_cell (w := w0) (by assumption)⟩
    clear hK K d
    try walk_nrm
    have hk2 := hkk g _ ⟨fun _ => rfl, fun h => no nb8 h⟩
    simp only [d6, d4, d5, nb8, hbi, pu, Nat.reduceAdd, Nat.reduceEqDiff, reduceIte] at hk2
    exact hk2
  · intro b g w hI hcl hbi hdp rest hre hkk
    obtain ⟨hwf, hwt⟩ := hI
    replace hbi : b 8 = false := hbi
    have d3 : b 3 = true := hdp 3 (by decide)
    have d7 : b 7 = true := hdp 7 (by decide)
    have d6 : b 6 = true := hcl 7 (by decide) d7 6 (by decide)
    have d4 : b 4 = true := hcl 6 (by decide) d6 4 (by decide)
    have d5 : b 5 = true := hcl 6 (by decide) d6 5 (by decide)
    have d2 : b 2 = true := hcl 3 (by decide) d3 2 (by decide)
    have d0 : b 0 = true := hcl 2 (by decide) d2 0 (by decide)
    have d1 : b 1 = true := hcl 2 (by decide) d2 1 (by decide)
    have ewc := (hwf hbi).symm
    subst ewc
    simp only [d3, d7, d6, d4, d5, d2, d0, d1, hbi, pu, Nat.reduceAdd, Nat.reduceEqDiff, reduceIte]
    refine F.opq rfl rfl (by decide) (fun _ => by simp [go_sem, eqgA, eqgB, eqgAe, eqgBe, neqA, neqB, neqAe, neqBe]) (fun d K hK => ?_)
    go_simp
    try simp [eqgA, eqgB, neqA, neqB]
    try go_simp
    refine hK _ ?_
    clear hK K d
    try walk_nrm
    have hk2 := hkk () _ ⟨fun h => by simp [tick] at h, fun _ => rfl⟩
    simp only [d3, d7, d6, d4, d5, d2, d0, d1, hbi, pu, Nat.reduceAdd, Nat.reduceEqDiff, reduceIte] at hk2
    exact hk2
  intro b g w hI hall
  obtain ⟨hwf, hwt⟩ := hI
  simp only [hall 0 (by decide), hall 1 (by decide), hall 2 (by decide), hall 3 (by decide), hall 4 (by decide), hall 5 (by decide), hall 6 (by decide), hall 7 (by decide), hall 8 (by decide), pu, Nat.reduceAdd, Nat.reduceEqDiff, reduceIte]
  have ewf := (hwt (hall 8 (by decide))).symm
  subst ewf
  clear hwf hwt hall b
  refine F.re ?_
  refine F.cf rfl ?_
  refine F.sk ?_
  refine F.ib ?_
  refine F.rr ?_
  simp only [rg, Nat.reduceAdd]
  iterate 3 (refine F.oq rfl rfl rfl (fun _ => by simp [go_sem]) fun d K hK => ?_; go_simp; refine hK _ ?_; clear hK K d; try walk_nrm)
  refine F.re ?_
  refine F.ctl (fun _ => stepG_inLoop) ?_
  refine F.sq ?_
  refine F.sr ?_
  simp only [rg, Nat.reduceAdd]
  iterate 4 (refine F.oq rfl rfl rfl (fun _ => by simp [go_sem]) fun d K hK => ?_; go_simp; refine hK _ ?_; clear hK K d; try walk_nrm)
  refine F.re ?_
  refine F.ct rfl ?_
  refine F.sk ?_
  refine F.sq ?_
  refine F.bl ?_
  refine F.sq ?_
  refine F.drawA (γ := Unit) (n := 9) mixed [[], [], [0, 1], [2], [], [], [4, 5], [6], [3, 7]] rfl (by kernel_rfl) (fun b g => [(17, sel (b 0) (.slice (some ⟨gA, 0, none⟩) 2 cap) (.slice (some ⟨gA, 0, none⟩) 2 cap)), (18, sel (b 1) (.int .i64 1) (.int .i64 0)), (19, sel (b 2) (.pointer (some ⟨gA, 3, none⟩)) (.pointer (some ⟨gA, 0, none⟩))), (20, sel (b 3) (.agg #[.int .i64 1, .int .i64 (-1), .int .i64 3]) (.agg #[.int .i64 7, .int .i64 0, .int .i64 0])), (21, sel (b 4) (.slice (some ⟨hB, 0, none⟩) 2 2) (.slice (some ⟨hB, 0, none⟩) 2 2)), (22, sel (b 5) (.int .i64 1) (.int .i64 0)), (23, sel (b 6) (.pointer (some ⟨hB, 3, none⟩)) (.pointer (some ⟨hB, 0, none⟩))), (24, sel (b 7) (.agg #[.int .i64 1, .int .i64 (-1), .int .i64 3]) (.agg #[.int .i64 7, .int .i64 0, .int .i64 0])), (25, sel (b 8) (.bool false) (.bool false))]) (fun b g w => (b 8 = false → w = w0) ∧ (b 8 = true → ( w = w0))) (()) (by simp only [pu, Nat.reduceAdd, Nat.reduceEqDiff, reduceIte]) (⟨fun _ => rfl, fun h => by cases h⟩) (all_cons ?_ (all_cons ?_ (all_cons ?_ (all_cons ?_ (all_cons ?_ (all_cons ?_ (all_cons ?_ (all_cons ?_ (all_cons ?_ (all_nil)))))))))) ?_
  · intro b g w hI hcl hbi hdp rest hre hkk
    obtain ⟨hwf, hwt⟩ := hI
    replace hbi : b 0 = false := hbi
    have nb2 : b 2 = false := nbf (fun h => hcl 2 (by decide) h 0 (by decide)) hbi
    have nb3 : b 3 = false := by
        cases hx : b 3 with
        | false => rfl
        | true => have := hcl 3 (by decide) hx 2 (by decide); rw [show b 2 = false from nb2] at this; cases this
    have nb8 : b 8 = false := by
        cases hx : b 8 with
        | false => rfl
        | true => have := hcl 8 (by decide) hx 3 (by decide); rw [show b 3 = false from nb3] at this; cases this
    have ewc := (hwf nb8).symm
    subst ewc
    simp only [nb2, nb3, nb8, hbi, pu, Nat.reduceAdd, Nat.reduceEqDiff, reduceIte]
    refine F.oq rfl rfl rfl (fun _ => by simp [go_sem]) fun d K hK => ?_; go_simp; refine hK _ ?_; clear hK K d; try walk_nrm
    have hk2 := hkk g _ ⟨fun _ => rfl, fun h => no nb8 h⟩
    simp only [nb2, nb3, nb8, hbi, pu, Nat.reduceAdd, Nat.reduceEqDiff, reduceIte] at hk2
    exact hk2
  · intro b g w hI hcl hbi hdp rest hre hkk
    obtain ⟨hwf, hwt⟩ := hI
    replace hbi : b 1 = false := hbi
    have nb2 : b 2 = false := nbf (fun h => hcl 2 (by decide) h 1 (by decide)) hbi
    have nb3 : b 3 = false := by
        cases hx : b 3 with
        | false => rfl
        | true => have := hcl 3 (by decide) hx 2 (by decide); rw [show b 2 = false from nb2] at this; cases this
    have nb8 : b 8 = false := by
        cases hx : b 8 with
        | false => rfl
        | true => have := hcl 8 (by decide) hx 3 (by decide); rw [show b 3 = false from nb3] at this; cases this
    have ewc := (hwf nb8).symm
    subst ewc
    simp only [nb2, nb3, nb8, hbi, pu, Nat.reduceAdd, Nat.reduceEqDiff, reduceIte]
    refine F.oq rfl rfl rfl (fun _ => by simp [go_sem]) fun d K hK => ?_; go_simp; refine hK _ ?_; clear hK K d; try walk_nrm
    have hk2 := hkk g _ ⟨fun _ => rfl, fun h => no nb8 h⟩
    simp only [nb2, nb3, nb8, hbi, pu, Nat.reduceAdd, Nat.reduceEqDiff, reduceIte] at hk2
    exact hk2
  · intro b g w hI hcl hbi hdp rest hre hkk
    obtain ⟨hwf, hwt⟩ := hI
    replace hbi : b 2 = false := hbi
    have d0 : b 0 = true := hdp 0 (by decide)
    have d1 : b 1 = true := hdp 1 (by decide)
    have nb3 : b 3 = false := nbf (fun h => hcl 3 (by decide) h 2 (by decide)) hbi
    have nb8 : b 8 = false := by
        cases hx : b 8 with
        | false => rfl
        | true => have := hcl 8 (by decide) hx 3 (by decide); rw [show b 3 = false from nb3] at this; cases this
    have ewc := (hwf nb8).symm
    subst ewc
    simp only [d0, d1, nb3, nb8, hbi, pu, Nat.reduceAdd, Nat.reduceEqDiff, reduceIte]
    refine F.oq rfl rfl rfl (fun _ => by simp [go_sem]) fun d K hK => ?_; go_simp; refine hK _ ?_; clear hK K d; try walk_nrm
    have hk2 := hkk g _ ⟨fun _ => rfl, fun h => no nb8 h⟩
    simp only [d0, d1, nb3, nb8, hbi, pu, Nat.reduceAdd, Nat.reduceEqDiff, reduceIte] at hk2
    exact hk2
  · intro b g w hI hcl hbi hdp rest hre hkk
    obtain ⟨hwf, hwt⟩ := hI
    replace hbi : b 3 = false := hbi
    have d2 : b 2 = true := hdp 2 (by decide)
    have d0 : b 0 = true := hcl 2 (by decide) d2 0 (by decide)
    have d1 : b 1 = true := hcl 2 (by decide) d2 1 (by decide)
    have nb8 : b 8 = false := nbf (fun h => hcl 8 (by decide) h 3 (by decide)) hbi
    have ewc := (hwf nb8).symm
    subst ewc
    simp only [d2, d0, d1, nb8, hbi, pu, Nat.reduceAdd, Nat.reduceEqDiff, reduceIte]
    refine F.op rfl rfl (by decide) (fun d K hK => ?_)
    go_simp
    refine hK _ _ ⟨DX.still _ (fun e he => ?_), ?_⟩
    · have hm := mem_listed he
      simp [go_sem, *] at hm
      rcases hm with rfl | rfl | rfl <;> exact .inl ⟨_, rfl, rfl, by (first | assumption | exact hrb _ rfl | (apply hfr <;> dsimp only <;> omega) | (apply hok; simp; done)), lt_of_cell (w := w0) (by assumption)⟩
    clear hK K d
    try walk_nrm
    have hk2 := hkk g _ ⟨fun _ => rfl, fun h => no nb8 h⟩
    simp only [d2, d0, d1, nb8, hbi, pu, Nat.reduceAdd, Nat.reduceEqDiff, reduceIte] at hk2
    exact hk2
  · intro b g w hI hcl hbi hdp rest hre hkk
    obtain ⟨hwf, hwt⟩ := hI
    replace hbi : b 4 = false := hbi
    have nb6 : b 6 = false := nbf (fun h => hcl 6 (by decide) h 4 (by decide)) hbi
    have nb7 : b 7 = false := by
        cases hx : b 7 with
        | false => rfl
        | true => have := hcl 7 (by decide) hx 6 (by decide); rw [show b 6 = false from nb6] at this; cases this
    have nb8 : b 8 = false := by
        cases hx : b 8 with
        | false => rfl
        | true => have := hcl 8 (by decide) hx 7 (by decide); rw [show b 7 = false from nb7] at this; cases this
    have ewc := (hwf nb8).symm
    subst ewc
    simp only [nb6, nb7, nb8, hbi, pu, Nat.reduceAdd, Nat.reduceEqDiff, reduceIte]
    refine F.oq rfl rfl rfl (fun _ => by simp [go_sem]) fun d K hK => ?_; go_simp; refine hK _ ?_; clear hK K d; try walk_nrm
    have hk2 := hkk g _ ⟨fun _ => rfl, fun h => no nb8 h⟩
    simp only [nb6, nb7, nb8, hbi, pu, Nat.reduceAdd, Nat.reduceEqDiff, reduceIte] at hk2
    exact hk2
  · intro b g w hI hcl hbi hdp rest hre hkk
    obtain ⟨hwf, hwt⟩ := hI
    replace hbi : b 5 = false := hbi
    have nb6 : b 6 = false := nbf (fun h => hcl 6 (by decide) h 5 (by decide)) hbi
    have nb7 : b 7 = false := by
        cases hx : b 7 with
        | false => rfl
        | true => have := hcl 7 (by decide) hx 6 (by decide); rw [show b 6 = false from nb6] at this; cases this
    have nb8 : b 8 = false := by
        cases hx : b 8 with
        | false => rfl
        | true => have := hcl 8 (by decide) hx 7 (by decide); rw [show b 7 = false from nb7] at this; cases this
    have ewc := (hwf nb8).symm
    subst ewc
    simp only [nb6, nb7, nb8, hbi, pu, Nat.reduceAdd, Nat.reduceEqDiff, reduceIte]
    refine F.oq rfl rfl rfl (fun _ => by simp [go_sem]) fun d K hK => ?_; go_simp; refine hK _ ?_; clear hK K d; try walk_nrm
    have hk2 := hkk g _ ⟨fun _ => rfl, fun h => no nb8 h⟩
    simp only [nb6, nb7, nb8, hbi, pu, Nat.reduceAdd, Nat.reduceEqDiff, reduceIte] at hk2
    exact hk2
  · intro b g w hI hcl hbi hdp rest hre hkk
    obtain ⟨hwf, hwt⟩ := hI
    replace hbi : b 6 = false := hbi
    have d4 : b 4 = true := hdp 4 (by decide)
    have d5 : b 5 = true := hdp 5 (by decide)
    have nb7 : b 7 = false := nbf (fun h => hcl 7 (by decide) h 6 (by decide)) hbi
    have nb8 : b 8 = false := by
        cases hx : b 8 with
        | false => rfl
        | true => have := hcl 8 (by decide) hx 7 (by decide); rw [show b 7 = false from nb7] at this; cases this
    have ewc := (hwf nb8).symm
    subst ewc
    simp only [d4, d5, nb7, nb8, hbi, pu, Nat.reduceAdd, Nat.reduceEqDiff, reduceIte]
    refine F.oq rfl rfl rfl (fun _ => by simp [go_sem]) fun d K hK => ?_; go_simp; refine hK _ ?_; clear hK K d; try walk_nrm
    have hk2 := hkk g _ ⟨fun _ => rfl, fun h => no nb8 h⟩
    simp only [d4, d5, nb7, nb8, hbi, pu, Nat.reduceAdd, Nat.reduceEqDiff, reduceIte] at hk2
    exact hk2
  · intro b g w hI hcl hbi hdp rest hre hkk
    obtain ⟨hwf, hwt⟩ := hI
    replace hbi : b 7 = false := hbi
    have d6 : b 6 = true := hdp 6 (by decide)
    have d4 : b 4 = true := hcl 6 (by decide) d6 4 (by decide)
    have d5 : b 5 = true := hcl 6 (by decide) d6 5 (by decide)
    have nb8 : b 8 = false := nbf (fun h => hcl 8 (by decide) h 7 (by decide)) hbi
    have ewc := (hwf nb8).symm
    subst ewc
    simp only [d6, d4, d5, nb8, hbi, pu, Nat.reduceAdd, Nat.reduceEqDiff, reduceIte]
    refine F.op rfl rfl (by decide) (fun d K hK => ?_)
    go_simp
    refine hK _ _ ⟨DX.still _ (fun e he => ?_), ?_⟩
    · have hm := mem_listed he
      simp [go_sem, *] at hm
      rcases hm with rfl | rfl | rfl <;> exact .inl ⟨_, rfl, rfl, by (first | assumption | exact hrb _ rfl | (apply hfr <;> dsimp only <;> omega) | (apply hok; simp; done)), lt_of_cell (w := w0) (by assumption)⟩
    clear hK K d
    try walk_nrm
    have hk2 := hkk g _ ⟨fun _ => rfl, fun h => no nb8 h⟩
    simp only [d6, d4, d5, nb8, hbi, pu, Nat.reduceAdd, Nat.reduceEqDiff, reduceIte] at hk2
    exact hk2
  · intro b g w hI hcl hbi hdp rest hre hkk
    obtain ⟨hwf, hwt⟩ := hI
    replace hbi : b 8 = false := hbi
    have d3 : b 3 = true := hdp 3 (by decide)
    have d7 : b 7 = true := hdp 7 (by decide)
    have d6 : b 6 = true := hcl 7 (by decide) d7 6 (by decide)
    have d4 : b 4 = true := hcl 6 (by decide) d6 4 (by decide)
    have d5 : b 5 = true := hcl 6 (by decide) d6 5 (by decide)
    have d2 : b 2 = true := hcl 3 (by decide) d3 2 (by decide)
    have d0 : b 0 = true := hcl 2 (by decide) d2 0 (by decide)
    have d1 : b 1 = true := hcl 2 (by decide) d2 1 (by decide)
    have ewc := (hwf hbi).symm
    subst ewc
    simp only [d3, d7, d6, d4, d5, d2, d0, d1, hbi, pu, Nat.reduceAdd, Nat.reduceEqDiff, reduceIte]
    refine F.opq rfl rfl (by decide) (fun _ => by simp [go_sem, eqgA, eqgB, eqgAe, eqgBe, neqA, neqB, neqAe, neqBe]) (fun d K hK => ?_)
    go_simp
    try simp [eqgA, eqgB, neqA, neqB]
    try go_simp
    refine hK _ ?_
    clear hK K d
    try walk_nrm
    have hk2 := hkk () _ ⟨fun h => by simp [tick] at h, fun _ => rfl⟩
    simp only [d3, d7, d6, d4, d5, d2, d0, d1, hbi, pu, Nat.reduceAdd, Nat.reduceEqDiff, reduceIte] at hk2
    exact hk2
  intro b g w hI hall
  obtain ⟨hwf, hwt⟩ := hI
  simp only [hall 0 (by decide), hall 1 (by decide), hall 2 (by decide), hall 3 (by decide), hall 4 (by decide), hall 5 (by decide), hall 6 (by decide), hall 7 (by decide), hall 8 (by decide), pu, Nat.reduceAdd, Nat.reduceEqDiff, reduceIte]
  have ewf := (hwt (hall 8 (by decide))).symm
  subst ewf
  clear hwf hwt hall b
  refine F.re ?_
  refine F.cf rfl ?_
  refine F.sk ?_
  refine F.ib ?_
  refine F.rr ?_
  simp only [rg, Nat.reduceAdd]
  iterate 3 (refine F.oq rfl rfl rfl (fun _ => by simp [go_sem]) fun d K hK => ?_; go_simp; refine hK _ ?_; clear hK K d; try walk_nrm)
  refine F.re ?_
  refine F.ctl (fun _ => stepG_inLoop) ?_
  refine F.sq ?_
  refine F.sr ?_
  simp only [rg, Nat.reduceAdd]
  iterate 4 (refine F.oq rfl rfl rfl (fun _ => by simp [go_sem]) fun d K hK => ?_; go_simp; refine hK _ ?_; clear hK K d; try walk_nrm)
  refine F.re ?_
  refine F.cf rfl ?_
  refine F.ctl (fun _ => stepG_exit rfl) ?_
  refine F.sr ?_
  simp only [rg, Nat.reduceAdd]
  refine F.oq rfl rfl rfl (fun _ => by simp [go_sem]) fun d K hK => ?_; go_simp; refine hK _ ?_; clear hK K d; try walk_nrm
  refine F.re ?_
  refine F.ctl (fun _ => stepG_ret') ?_
  refine F.leave rfl rfl Tryz.func25 (resultsC_tmp (by rfl) _) ?_
  exact hc _ _ ⟨rfl, rfl⟩

end Go.Proofs.YtobagnjnbmgidaaGreatDoor
