/- The retry. -/
import Derived.Test.YtobagnjnbmgidaaGreatDoorX19
set_option linter.unusedSimpArgs false
set_option linter.unusedVariables false
namespace Go.Proofs.YtobagnjnbmgidaaGreatDoor
open Go.Conc Go.RowKit Go.Extern
variable {Ok : Addr → Bool → Prop}

/-- The retry's block. -/
structure Rt (e : Env) (R B : Nat) (w : World) : Prop where
  r0 : w.cell? ⟨R, 0, none⟩ = some (.iface 138 (.pointer (some ⟨B, 0, none⟩)))
  r1 : w.cell? ⟨R, 1, none⟩ = some (.int .i64 0)
  r2 : w.cell? ⟨R, 2, none⟩ = some (.pointer (some ⟨e.J, 0, none⟩))
  r3 : w.cell? ⟨R, 3, none⟩ = some (.int .i64 3)
  r4 : w.cell? ⟨R, 4, none⟩ = some (.int .i64 10)
  r5 : w.cell? ⟨R, 5, none⟩ = some (.int .i64 2)
  r6 : w.cell? ⟨R, 6, none⟩ = some (.int .i64 15)
theorem Rt.ru {e : Env} {R B HD : Nat} {w w' : World} {en ev en' ev' : Value} {now : Int} {m : Nat} (h : Rt e R B w) (r : Ru e HD w en ev w' en' ev') (H : CW e w now en ev m) (hR : R < e.N) (h1 : R ≠ e.J) (h2 : R ≠ HD) (h3 : R ≠ e.A) (h4 : R ≠ e.T) : Rt e R B w' :=
  ⟨r.stat H hR h1 h2 h3 h4 h.r0, r.stat H hR h1 h2 h3 h4 h.r1, r.stat H hR h1 h2 h3 h4 h.r2, r.stat H hR h1 h2 h3 h4 h.r3, r.stat H hR h1 h2 h3 h4 h.r4, r.stat H hR h1 h2 h3 h4 h.r5, r.stat H hR h1 h2 h3 h4 h.r6⟩

theorem evMin1 (w : World) : (Builtin.min_ #[3, 3] 3 #[.int .i64 10, .int .i64 15]).events Tryz.prog w #[] = #[] := by kernel_rfl
theorem evMin2 (w : World) : (Builtin.min_ #[3, 3] 3 #[.int .i64 20, .int .i64 15]).events Tryz.prog w #[] = #[] := by kernel_rfl
theorem evMin3 (w : World) : (Builtin.min_ #[3, 3] 3 #[.int .i64 30, .int .i64 15]).events Tryz.prog w #[] = #[] := by kernel_rfl
def turns3 : Nat → Int × Int × Int := fun i => if i = 0 then (2, 1, 2) else if i = 1 then (2, 2, 0) else (2, 3, 1)

set_option maxRecDepth 100000 in
set_option maxHeartbeats 20000000 in
theorem retry_w (e : Env) (K : EnvOk e Ok) (hcl : e.cl = 0) (en ev : Value) (R B HD C TB : Nat) (w0 : World) (H : CW e w0 0 en ev 0) (S : BkS e Ok B HD C TB) (Q : Bk e B HD C TB 3 turns3 w0 0) (hR : R < e.N) (hR1 : R ≠ e.J) (hR2 : R ≠ HD) (hR3 : R ≠ e.A) (hR4 : R ≠ e.T) (X : Rt e R B w0) (oR : ∀ i, Ok ⟨R, i, none⟩ false) :
    CallsW e Ok 156 #[.pointer (some ⟨R, 0, none⟩), .pointer (some ⟨e.T, 0, none⟩)] w0 fun v w' => ∃ en' ev' m q p, CW e w' 28 en' ev' m ∧ Ru e HD w0 en ev w' en' ev' ∧ v = .tuple #[.int .i64 0, .iface 168 (.pointer (some ⟨p, 0, none⟩))] ∧ e.N ≤ q ∧ e.N ≤ p ∧ p ∉ rowL ev' ∧ p ∉ rowL en' ∧ q ∉ rowL ev' ∧ q ∉ rowL en' ∧ w0.heap.size ≤ q ∧ w0.heap.size ≤ p ∧
      w'.cell? ⟨p, 0, none⟩ = some (.int .i64 7) ∧ w'.cell? ⟨p, 1, none⟩ = some (.int .i64 0) ∧ w'.cell? ⟨p, 2, none⟩ = some (.int .i64 0) ∧ w'.cell? ⟨p, 3, none⟩ = some (.iface 168 (.pointer (some ⟨q, 0, none⟩))) ∧
      w'.cell? ⟨q, 0, none⟩ = some (.int .i64 1) ∧ w'.cell? ⟨q, 1, none⟩ = some (.int .i64 (-1)) ∧ w'.cell? ⟨q, 2, none⟩ = some (.int .i64 3) ∧ w'.cell? ⟨q, 3, none⟩ = some .nilIface := by
  intro Ψ0 Ψ1 W c cs hc
  have F := W.f0
  have l1 := K.lA
  have l2 := K.lT
  have l3 := K.lJ
  have hsz := H.size
  have hsX := H.sX
  have hnX := H.nX
  have hfr : ∀ (a : Addr) (wr : Bool), e.X + 1 ≤ a.block → Ok a wr := fun a wr h => K.fr a wr (by omega) (by omega)
  have hN0 := oR 0
  have hN3 := oR 3
  have hN4 := oR 4
  have hN5 := oR 5
  have hN6 := oR 6
  have t5 := evNil
  have m1 := evMin1
  have m2 := evMin2
  have m3 := evMin3
  obtain ⟨x0, x1, x2, x3, x4, x5, x6⟩ := id X
  rw [enter_at _ Tryz.func156 rfl]
  simp only [Tryz.ntmps156, List.size_toArray, List.length_cons, List.length_nil, Nat.reduceAdd, Nat.reduceSub, Array.replicate_succ, Array.replicate_zero, List.push_toArray, List.append_toArray, List.nil_append, List.cons_append]
  refine F.sr ?_
  simp only [rg, Nat.reduceAdd]
  iterate 2 (refine F.oq rfl rfl rfl (fun _ => by simp [go_sem]) fun d K hK => ?_; go_simp; refine hK _ ?_; clear hK K d; try walk_nrm)
  refine F.es ?_
  refine F.drawA (γ := Unit) (n := 10) mixed [[], [0], [1], [2], [], [4], [5], [6], [3, 7], [0, 1, 2, 3, 4, 5, 6, 7, 8]] rfl (by kernel_rfl) (fun b g => [(10, sel (b 0) (.pointer (some ⟨R, 0, none⟩)) (undef)), (11, sel (b 1) (.pointer (some ⟨R, 0, none⟩)) (undef)), (12, sel (b 2) (.pointer (some ⟨R, 4, none⟩)) (undef)), (13, sel (b 3) (.int .i64 10) (undef)), (14, sel (b 4) (.pointer (some ⟨R, 0, none⟩)) (undef)), (15, sel (b 5) (.pointer (some ⟨R, 0, none⟩)) (undef)), (16, sel (b 6) (.pointer (some ⟨R, 6, none⟩)) (undef)), (17, sel (b 7) (.int .i64 15) (undef)), (18, sel (b 8) (.int .i64 10) (undef)), (6, sel (b 9) (.int .i64 10) (undef))]) (fun b g w => (b 9 = false → w = w0) ∧ (b 9 = true → ( w = w0))) (()) (by simp only [pu, Nat.reduceAdd, Nat.reduceEqDiff, reduceIte]) (⟨fun _ => rfl, fun h => by cases h⟩) (all_cons ?_ (all_cons ?_ (all_cons ?_ (all_cons ?_ (all_cons ?_ (all_cons ?_ (all_cons ?_ (all_cons ?_ (all_cons ?_ (all_cons ?_ (all_nil))))))))))) ?_
  · intro b g w hI hcl hbi hdp rest hre hkk
    obtain ⟨hwf, hwt⟩ := hI
    replace hbi : b 0 = false := hbi
    have nb1 : b 1 = false := nbf (fun h => hcl 1 (by decide) h 0 (by decide)) hbi
    have nb9 : b 9 = false := nbf (fun h => hcl 9 (by decide) h 0 (by decide)) hbi
    have ewc := (hwf nb9).symm
    subst ewc
    simp only [nb1, nb9, hbi, pu, Nat.reduceAdd, Nat.reduceEqDiff, reduceIte]
    refine F.oq rfl rfl rfl (fun _ => by simp [go_sem]) fun d K hK => ?_; go_simp; refine hK _ ?_; clear hK K d; try walk_nrm
    have hk2 := hkk g _ ⟨fun _ => rfl, fun h => no nb9 h⟩
    simp only [nb1, nb9, hbi, pu, Nat.reduceAdd, Nat.reduceEqDiff, reduceIte] at hk2
    exact hk2
  · intro b g w hI hcl hbi hdp rest hre hkk
    obtain ⟨hwf, hwt⟩ := hI
    replace hbi : b 1 = false := hbi
    have d0 : b 0 = true := hdp 0 (by decide)
    have nb2 : b 2 = false := nbf (fun h => hcl 2 (by decide) h 1 (by decide)) hbi
    have nb9 : b 9 = false := nbf (fun h => hcl 9 (by decide) h 1 (by decide)) hbi
    have ewc := (hwf nb9).symm
    subst ewc
    simp only [d0, nb2, nb9, hbi, pu, Nat.reduceAdd, Nat.reduceEqDiff, reduceIte]
    refine F.oq rfl rfl rfl (fun _ => by simp [go_sem]) fun d K hK => ?_; go_simp; refine hK _ ?_; clear hK K d; try walk_nrm
    have hk2 := hkk g _ ⟨fun _ => rfl, fun h => no nb9 h⟩
    simp only [d0, nb2, nb9, hbi, pu, Nat.reduceAdd, Nat.reduceEqDiff, reduceIte] at hk2
    exact hk2
  · intro b g w hI hcl hbi hdp rest hre hkk
    obtain ⟨hwf, hwt⟩ := hI
    replace hbi : b 2 = false := hbi
    have d1 : b 1 = true := hdp 1 (by decide)
    have d0 : b 0 = true := hcl 1 (by decide) d1 0 (by decide)
    have nb3 : b 3 = false := nbf (fun h => hcl 3 (by decide) h 2 (by decide)) hbi
    have nb9 : b 9 = false := nbf (fun h => hcl 9 (by decide) h 2 (by decide)) hbi
    have ewc := (hwf nb9).symm
    subst ewc
    simp only [d1, d0, nb3, nb9, hbi, pu, Nat.reduceAdd, Nat.reduceEqDiff, reduceIte]
    refine F.oq rfl rfl rfl (fun _ => by simp [go_sem]) fun d K hK => ?_; go_simp; refine hK _ ?_; clear hK K d; try walk_nrm
    have hk2 := hkk g _ ⟨fun _ => rfl, fun h => no nb9 h⟩
    simp only [d1, d0, nb3, nb9, hbi, pu, Nat.reduceAdd, Nat.reduceEqDiff, reduceIte] at hk2
    exact hk2
  · intro b g w hI hcl hbi hdp rest hre hkk
    obtain ⟨hwf, hwt⟩ := hI
    replace hbi : b 3 = false := hbi
    have d2 : b 2 = true := hdp 2 (by decide)
    have d1 : b 1 = true := hcl 2 (by decide) d2 1 (by decide)
    have d0 : b 0 = true := hcl 1 (by decide) d1 0 (by decide)
    have nb8 : b 8 = false := nbf (fun h => hcl 8 (by decide) h 3 (by decide)) hbi
    have nb9 : b 9 = false := nbf (fun h => hcl 9 (by decide) h 3 (by decide)) hbi
    have ewc := (hwf nb9).symm
    subst ewc
    simp only [d2, d1, d0, nb8, nb9, hbi, pu, Nat.reduceAdd, Nat.reduceEqDiff, reduceIte]
    refine F.op rfl rfl (by decide) (fun d K hK => ?_)
    go_simp
    refine hK _ _ ⟨DX.still _ (fun e he => ?_), ?_⟩
    · have hm := mem_listed he
      simp [go_sem, *] at hm
      subst hm
      exact .inl ⟨_, rfl, rfl, by (first | assumption | (apply hfr <;> dsimp only <;> omega) | (apply hok; simp; done)), lt_of_cell (w := w0) (by assumption)⟩
    clear hK K d
    try walk_nrm
    have hk2 := hkk g _ ⟨fun _ => rfl, fun h => no nb9 h⟩
    simp only [d2, d1, d0, nb8, nb9, hbi, pu, Nat.reduceAdd, Nat.reduceEqDiff, reduceIte] at hk2
    exact hk2
  · intro b g w hI hcl hbi hdp rest hre hkk
    obtain ⟨hwf, hwt⟩ := hI
    replace hbi : b 4 = false := hbi
    have nb5 : b 5 = false := nbf (fun h => hcl 5 (by decide) h 4 (by decide)) hbi
    have nb9 : b 9 = false := nbf (fun h => hcl 9 (by decide) h 4 (by decide)) hbi
    have ewc := (hwf nb9).symm
    subst ewc
    simp only [nb5, nb9, hbi, pu, Nat.reduceAdd, Nat.reduceEqDiff, reduceIte]
    refine F.oq rfl rfl rfl (fun _ => by simp [go_sem]) fun d K hK => ?_; go_simp; refine hK _ ?_; clear hK K d; try walk_nrm
    have hk2 := hkk g _ ⟨fun _ => rfl, fun h => no nb9 h⟩
    simp only [nb5, nb9, hbi, pu, Nat.reduceAdd, Nat.reduceEqDiff, reduceIte] at hk2
    exact hk2
  · intro b g w hI hcl hbi hdp rest hre hkk
    obtain ⟨hwf, hwt⟩ := hI
    replace hbi : b 5 = false := hbi
    have d4 : b 4 = true := hdp 4 (by decide)
    have nb6 : b 6 = false := nbf (fun h => hcl 6 (by decide) h 5 (by decide)) hbi
    have nb9 : b 9 = false := nbf (fun h => hcl 9 (by decide) h 5 (by decide)) hbi
    have ewc := (hwf nb9).symm
    subst ewc
    simp only [d4, nb6, nb9, hbi, pu, Nat.reduceAdd, Nat.reduceEqDiff, reduceIte]
    refine F.oq rfl rfl rfl (fun _ => by simp [go_sem]) fun d K hK => ?_; go_simp; refine hK _ ?_; clear hK K d; try walk_nrm
    have hk2 := hkk g _ ⟨fun _ => rfl, fun h => no nb9 h⟩
    simp only [d4, nb6, nb9, hbi, pu, Nat.reduceAdd, Nat.reduceEqDiff, reduceIte] at hk2
    exact hk2
  · intro b g w hI hcl hbi hdp rest hre hkk
    obtain ⟨hwf, hwt⟩ := hI
    replace hbi : b 6 = false := hbi
    have d5 : b 5 = true := hdp 5 (by decide)
    have d4 : b 4 = true := hcl 5 (by decide) d5 4 (by decide)
    have nb7 : b 7 = false := nbf (fun h => hcl 7 (by decide) h 6 (by decide)) hbi
    have nb9 : b 9 = false := nbf (fun h => hcl 9 (by decide) h 6 (by decide)) hbi
    have ewc := (hwf nb9).symm
    subst ewc
    simp only [d5, d4, nb7, nb9, hbi, pu, Nat.reduceAdd, Nat.reduceEqDiff, reduceIte]
    refine F.oq rfl rfl rfl (fun _ => by simp [go_sem]) fun d K hK => ?_; go_simp; refine hK _ ?_; clear hK K d; try walk_nrm
    have hk2 := hkk g _ ⟨fun _ => rfl, fun h => no nb9 h⟩
    simp only [d5, d4, nb7, nb9, hbi, pu, Nat.reduceAdd, Nat.reduceEqDiff, reduceIte] at hk2
    exact hk2
  · intro b g w hI hcl hbi hdp rest hre hkk
    obtain ⟨hwf, hwt⟩ := hI
    replace hbi : b 7 = false := hbi
    have d6 : b 6 = true := hdp 6 (by decide)
    have d5 : b 5 = true := hcl 6 (by decide) d6 5 (by decide)
    have d4 : b 4 = true := hcl 5 (by decide) d5 4 (by decide)
    have nb8 : b 8 = false := nbf (fun h => hcl 8 (by decide) h 7 (by decide)) hbi
    have nb9 : b 9 = false := nbf (fun h => hcl 9 (by decide) h 7 (by decide)) hbi
    have ewc := (hwf nb9).symm
    subst ewc
    simp only [d6, d5, d4, nb8, nb9, hbi, pu, Nat.reduceAdd, Nat.reduceEqDiff, reduceIte]
    refine F.op rfl rfl (by decide) (fun d K hK => ?_)
    go_simp
    refine hK _ _ ⟨DX.still _ (fun e he => ?_), ?_⟩
    · have hm := mem_listed he
      simp [go_sem, *] at hm
      subst hm
      exact .inl ⟨_, rfl, rfl, by (first | assumption | (apply hfr <;> dsimp only <;> omega) | (apply hok; simp; done)), lt_of_cell (w := w0) (by assumption)⟩
    clear hK K d
    try walk_nrm
    have hk2 := hkk g _ ⟨fun _ => rfl, fun h => no nb9 h⟩
    simp only [d6, d5, d4, nb8, nb9, hbi, pu, Nat.reduceAdd, Nat.reduceEqDiff, reduceIte] at hk2
    exact hk2
  · intro b g w hI hcl hbi hdp rest hre hkk
    obtain ⟨hwf, hwt⟩ := hI
    replace hbi : b 8 = false := hbi
    have d3 : b 3 = true := hdp 3 (by decide)
    have d7 : b 7 = true := hdp 7 (by decide)
    have d6 : b 6 = true := hcl 7 (by decide) d7 6 (by decide)
    have d5 : b 5 = true := hcl 6 (by decide) d6 5 (by decide)
    have d4 : b 4 = true := hcl 5 (by decide) d5 4 (by decide)
    have d2 : b 2 = true := hcl 3 (by decide) d3 2 (by decide)
    have d1 : b 1 = true := hcl 2 (by decide) d2 1 (by decide)
    have d0 : b 0 = true := hcl 1 (by decide) d1 0 (by decide)
    have nb9 : b 9 = false := nbf (fun h => hcl 9 (by decide) h 8 (by decide)) hbi
    have ewc := (hwf nb9).symm
    subst ewc
    simp only [d3, d7, d6, d5, d4, d2, d1, d0, nb9, hbi, pu, Nat.reduceAdd, Nat.reduceEqDiff, reduceIte]
    refine F.oq rfl rfl rfl (fun _ => by first | (simp [go_sem]; done) | simp [go_sem, Instr.makeInterface, Instr.makeFunc, *]) fun d K hK => ?_; go_simp; refine hK _ ?_; clear hK K d; try walk_nrm
    have hk2 := hkk g _ ⟨fun _ => rfl, fun h => no nb9 h⟩
    simp only [d3, d7, d6, d5, d4, d2, d1, d0, nb9, hbi, pu, Nat.reduceAdd, Nat.reduceEqDiff, reduceIte] at hk2
    exact hk2
  · intro b g w hI hcl hbi hdp rest hre hkk
    obtain ⟨hwf, hwt⟩ := hI
    replace hbi : b 9 = false := hbi
    have d0 : b 0 = true := hdp 0 (by decide)
    have d1 : b 1 = true := hdp 1 (by decide)
    have d2 : b 2 = true := hdp 2 (by decide)
    have d3 : b 3 = true := hdp 3 (by decide)
    have d4 : b 4 = true := hdp 4 (by decide)
    have d5 : b 5 = true := hdp 5 (by decide)
    have d6 : b 6 = true := hdp 6 (by decide)
    have d7 : b 7 = true := hdp 7 (by decide)
    have d8 : b 8 = true := hdp 8 (by decide)
    have ewc := (hwf hbi).symm
    subst ewc
    simp only [d0, d1, d2, d3, d4, d5, d6, d7, d8, hbi, pu, Nat.reduceAdd, Nat.reduceEqDiff, reduceIte]
    refine F.oq rfl rfl rfl (fun _ => by simp [go_sem]) fun d K hK => ?_; go_simp; refine hK _ ?_; clear hK K d; try walk_nrm
    have hk2 := hkk g _ ⟨fun h => by simp [tick] at h, fun _ => rfl⟩
    simp only [d0, d1, d2, d3, d4, d5, d6, d7, d8, hbi, pu, Nat.reduceAdd, Nat.reduceEqDiff, reduceIte] at hk2
    exact hk2
  intro b g w hI hall
  obtain ⟨hwf, hwt⟩ := hI
  simp only [hall 0 (by decide), hall 1 (by decide), hall 2 (by decide), hall 3 (by decide), hall 4 (by decide), hall 5 (by decide), hall 6 (by decide), hall 7 (by decide), hall 8 (by decide), hall 9 (by decide), pu, Nat.reduceAdd, Nat.reduceEqDiff, reduceIte]
  have ewf := (hwt (hall 9 (by decide))).symm
  subst ewf
  clear hwf hwt hall g b
  clear x0 x1 x2 x3 x4 x5 x6
  have r0 : Ru e HD w0 en ev w0 en ev := Ru.refl
  refine F.esr ?_
  simp only [rg, Nat.reduceAdd]
  refine F.oq rfl rfl rfl (fun _ => by simp [go_sem]) fun d K hK => ?_; go_simp; refine hK _ ?_; clear hK K d; try walk_nrm
  refine F.re ?_
  refine F.bl ?_
  refine F.ctl (fun _ => stepG_loop) ?_
  obtain ⟨x0, x1, x2, x3, x4, x5, x6⟩ := id X
  refine F.sq ?_
  refine F.bl ?_
  refine F.sr ?_
  simp only [rg, Nat.reduceAdd]
  iterate 4 (refine F.oq rfl rfl rfl (fun _ => by simp [go_sem]) fun d K hK => ?_; go_simp; refine hK _ ?_; clear hK K d; try walk_nrm)
  refine F.op rfl rfl (by decide) (fun d K hK => ?_)
  go_simp
  refine hK _ _ ⟨DX.still _ (fun e he => ?_), ?_⟩
  · have hm := mem_listed he
    simp [go_sem, *] at hm
    subst hm
    exact .inl ⟨_, rfl, rfl, by (first | assumption | (apply hfr <;> dsimp only <;> omega) | (apply hok; simp; done)), lt_of_cell (w := w0) (by assumption)⟩
  clear hK K d
  try walk_nrm
  refine F.oq rfl rfl rfl (fun _ => by simp [go_sem]) fun d K hK => ?_; go_simp; refine hK _ ?_; clear hK K d; try walk_nrm
  refine F.invoke rfl rfl (by decide) rfl rfl (mEnter138 _) (mEnter138e _) Tryz.func146 (by rfl) (by rfl) ?_
  walk_nrm
  refine bE_w e K hcl 0 1 2 en ev 0 B HD C TB 3 0 turns3 w0 H (by omega) S Q (by omega) (by decide) rfl rfl rfl (by decide) (by decide) Ψ0 Ψ1 W _ _ (fun v w11 hp => ?_)
  obtain ⟨en1, ev1, H1, Q1, r1, q, rfl, hq1, hq2, hq3, hq4, c0, c1, c2, c3⟩ := hp
  have X1 := X.ru r1 H hR hR1 hR2 hR3 hR4
  have r0 := r0.trans r1
  have hs1 := r1.kp.size
  clear H Q X r1 x0 x1 x2 x3 x4 x5 x6
  rename CW e w11 _ en1 ev1 _ => H
  rename Bk e B HD C TB 3 turns3 w11 _ => Q
  rename Rt e R B w11 => X
  obtain ⟨x0, x1, x2, x3, x4, x5, x6⟩ := id X
  rw [Frame.finish_at]
  try walk_nrm
  iterate 5 (refine F.oq rfl rfl rfl (fun _ => by simp [go_sem]) fun d K hK => ?_; go_simp; refine hK _ ?_; clear hK K d; try walk_nrm)
  refine F.es ?_
  refine F.sr ?_
  simp only [rg, Nat.reduceAdd]
  iterate 4 (refine F.oq rfl rfl rfl (fun _ => by first | (simp [go_sem]; done) | simp [go_sem, Instr.makeInterface, Instr.makeFunc, *]) fun d K hK => ?_; go_simp; refine hK _ ?_; clear hK K d; try walk_nrm)
  refine F.enter rfl rfl (by decide) (fun _ => run_call_body rfl Tryz.func158 (by rfl) (by rfl)) (fun _ => events_call_body rfl Tryz.func158 (by rfl) (by rfl) _) ?_
  walk_nrm
  refine hopeless_x q w11 c0 c3 (hfr _ _ (by dsimp only; omega)) (hfr _ _ (by dsimp only; omega)) _ F _ _ (fun v wq hp => ?_)
  obtain ⟨rfl, hq⟩ := hp
  have hq := hq.symm
  subst hq
  rw [Frame.finish_at]
  try walk_nrm
  refine F.oq rfl rfl rfl (fun _ => by simp [go_sem]) fun d K hK => ?_; go_simp; refine hK _ ?_; clear hK K d; try walk_nrm
  refine F.re ?_
  refine F.cf rfl ?_
  refine F.sk ?_
  refine F.sq ?_
  refine F.sr ?_
  simp only [rg, Nat.reduceAdd]
  iterate 4 (refine F.oq rfl rfl rfl (fun _ => by simp [go_sem]) fun d K hK => ?_; go_simp; refine hK _ ?_; clear hK K d; try walk_nrm)
  refine F.op rfl rfl (by decide) (fun d K hK => ?_)
  go_simp
  refine hK _ _ ⟨DX.still _ (fun e he => ?_), ?_⟩
  · have hm := mem_listed he
    simp [go_sem, *] at hm
    subst hm
    exact .inl ⟨_, rfl, rfl, by (first | assumption | (apply hfr <;> dsimp only <;> omega) | (apply hok; simp; done)), lt_of_cell (w := w11) (by assumption)⟩
  clear hK K d
  try walk_nrm
  refine F.oq rfl rfl rfl (fun _ => by simp [go_sem]) fun d K hK => ?_; go_simp; refine hK _ ?_; clear hK K d; try walk_nrm
  refine F.re ?_
  refine F.cf rfl ?_
  refine F.sk ?_
  refine F.sq ?_
  refine F.sr ?_
  simp only [rg, Nat.reduceAdd]
  iterate 3 (refine F.oq rfl rfl rfl (fun _ => by simp [go_sem]) fun d K hK => ?_; go_simp; refine hK _ ?_; clear hK K d; try walk_nrm)
  refine F.enter rfl rfl (by decide) (fun _ => run_call_body rfl Tryz.func157 (by rfl) (by rfl)) (fun _ => events_call_body rfl Tryz.func157 (by rfl) (by rfl) _) ?_
  walk_nrm
  refine rest_w e K 2 10 0 en1 ev1 2 R HD w11 H (by omega) hR (Ne.symm hR1) x1 x2 oR (by decide) rfl (by decide) Ψ0 Ψ1 W _ _ (fun v w12 hp => ?_)
  obtain ⟨rfl, en1b, ev1b, H1b, r1b, hhad⟩ := hp
  have Q1b := Q.ru S r1b H (hhad _ S.lH S.bH.1 S.bH.2.1 S.bH.2.2 Q.h0 Q.zh).1 (hhad _ S.lH S.bH.1 S.bH.2.1 S.bH.2.2 Q.h0 Q.zh).2
  have X1b := X.ru r1b H hR hR1 hR2 hR3 hR4
  have r0 := r0.trans r1b
  have hs1b := r1b.kp.size
  clear H Q X r1b x0 x1 x2 x3 x4 x5 x6 hhad c0 c1 c2 c3 hq1 hq2 hq3 hq4
  rename CW e w12 _ en1b ev1b _ => H
  rename Bk e B HD C TB 3 turns3 w12 _ => Q
  rename Rt e R B w12 => X
  obtain ⟨x0, x1, x2, x3, x4, x5, x6⟩ := id X
  rw [Frame.finish_at]
  try walk_nrm
  refine F.oq rfl rfl rfl (fun _ => by simp [go_sem]) fun d K hK => ?_; go_simp; refine hK _ ?_; clear hK K d; try walk_nrm
  refine F.re ?_
  refine F.cf rfl ?_
  refine F.sk ?_
  refine F.drawA (γ := Unit) (n := 12) mixed [[], [], [1], [2], [3], [0, 4], [], [6], [7], [8], [5, 9], [0, 1, 2, 3, 4, 5, 6, 7, 8, 9, 10]] rfl (by kernel_rfl) (fun b g => [(69, sel (b 0) (.int .i64 10) (undef)), (70, sel (b 1) (.pointer (some ⟨R, 0, none⟩)) (undef)), (71, sel (b 2) (.pointer (some ⟨R, 0, none⟩)) (undef)), (72, sel (b 3) (.pointer (some ⟨R, 5, none⟩)) (undef)), (73, sel (b 4) (.int .i64 2) (undef)), (74, sel (b 5) (.int .i64 20) (undef)), (75, sel (b 6) (.pointer (some ⟨R, 0, none⟩)) (undef)), (76, sel (b 7) (.pointer (some ⟨R, 0, none⟩)) (undef)), (77, sel (b 8) (.pointer (some ⟨R, 6, none⟩)) (undef)), (78, sel (b 9) (.int .i64 15) (undef)), (79, sel (b 10) (.int .i64 15) (undef)), (6, sel (b 11) (.int .i64 15) (.int .i64 10))]) (fun b g w => (b 11 = false → w = w12) ∧ (b 11 = true → ( w = w12))) (()) (by simp only [pu, Nat.reduceAdd, Nat.reduceEqDiff, reduceIte]) (⟨fun _ => rfl, fun h => by cases h⟩) (all_cons ?_ (all_cons ?_ (all_cons ?_ (all_cons ?_ (all_cons ?_ (all_cons ?_ (all_cons ?_ (all_cons ?_ (all_cons ?_ (all_cons ?_ (all_cons ?_ (all_cons ?_ (all_nil))))))))))))) ?_
  · intro b g w hI hcl hbi hdp rest hre hkk
    obtain ⟨hwf, hwt⟩ := hI
    replace hbi : b 0 = false := hbi
    have nb5 : b 5 = false := nbf (fun h => hcl 5 (by decide) h 0 (by decide)) hbi
    have nb11 : b 11 = false := nbf (fun h => hcl 11 (by decide) h 0 (by decide)) hbi
    have ewc := (hwf nb11).symm
    subst ewc
    simp only [nb5, nb11, hbi, pu, Nat.reduceAdd, Nat.reduceEqDiff, reduceIte]
    refine F.oq rfl rfl rfl (fun _ => by simp [go_sem]) fun d K hK => ?_; go_simp; refine hK _ ?_; clear hK K d; try walk_nrm
    have hk2 := hkk g _ ⟨fun _ => rfl, fun h => no nb11 h⟩
    simp only [nb5, nb11, hbi, pu, Nat.reduceAdd, Nat.reduceEqDiff, reduceIte] at hk2
    exact hk2
  · intro b g w hI hcl hbi hdp rest hre hkk
    obtain ⟨hwf, hwt⟩ := hI
    replace hbi : b 1 = false := hbi
    have nb2 : b 2 = false := nbf (fun h => hcl 2 (by decide) h 1 (by decide)) hbi
    have nb11 : b 11 = false := nbf (fun h => hcl 11 (by decide) h 1 (by decide)) hbi
    have ewc := (hwf nb11).symm
    subst ewc
    simp only [nb2, nb11, hbi, pu, Nat.reduceAdd, Nat.reduceEqDiff, reduceIte]
    refine F.oq rfl rfl rfl (fun _ => by simp [go_sem]) fun d K hK => ?_; go_simp; refine hK _ ?_; clear hK K d; try walk_nrm
    have hk2 := hkk g _ ⟨fun _ => rfl, fun h => no nb11 h⟩
    simp only [nb2, nb11, hbi, pu, Nat.reduceAdd, Nat.reduceEqDiff, reduceIte] at hk2
    exact hk2
  · intro b g w hI hcl hbi hdp rest hre hkk
    obtain ⟨hwf, hwt⟩ := hI
    replace hbi : b 2 = false := hbi
    have d1 : b 1 = true := hdp 1 (by decide)
    have nb3 : b 3 = false := nbf (fun h => hcl 3 (by decide) h 2 (by decide)) hbi
    have nb11 : b 11 = false := nbf (fun h => hcl 11 (by decide) h 2 (by decide)) hbi
    have ewc := (hwf nb11).symm
    subst ewc
    simp only [d1, nb3, nb11, hbi, pu, Nat.reduceAdd, Nat.reduceEqDiff, reduceIte]
    refine F.oq rfl rfl rfl (fun _ => by simp [go_sem]) fun d K hK => ?_; go_simp; refine hK _ ?_; clear hK K d; try walk_nrm
    have hk2 := hkk g _ ⟨fun _ => rfl, fun h => no nb11 h⟩
    simp only [d1, nb3, nb11, hbi, pu, Nat.reduceAdd, Nat.reduceEqDiff, reduceIte] at hk2
    exact hk2
  · intro b g w hI hcl hbi hdp rest hre hkk
    obtain ⟨hwf, hwt⟩ := hI
    replace hbi : b 3 = false := hbi
    have d2 : b 2 = true := hdp 2 (by decide)
    have d1 : b 1 = true := hcl 2 (by decide) d2 1 (by decide)
    have nb4 : b 4 = false := nbf (fun h => hcl 4 (by decide) h 3 (by decide)) hbi
    have nb11 : b 11 = false := nbf (fun h => hcl 11 (by decide) h 3 (by decide)) hbi
    have ewc := (hwf nb11).symm
    subst ewc
    simp only [d2, d1, nb4, nb11, hbi, pu, Nat.reduceAdd, Nat.reduceEqDiff, reduceIte]
    refine F.oq rfl rfl rfl (fun _ => by simp [go_sem]) fun d K hK => ?_; go_simp; refine hK _ ?_; clear hK K d; try walk_nrm
    have hk2 := hkk g _ ⟨fun _ => rfl, fun h => no nb11 h⟩
    simp only [d2, d1, nb4, nb11, hbi, pu, Nat.reduceAdd, Nat.reduceEqDiff, reduceIte] at hk2
    exact hk2
  · intro b g w hI hcl hbi hdp rest hre hkk
    obtain ⟨hwf, hwt⟩ := hI
    replace hbi : b 4 = false := hbi
    have d3 : b 3 = true := hdp 3 (by decide)
    have d2 : b 2 = true := hcl 3 (by decide) d3 2 (by decide)
    have d1 : b 1 = true := hcl 2 (by decide) d2 1 (by decide)
    have nb5 : b 5 = false := nbf (fun h => hcl 5 (by decide) h 4 (by decide)) hbi
    have nb11 : b 11 = false := nbf (fun h => hcl 11 (by decide) h 4 (by decide)) hbi
    have ewc := (hwf nb11).symm
    subst ewc
    simp only [d3, d2, d1, nb5, nb11, hbi, pu, Nat.reduceAdd, Nat.reduceEqDiff, reduceIte]
    refine F.op rfl rfl (by decide) (fun d K hK => ?_)
    go_simp
    refine hK _ _ ⟨DX.still _ (fun e he => ?_), ?_⟩
    · have hm := mem_listed he
      simp [go_sem, *] at hm
      subst hm
      exact .inl ⟨_, rfl, rfl, by (first | assumption | (apply hfr <;> dsimp only <;> omega) | (apply hok; simp; done)), lt_of_cell (w := w12) (by assumption)⟩
    clear hK K d
    try walk_nrm
    have hk2 := hkk g _ ⟨fun _ => rfl, fun h => no nb11 h⟩
    simp only [d3, d2, d1, nb5, nb11, hbi, pu, Nat.reduceAdd, Nat.reduceEqDiff, reduceIte] at hk2
    exact hk2
  · intro b g w hI hcl hbi hdp rest hre hkk
    obtain ⟨hwf, hwt⟩ := hI
    replace hbi : b 5 = false := hbi
    have d0 : b 0 = true := hdp 0 (by decide)
    have d4 : b 4 = true := hdp 4 (by decide)
    have d3 : b 3 = true := hcl 4 (by decide) d4 3 (by decide)
    have d2 : b 2 = true := hcl 3 (by decide) d3 2 (by decide)
    have d1 : b 1 = true := hcl 2 (by decide) d2 1 (by decide)
    have nb10 : b 10 = false := nbf (fun h => hcl 10 (by decide) h 5 (by decide)) hbi
    have nb11 : b 11 = false := nbf (fun h => hcl 11 (by decide) h 5 (by decide)) hbi
    have ewc := (hwf nb11).symm
    subst ewc
    simp only [d0, d4, d3, d2, d1, nb10, nb11, hbi, pu, Nat.reduceAdd, Nat.reduceEqDiff, reduceIte]
    refine F.oq rfl rfl rfl (fun _ => by simp [go_sem]) fun d K hK => ?_; go_simp; refine hK _ ?_; clear hK K d; try walk_nrm
    have hk2 := hkk g _ ⟨fun _ => rfl, fun h => no nb11 h⟩
    simp only [d0, d4, d3, d2, d1, nb10, nb11, hbi, pu, Nat.reduceAdd, Nat.reduceEqDiff, reduceIte] at hk2
    exact hk2
  · intro b g w hI hcl hbi hdp rest hre hkk
    obtain ⟨hwf, hwt⟩ := hI
    replace hbi : b 6 = false := hbi
    have nb7 : b 7 = false := nbf (fun h => hcl 7 (by decide) h 6 (by decide)) hbi
    have nb11 : b 11 = false := nbf (fun h => hcl 11 (by decide) h 6 (by decide)) hbi
    have ewc := (hwf nb11).symm
    subst ewc
    simp only [nb7, nb11, hbi, pu, Nat.reduceAdd, Nat.reduceEqDiff, reduceIte]
    refine F.oq rfl rfl rfl (fun _ => by simp [go_sem]) fun d K hK => ?_; go_simp; refine hK _ ?_; clear hK K d; try walk_nrm
    have hk2 := hkk g _ ⟨fun _ => rfl, fun h => no nb11 h⟩
    simp only [nb7, nb11, hbi, pu, Nat.reduceAdd, Nat.reduceEqDiff, reduceIte] at hk2
    exact hk2
  · intro b g w hI hcl hbi hdp rest hre hkk
    obtain ⟨hwf, hwt⟩ := hI
    replace hbi : b 7 = false := hbi
    have d6 : b 6 = true := hdp 6 (by decide)
    have nb8 : b 8 = false := nbf (fun h => hcl 8 (by decide) h 7 (by decide)) hbi
    have nb11 : b 11 = false := nbf (fun h => hcl 11 (by decide) h 7 (by decide)) hbi
    have ewc := (hwf nb11).symm
    subst ewc
    simp only [d6, nb8, nb11, hbi, pu, Nat.reduceAdd, Nat.reduceEqDiff, reduceIte]
    refine F.oq rfl rfl rfl (fun _ => by simp [go_sem]) fun d K hK => ?_; go_simp; refine hK _ ?_; clear hK K d; try walk_nrm
    have hk2 := hkk g _ ⟨fun _ => rfl, fun h => no nb11 h⟩
    simp only [d6, nb8, nb11, hbi, pu, Nat.reduceAdd, Nat.reduceEqDiff, reduceIte] at hk2
    exact hk2
  · intro b g w hI hcl hbi hdp rest hre hkk
    obtain ⟨hwf, hwt⟩ := hI
    replace hbi : b 8 = false := hbi
    have d7 : b 7 = true := hdp 7 (by decide)
    have d6 : b 6 = true := hcl 7 (by decide) d7 6 (by decide)
    have nb9 : b 9 = false := nbf (fun h => hcl 9 (by decide) h 8 (by decide)) hbi
    have nb11 : b 11 = false := nbf (fun h => hcl 11 (by decide) h 8 (by decide)) hbi
    have ewc := (hwf nb11).symm
    subst ewc
    simp only [d7, d6, nb9, nb11, hbi, pu, Nat.reduceAdd, Nat.reduceEqDiff, reduceIte]
    refine F.oq rfl rfl rfl (fun _ => by simp [go_sem]) fun d K hK => ?_; go_simp; refine hK _ ?_; clear hK K d; try walk_nrm
    have hk2 := hkk g _ ⟨fun _ => rfl, fun h => no nb11 h⟩
    simp only [d7, d6, nb9, nb11, hbi, pu, Nat.reduceAdd, Nat.reduceEqDiff, reduceIte] at hk2
    exact hk2
  · intro b g w hI hcl hbi hdp rest hre hkk
    obtain ⟨hwf, hwt⟩ := hI
    replace hbi : b 9 = false := hbi
    have d8 : b 8 = true := hdp 8 (by decide)
    have d7 : b 7 = true := hcl 8 (by decide) d8 7 (by decide)
    have d6 : b 6 = true := hcl 7 (by decide) d7 6 (by decide)
    have nb10 : b 10 = false := nbf (fun h => hcl 10 (by decide) h 9 (by decide)) hbi
    have nb11 : b 11 = false := nbf (fun h => hcl 11 (by decide) h 9 (by decide)) hbi
    have ewc := (hwf nb11).symm
    subst ewc
    simp only [d8, d7, d6, nb10, nb11, hbi, pu, Nat.reduceAdd, Nat.reduceEqDiff, reduceIte]
    refine F.op rfl rfl (by decide) (fun d K hK => ?_)
    go_simp
    refine hK _ _ ⟨DX.still _ (fun e he => ?_), ?_⟩
    · have hm := mem_listed he
      simp [go_sem, *] at hm
      subst hm
      exact .inl ⟨_, rfl, rfl, by (first | assumption | (apply hfr <;> dsimp only <;> omega) | (apply hok; simp; done)), lt_of_cell (w := w12) (by assumption)⟩
    clear hK K d
    try walk_nrm
    have hk2 := hkk g _ ⟨fun _ => rfl, fun h => no nb11 h⟩
    simp only [d8, d7, d6, nb10, nb11, hbi, pu, Nat.reduceAdd, Nat.reduceEqDiff, reduceIte] at hk2
    exact hk2
  · intro b g w hI hcl hbi hdp rest hre hkk
    obtain ⟨hwf, hwt⟩ := hI
    replace hbi : b 10 = false := hbi
    have d5 : b 5 = true := hdp 5 (by decide)
    have d9 : b 9 = true := hdp 9 (by decide)
    have d8 : b 8 = true := hcl 9 (by decide) d9 8 (by decide)
    have d7 : b 7 = true := hcl 8 (by decide) d8 7 (by decide)
    have d6 : b 6 = true := hcl 7 (by decide) d7 6 (by decide)
    have d0 : b 0 = true := hcl 5 (by decide) d5 0 (by decide)
    have d4 : b 4 = true := hcl 5 (by decide) d5 4 (by decide)
    have d3 : b 3 = true := hcl 4 (by decide) d4 3 (by decide)
    have d2 : b 2 = true := hcl 3 (by decide) d3 2 (by decide)
    have d1 : b 1 = true := hcl 2 (by decide) d2 1 (by decide)
    have nb11 : b 11 = false := nbf (fun h => hcl 11 (by decide) h 10 (by decide)) hbi
    have ewc := (hwf nb11).symm
    subst ewc
    simp only [d5, d9, d8, d7, d6, d0, d4, d3, d2, d1, nb11, hbi, pu, Nat.reduceAdd, Nat.reduceEqDiff, reduceIte]
    refine F.oq rfl rfl rfl (fun _ => by first | (simp [go_sem]; done) | simp [go_sem, Instr.makeInterface, Instr.makeFunc, *]) fun d K hK => ?_; go_simp; refine hK _ ?_; clear hK K d; try walk_nrm
    have hk2 := hkk g _ ⟨fun _ => rfl, fun h => no nb11 h⟩
    simp only [d5, d9, d8, d7, d6, d0, d4, d3, d2, d1, nb11, hbi, pu, Nat.reduceAdd, Nat.reduceEqDiff, reduceIte] at hk2
    exact hk2
  · intro b g w hI hcl hbi hdp rest hre hkk
    obtain ⟨hwf, hwt⟩ := hI
    replace hbi : b 11 = false := hbi
    have d0 : b 0 = true := hdp 0 (by decide)
    have d1 : b 1 = true := hdp 1 (by decide)
    have d2 : b 2 = true := hdp 2 (by decide)
    have d3 : b 3 = true := hdp 3 (by decide)
    have d4 : b 4 = true := hdp 4 (by decide)
    have d5 : b 5 = true := hdp 5 (by decide)
    have d6 : b 6 = true := hdp 6 (by decide)
    have d7 : b 7 = true := hdp 7 (by decide)
    have d8 : b 8 = true := hdp 8 (by decide)
    have d9 : b 9 = true := hdp 9 (by decide)
    have d10 : b 10 = true := hdp 10 (by decide)
    have ewc := (hwf hbi).symm
    subst ewc
    simp only [d0, d1, d2, d3, d4, d5, d6, d7, d8, d9, d10, hbi, pu, Nat.reduceAdd, Nat.reduceEqDiff, reduceIte]
    refine F.oq rfl rfl rfl (fun _ => by simp [go_sem]) fun d K hK => ?_; go_simp; refine hK _ ?_; clear hK K d; try walk_nrm
    have hk2 := hkk g _ ⟨fun h => by simp [tick] at h, fun _ => rfl⟩
    simp only [d0, d1, d2, d3, d4, d5, d6, d7, d8, d9, d10, hbi, pu, Nat.reduceAdd, Nat.reduceEqDiff, reduceIte] at hk2
    exact hk2
  intro b g w hI hall
  obtain ⟨hwf, hwt⟩ := hI
  simp only [hall 0 (by decide), hall 1 (by decide), hall 2 (by decide), hall 3 (by decide), hall 4 (by decide), hall 5 (by decide), hall 6 (by decide), hall 7 (by decide), hall 8 (by decide), hall 9 (by decide), hall 10 (by decide), hall 11 (by decide), pu, Nat.reduceAdd, Nat.reduceEqDiff, reduceIte]
  have ewf := (hwt (hall 11 (by decide))).symm
  subst ewf
  clear hwf hwt hall g b
  clear x0 x1 x2 x3 x4 x5 x6
  refine F.re ?_
  refine F.ib ?_
  refine F.rr ?_
  simp only [rg, Nat.reduceAdd]
  iterate 3 (refine F.oq rfl rfl rfl (fun _ => by simp [go_sem]) fun d K hK => ?_; go_simp; refine hK _ ?_; clear hK K d; try walk_nrm)
  refine F.re ?_
  refine F.ctl (fun _ => stepG_inLoop) ?_
  obtain ⟨x0, x1, x2, x3, x4, x5, x6⟩ := id X
  refine F.sq ?_
  refine F.bl ?_
  refine F.sr ?_
  simp only [rg, Nat.reduceAdd]
  iterate 4 (refine F.oq rfl rfl rfl (fun _ => by simp [go_sem]) fun d K hK => ?_; go_simp; refine hK _ ?_; clear hK K d; try walk_nrm)
  refine F.op rfl rfl (by decide) (fun d K hK => ?_)
  go_simp
  refine hK _ _ ⟨DX.still _ (fun e he => ?_), ?_⟩
  · have hm := mem_listed he
    simp [go_sem, *] at hm
    subst hm
    exact .inl ⟨_, rfl, rfl, by (first | assumption | (apply hfr <;> dsimp only <;> omega) | (apply hok; simp; done)), lt_of_cell (w := w12) (by assumption)⟩
  clear hK K d
  try walk_nrm
  refine F.oq rfl rfl rfl (fun _ => by simp [go_sem]) fun d K hK => ?_; go_simp; refine hK _ ?_; clear hK K d; try walk_nrm
  refine F.invoke rfl rfl (by decide) rfl rfl (mEnter138 _) (mEnter138e _) Tryz.func146 (by rfl) (by rfl) ?_
  walk_nrm
  refine bF_w e K hcl 12 2 0 en1b ev1b 3 B HD C TB 3 1 turns3 w12 H (by omega) S Q (by omega) (by decide) rfl rfl rfl Ψ0 Ψ1 W _ _ (fun v w21 hp => ?_)
  obtain ⟨en2, ev2, H2, Q2, r2, q, rfl, hq1, hq2, hq3, hq4, c0, c1, c2, c3⟩ := hp
  have X2 := X.ru r2 H hR hR1 hR2 hR3 hR4
  have r0 := r0.trans r2
  have hs2 := r2.kp.size
  clear H Q X r2 x0 x1 x2 x3 x4 x5 x6
  rename CW e w21 _ en2 ev2 _ => H
  rename Bk e B HD C TB 3 turns3 w21 _ => Q
  rename Rt e R B w21 => X
  obtain ⟨x0, x1, x2, x3, x4, x5, x6⟩ := id X
  rw [Frame.finish_at]
  try walk_nrm
  iterate 5 (refine F.oq rfl rfl rfl (fun _ => by simp [go_sem]) fun d K hK => ?_; go_simp; refine hK _ ?_; clear hK K d; try walk_nrm)
  refine F.es ?_
  refine F.sr ?_
  simp only [rg, Nat.reduceAdd]
  iterate 4 (refine F.oq rfl rfl rfl (fun _ => by first | (simp [go_sem]; done) | simp [go_sem, Instr.makeInterface, Instr.makeFunc, *]) fun d K hK => ?_; go_simp; refine hK _ ?_; clear hK K d; try walk_nrm)
  refine F.enter rfl rfl (by decide) (fun _ => run_call_body rfl Tryz.func158 (by rfl) (by rfl)) (fun _ => events_call_body rfl Tryz.func158 (by rfl) (by rfl) _) ?_
  walk_nrm
  refine hopeless_x q w21 c0 c3 (hfr _ _ (by dsimp only; omega)) (hfr _ _ (by dsimp only; omega)) _ F _ _ (fun v wq hp => ?_)
  obtain ⟨rfl, hq⟩ := hp
  have hq := hq.symm
  subst hq
  rw [Frame.finish_at]
  try walk_nrm
  refine F.oq rfl rfl rfl (fun _ => by simp [go_sem]) fun d K hK => ?_; go_simp; refine hK _ ?_; clear hK K d; try walk_nrm
  refine F.re ?_
  refine F.cf rfl ?_
  refine F.sk ?_
  refine F.sq ?_
  refine F.sr ?_
  simp only [rg, Nat.reduceAdd]
  iterate 4 (refine F.oq rfl rfl rfl (fun _ => by simp [go_sem]) fun d K hK => ?_; go_simp; refine hK _ ?_; clear hK K d; try walk_nrm)
  refine F.op rfl rfl (by decide) (fun d K hK => ?_)
  go_simp
  refine hK _ _ ⟨DX.still _ (fun e he => ?_), ?_⟩
  · have hm := mem_listed he
    simp [go_sem, *] at hm
    subst hm
    exact .inl ⟨_, rfl, rfl, by (first | assumption | (apply hfr <;> dsimp only <;> omega) | (apply hok; simp; done)), lt_of_cell (w := w21) (by assumption)⟩
  clear hK K d
  try walk_nrm
  refine F.oq rfl rfl rfl (fun _ => by simp [go_sem]) fun d K hK => ?_; go_simp; refine hK _ ?_; clear hK K d; try walk_nrm
  refine F.re ?_
  refine F.cf rfl ?_
  refine F.sk ?_
  refine F.sq ?_
  refine F.sr ?_
  simp only [rg, Nat.reduceAdd]
  iterate 3 (refine F.oq rfl rfl rfl (fun _ => by simp [go_sem]) fun d K hK => ?_; go_simp; refine hK _ ?_; clear hK K d; try walk_nrm)
  refine F.enter rfl rfl (by decide) (fun _ => run_call_body rfl Tryz.func157 (by rfl) (by rfl)) (fun _ => events_call_body rfl Tryz.func157 (by rfl) (by rfl) _) ?_
  walk_nrm
  refine rest_w e K 12 15 0 en2 ev2 5 R HD w21 H (by omega) hR (Ne.symm hR1) x1 x2 oR (by decide) rfl (by decide) Ψ0 Ψ1 W _ _ (fun v w22 hp => ?_)
  obtain ⟨rfl, en2b, ev2b, H2b, r2b, hhad⟩ := hp
  have Q2b := Q.ru S r2b H (hhad _ S.lH S.bH.1 S.bH.2.1 S.bH.2.2 Q.h0 Q.zh).1 (hhad _ S.lH S.bH.1 S.bH.2.1 S.bH.2.2 Q.h0 Q.zh).2
  have X2b := X.ru r2b H hR hR1 hR2 hR3 hR4
  have r0 := r0.trans r2b
  have hs2b := r2b.kp.size
  clear H Q X r2b x0 x1 x2 x3 x4 x5 x6 hhad c0 c1 c2 c3 hq1 hq2 hq3 hq4
  rename CW e w22 _ en2b ev2b _ => H
  rename Bk e B HD C TB 3 turns3 w22 _ => Q
  rename Rt e R B w22 => X
  obtain ⟨x0, x1, x2, x3, x4, x5, x6⟩ := id X
  rw [Frame.finish_at]
  try walk_nrm
  refine F.oq rfl rfl rfl (fun _ => by simp [go_sem]) fun d K hK => ?_; go_simp; refine hK _ ?_; clear hK K d; try walk_nrm
  refine F.re ?_
  refine F.cf rfl ?_
  refine F.sk ?_
  refine F.drawA (γ := Unit) (n := 12) mixed [[], [], [1], [2], [3], [0, 4], [], [6], [7], [8], [5, 9], [0, 1, 2, 3, 4, 5, 6, 7, 8, 9, 10]] rfl (by kernel_rfl) (fun b g => [(69, sel (b 0) (.int .i64 15) (.int .i64 10)), (70, sel (b 1) (.pointer (some ⟨R, 0, none⟩)) (.pointer (some ⟨R, 0, none⟩))), (71, sel (b 2) (.pointer (some ⟨R, 0, none⟩)) (.pointer (some ⟨R, 0, none⟩))), (72, sel (b 3) (.pointer (some ⟨R, 5, none⟩)) (.pointer (some ⟨R, 5, none⟩))), (73, sel (b 4) (.int .i64 2) (.int .i64 2)), (74, sel (b 5) (.int .i64 30) (.int .i64 20)), (75, sel (b 6) (.pointer (some ⟨R, 0, none⟩)) (.pointer (some ⟨R, 0, none⟩))), (76, sel (b 7) (.pointer (some ⟨R, 0, none⟩)) (.pointer (some ⟨R, 0, none⟩))), (77, sel (b 8) (.pointer (some ⟨R, 6, none⟩)) (.pointer (some ⟨R, 6, none⟩))), (78, sel (b 9) (.int .i64 15) (.int .i64 15)), (79, sel (b 10) (.int .i64 15) (.int .i64 15)), (6, sel (b 11) (.int .i64 15) (.int .i64 15))]) (fun b g w => (b 11 = false → w = w22) ∧ (b 11 = true → ( w = w22))) (()) (by simp only [pu, Nat.reduceAdd, Nat.reduceEqDiff, reduceIte]) (⟨fun _ => rfl, fun h => by cases h⟩) (all_cons ?_ (all_cons ?_ (all_cons ?_ (all_cons ?_ (all_cons ?_ (all_cons ?_ (all_cons ?_ (all_cons ?_ (all_cons ?_ (all_cons ?_ (all_cons ?_ (all_cons ?_ (all_nil))))))))))))) ?_
  · intro b g w hI hcl hbi hdp rest hre hkk
    obtain ⟨hwf, hwt⟩ := hI
    replace hbi : b 0 = false := hbi
    have nb5 : b 5 = false := nbf (fun h => hcl 5 (by decide) h 0 (by decide)) hbi
    have nb11 : b 11 = false := nbf (fun h => hcl 11 (by decide) h 0 (by decide)) hbi
    have ewc := (hwf nb11).symm
    subst ewc
    simp only [nb5, nb11, hbi, pu, Nat.reduceAdd, Nat.reduceEqDiff, reduceIte]
    refine F.oq rfl rfl rfl (fun _ => by simp [go_sem]) fun d K hK => ?_; go_simp; refine hK _ ?_; clear hK K d; try walk_nrm
    have hk2 := hkk g _ ⟨fun _ => rfl, fun h => no nb11 h⟩
    simp only [nb5, nb11, hbi, pu, Nat.reduceAdd, Nat.reduceEqDiff, reduceIte] at hk2
    exact hk2
  · intro b g w hI hcl hbi hdp rest hre hkk
    obtain ⟨hwf, hwt⟩ := hI
    replace hbi : b 1 = false := hbi
    have nb2 : b 2 = false := nbf (fun h => hcl 2 (by decide) h 1 (by decide)) hbi
    have nb11 : b 11 = false := nbf (fun h => hcl 11 (by decide) h 1 (by decide)) hbi
    have ewc := (hwf nb11).symm
    subst ewc
    simp only [nb2, nb11, hbi, pu, Nat.reduceAdd, Nat.reduceEqDiff, reduceIte]
    refine F.oq rfl rfl rfl (fun _ => by simp [go_sem]) fun d K hK => ?_; go_simp; refine hK _ ?_; clear hK K d; try walk_nrm
    have hk2 := hkk g _ ⟨fun _ => rfl, fun h => no nb11 h⟩
    simp only [nb2, nb11, hbi, pu, Nat.reduceAdd, Nat.reduceEqDiff, reduceIte] at hk2
    exact hk2
  · intro b g w hI hcl hbi hdp rest hre hkk
    obtain ⟨hwf, hwt⟩ := hI
    replace hbi : b 2 = false := hbi
    have d1 : b 1 = true := hdp 1 (by decide)
    have nb3 : b 3 = false := nbf (fun h => hcl 3 (by decide) h 2 (by decide)) hbi
    have nb11 : b 11 = false := nbf (fun h => hcl 11 (by decide) h 2 (by decide)) hbi
    have ewc := (hwf nb11).symm
    subst ewc
    simp only [d1, nb3, nb11, hbi, pu, Nat.reduceAdd, Nat.reduceEqDiff, reduceIte]
    refine F.oq rfl rfl rfl (fun _ => by simp [go_sem]) fun d K hK => ?_; go_simp; refine hK _ ?_; clear hK K d; try walk_nrm
    have hk2 := hkk g _ ⟨fun _ => rfl, fun h => no nb11 h⟩
    simp only [d1, nb3, nb11, hbi, pu, Nat.reduceAdd, Nat.reduceEqDiff, reduceIte] at hk2
    exact hk2
  · intro b g w hI hcl hbi hdp rest hre hkk
    obtain ⟨hwf, hwt⟩ := hI
    replace hbi : b 3 = false := hbi
    have d2 : b 2 = true := hdp 2 (by decide)
    have d1 : b 1 = true := hcl 2 (by decide) d2 1 (by decide)
    have nb4 : b 4 = false := nbf (fun h => hcl 4 (by decide) h 3 (by decide)) hbi
    have nb11 : b 11 = false := nbf (fun h => hcl 11 (by decide) h 3 (by decide)) hbi
    have ewc := (hwf nb11).symm
    subst ewc
    simp only [d2, d1, nb4, nb11, hbi, pu, Nat.reduceAdd, Nat.reduceEqDiff, reduceIte]
    refine F.oq rfl rfl rfl (fun _ => by simp [go_sem]) fun d K hK => ?_; go_simp; refine hK _ ?_; clear hK K d; try walk_nrm
    have hk2 := hkk g _ ⟨fun _ => rfl, fun h => no nb11 h⟩
    simp only [d2, d1, nb4, nb11, hbi, pu, Nat.reduceAdd, Nat.reduceEqDiff, reduceIte] at hk2
    exact hk2
  · intro b g w hI hcl hbi hdp rest hre hkk
    obtain ⟨hwf, hwt⟩ := hI
    replace hbi : b 4 = false := hbi
    have d3 : b 3 = true := hdp 3 (by decide)
    have d2 : b 2 = true := hcl 3 (by decide) d3 2 (by decide)
    have d1 : b 1 = true := hcl 2 (by decide) d2 1 (by decide)
    have nb5 : b 5 = false := nbf (fun h => hcl 5 (by decide) h 4 (by decide)) hbi
    have nb11 : b 11 = false := nbf (fun h => hcl 11 (by decide) h 4 (by decide)) hbi
    have ewc := (hwf nb11).symm
    subst ewc
    simp only [d3, d2, d1, nb5, nb11, hbi, pu, Nat.reduceAdd, Nat.reduceEqDiff, reduceIte]
    refine F.op rfl rfl (by decide) (fun d K hK => ?_)
    go_simp
    refine hK _ _ ⟨DX.still _ (fun e he => ?_), ?_⟩
    · have hm := mem_listed he
      simp [go_sem, *] at hm
      subst hm
      exact .inl ⟨_, rfl, rfl, by (first | assumption | (apply hfr <;> dsimp only <;> omega) | (apply hok; simp; done)), lt_of_cell (w := w22) (by assumption)⟩
    clear hK K d
    try walk_nrm
    have hk2 := hkk g _ ⟨fun _ => rfl, fun h => no nb11 h⟩
    simp only [d3, d2, d1, nb5, nb11, hbi, pu, Nat.reduceAdd, Nat.reduceEqDiff, reduceIte] at hk2
    exact hk2
  · intro b g w hI hcl hbi hdp rest hre hkk
    obtain ⟨hwf, hwt⟩ := hI
    replace hbi : b 5 = false := hbi
    have d0 : b 0 = true := hdp 0 (by decide)
    have d4 : b 4 = true := hdp 4 (by decide)
    have d3 : b 3 = true := hcl 4 (by decide) d4 3 (by decide)
    have d2 : b 2 = true := hcl 3 (by decide) d3 2 (by decide)
    have d1 : b 1 = true := hcl 2 (by decide) d2 1 (by decide)
    have nb10 : b 10 = false := nbf (fun h => hcl 10 (by decide) h 5 (by decide)) hbi
    have nb11 : b 11 = false := nbf (fun h => hcl 11 (by decide) h 5 (by decide)) hbi
    have ewc := (hwf nb11).symm
    subst ewc
    simp only [d0, d4, d3, d2, d1, nb10, nb11, hbi, pu, Nat.reduceAdd, Nat.reduceEqDiff, reduceIte]
    refine F.oq rfl rfl rfl (fun _ => by simp [go_sem]) fun d K hK => ?_; go_simp; refine hK _ ?_; clear hK K d; try walk_nrm
    have hk2 := hkk g _ ⟨fun _ => rfl, fun h => no nb11 h⟩
    simp only [d0, d4, d3, d2, d1, nb10, nb11, hbi, pu, Nat.reduceAdd, Nat.reduceEqDiff, reduceIte] at hk2
    exact hk2
  · intro b g w hI hcl hbi hdp rest hre hkk
    obtain ⟨hwf, hwt⟩ := hI
    replace hbi : b 6 = false := hbi
    have nb7 : b 7 = false := nbf (fun h => hcl 7 (by decide) h 6 (by decide)) hbi
    have nb11 : b 11 = false := nbf (fun h => hcl 11 (by decide) h 6 (by decide)) hbi
    have ewc := (hwf nb11).symm
    subst ewc
    simp only [nb7, nb11, hbi, pu, Nat.reduceAdd, Nat.reduceEqDiff, reduceIte]
    refine F.oq rfl rfl rfl (fun _ => by simp [go_sem]) fun d K hK => ?_; go_simp; refine hK _ ?_; clear hK K d; try walk_nrm
    have hk2 := hkk g _ ⟨fun _ => rfl, fun h => no nb11 h⟩
    simp only [nb7, nb11, hbi, pu, Nat.reduceAdd, Nat.reduceEqDiff, reduceIte] at hk2
    exact hk2
  · intro b g w hI hcl hbi hdp rest hre hkk
    obtain ⟨hwf, hwt⟩ := hI
    replace hbi : b 7 = false := hbi
    have d6 : b 6 = true := hdp 6 (by decide)
    have nb8 : b 8 = false := nbf (fun h => hcl 8 (by decide) h 7 (by decide)) hbi
    have nb11 : b 11 = false := nbf (fun h => hcl 11 (by decide) h 7 (by decide)) hbi
    have ewc := (hwf nb11).symm
    subst ewc
    simp only [d6, nb8, nb11, hbi, pu, Nat.reduceAdd, Nat.reduceEqDiff, reduceIte]
    refine F.oq rfl rfl rfl (fun _ => by simp [go_sem]) fun d K hK => ?_; go_simp; refine hK _ ?_; clear hK K d; try walk_nrm
    have hk2 := hkk g _ ⟨fun _ => rfl, fun h => no nb11 h⟩
    simp only [d6, nb8, nb11, hbi, pu, Nat.reduceAdd, Nat.reduceEqDiff, reduceIte] at hk2
    exact hk2
  · intro b g w hI hcl hbi hdp rest hre hkk
    obtain ⟨hwf, hwt⟩ := hI
    replace hbi : b 8 = false := hbi
    have d7 : b 7 = true := hdp 7 (by decide)
    have d6 : b 6 = true := hcl 7 (by decide) d7 6 (by decide)
    have nb9 : b 9 = false := nbf (fun h => hcl 9 (by decide) h 8 (by decide)) hbi
    have nb11 : b 11 = false := nbf (fun h => hcl 11 (by decide) h 8 (by decide)) hbi
    have ewc := (hwf nb11).symm
    subst ewc
    simp only [d7, d6, nb9, nb11, hbi, pu, Nat.reduceAdd, Nat.reduceEqDiff, reduceIte]
    refine F.oq rfl rfl rfl (fun _ => by simp [go_sem]) fun d K hK => ?_; go_simp; refine hK _ ?_; clear hK K d; try walk_nrm
    have hk2 := hkk g _ ⟨fun _ => rfl, fun h => no nb11 h⟩
    simp only [d7, d6, nb9, nb11, hbi, pu, Nat.reduceAdd, Nat.reduceEqDiff, reduceIte] at hk2
    exact hk2
  · intro b g w hI hcl hbi hdp rest hre hkk
    obtain ⟨hwf, hwt⟩ := hI
    replace hbi : b 9 = false := hbi
    have d8 : b 8 = true := hdp 8 (by decide)
    have d7 : b 7 = true := hcl 8 (by decide) d8 7 (by decide)
    have d6 : b 6 = true := hcl 7 (by decide) d7 6 (by decide)
    have nb10 : b 10 = false := nbf (fun h => hcl 10 (by decide) h 9 (by decide)) hbi
    have nb11 : b 11 = false := nbf (fun h => hcl 11 (by decide) h 9 (by decide)) hbi
    have ewc := (hwf nb11).symm
    subst ewc
    simp only [d8, d7, d6, nb10, nb11, hbi, pu, Nat.reduceAdd, Nat.reduceEqDiff, reduceIte]
    refine F.op rfl rfl (by decide) (fun d K hK => ?_)
    go_simp
    refine hK _ _ ⟨DX.still _ (fun e he => ?_), ?_⟩
    · have hm := mem_listed he
      simp [go_sem, *] at hm
      subst hm
      exact .inl ⟨_, rfl, rfl, by (first | assumption | (apply hfr <;> dsimp only <;> omega) | (apply hok; simp; done)), lt_of_cell (w := w22) (by assumption)⟩
    clear hK K d
    try walk_nrm
    have hk2 := hkk g _ ⟨fun _ => rfl, fun h => no nb11 h⟩
    simp only [d8, d7, d6, nb10, nb11, hbi, pu, Nat.reduceAdd, Nat.reduceEqDiff, reduceIte] at hk2
    exact hk2
  · intro b g w hI hcl hbi hdp rest hre hkk
    obtain ⟨hwf, hwt⟩ := hI
    replace hbi : b 10 = false := hbi
    have d5 : b 5 = true := hdp 5 (by decide)
    have d9 : b 9 = true := hdp 9 (by decide)
    have d8 : b 8 = true := hcl 9 (by decide) d9 8 (by decide)
    have d7 : b 7 = true := hcl 8 (by decide) d8 7 (by decide)
    have d6 : b 6 = true := hcl 7 (by decide) d7 6 (by decide)
    have d0 : b 0 = true := hcl 5 (by decide) d5 0 (by decide)
    have d4 : b 4 = true := hcl 5 (by decide) d5 4 (by decide)
    have d3 : b 3 = true := hcl 4 (by decide) d4 3 (by decide)
    have d2 : b 2 = true := hcl 3 (by decide) d3 2 (by decide)
    have d1 : b 1 = true := hcl 2 (by decide) d2 1 (by decide)
    have nb11 : b 11 = false := nbf (fun h => hcl 11 (by decide) h 10 (by decide)) hbi
    have ewc := (hwf nb11).symm
    subst ewc
    simp only [d5, d9, d8, d7, d6, d0, d4, d3, d2, d1, nb11, hbi, pu, Nat.reduceAdd, Nat.reduceEqDiff, reduceIte]
    refine F.oq rfl rfl rfl (fun _ => by first | (simp [go_sem]; done) | simp [go_sem, Instr.makeInterface, Instr.makeFunc, *]) fun d K hK => ?_; go_simp; refine hK _ ?_; clear hK K d; try walk_nrm
    have hk2 := hkk g _ ⟨fun _ => rfl, fun h => no nb11 h⟩
    simp only [d5, d9, d8, d7, d6, d0, d4, d3, d2, d1, nb11, hbi, pu, Nat.reduceAdd, Nat.reduceEqDiff, reduceIte] at hk2
    exact hk2
  · intro b g w hI hcl hbi hdp rest hre hkk
    obtain ⟨hwf, hwt⟩ := hI
    replace hbi : b 11 = false := hbi
    have d0 : b 0 = true := hdp 0 (by decide)
    have d1 : b 1 = true := hdp 1 (by decide)
    have d2 : b 2 = true := hdp 2 (by decide)
    have d3 : b 3 = true := hdp 3 (by decide)
    have d4 : b 4 = true := hdp 4 (by decide)
    have d5 : b 5 = true := hdp 5 (by decide)
    have d6 : b 6 = true := hdp 6 (by decide)
    have d7 : b 7 = true := hdp 7 (by decide)
    have d8 : b 8 = true := hdp 8 (by decide)
    have d9 : b 9 = true := hdp 9 (by decide)
    have d10 : b 10 = true := hdp 10 (by decide)
    have ewc := (hwf hbi).symm
    subst ewc
    simp only [d0, d1, d2, d3, d4, d5, d6, d7, d8, d9, d10, hbi, pu, Nat.reduceAdd, Nat.reduceEqDiff, reduceIte]
    refine F.oq rfl rfl rfl (fun _ => by simp [go_sem]) fun d K hK => ?_; go_simp; refine hK _ ?_; clear hK K d; try walk_nrm
    have hk2 := hkk g _ ⟨fun h => by simp [tick] at h, fun _ => rfl⟩
    simp only [d0, d1, d2, d3, d4, d5, d6, d7, d8, d9, d10, hbi, pu, Nat.reduceAdd, Nat.reduceEqDiff, reduceIte] at hk2
    exact hk2
  intro b g w hI hall
  obtain ⟨hwf, hwt⟩ := hI
  simp only [hall 0 (by decide), hall 1 (by decide), hall 2 (by decide), hall 3 (by decide), hall 4 (by decide), hall 5 (by decide), hall 6 (by decide), hall 7 (by decide), hall 8 (by decide), hall 9 (by decide), hall 10 (by decide), hall 11 (by decide), pu, Nat.reduceAdd, Nat.reduceEqDiff, reduceIte]
  have ewf := (hwt (hall 11 (by decide))).symm
  subst ewf
  clear hwf hwt hall g b
  clear x0 x1 x2 x3 x4 x5 x6
  refine F.re ?_
  refine F.ib ?_
  refine F.rr ?_
  simp only [rg, Nat.reduceAdd]
  iterate 3 (refine F.oq rfl rfl rfl (fun _ => by simp [go_sem]) fun d K hK => ?_; go_simp; refine hK _ ?_; clear hK K d; try walk_nrm)
  refine F.re ?_
  refine F.ctl (fun _ => stepG_inLoop) ?_
  obtain ⟨x0, x1, x2, x3, x4, x5, x6⟩ := id X
  refine F.sq ?_
  refine F.bl ?_
  refine F.sr ?_
  simp only [rg, Nat.reduceAdd]
  iterate 4 (refine F.oq rfl rfl rfl (fun _ => by simp [go_sem]) fun d K hK => ?_; go_simp; refine hK _ ?_; clear hK K d; try walk_nrm)
  refine F.op rfl rfl (by decide) (fun d K hK => ?_)
  go_simp
  refine hK _ _ ⟨DX.still _ (fun e he => ?_), ?_⟩
  · have hm := mem_listed he
    simp [go_sem, *] at hm
    subst hm
    exact .inl ⟨_, rfl, rfl, by (first | assumption | (apply hfr <;> dsimp only <;> omega) | (apply hok; simp; done)), lt_of_cell (w := w22) (by assumption)⟩
  clear hK K d
  try walk_nrm
  refine F.oq rfl rfl rfl (fun _ => by simp [go_sem]) fun d K hK => ?_; go_simp; refine hK _ ?_; clear hK K d; try walk_nrm
  refine F.invoke rfl rfl (by decide) rfl rfl (mEnter138 _) (mEnter138e _) Tryz.func146 (by rfl) (by rfl) ?_
  walk_nrm
  refine bE_w e K hcl 27 3 1 en2b ev2b 6 B HD C TB 3 2 turns3 w22 H (by omega) S Q (by omega) (by decide) rfl rfl rfl (by decide) (by decide) Ψ0 Ψ1 W _ _ (fun v w31 hp => ?_)
  obtain ⟨en3, ev3, H3, Q3, r3, q, rfl, hq1, hq2, hq3, hq4, c0, c1, c2, c3⟩ := hp
  have X3 := X.ru r3 H hR hR1 hR2 hR3 hR4
  have r0 := r0.trans r3
  have hs3 := r3.kp.size
  clear H Q X r3 x0 x1 x2 x3 x4 x5 x6
  rename CW e w31 _ en3 ev3 _ => H
  rename Bk e B HD C TB 3 turns3 w31 _ => Q
  rename Rt e R B w31 => X
  obtain ⟨x0, x1, x2, x3, x4, x5, x6⟩ := id X
  rw [Frame.finish_at]
  try walk_nrm
  iterate 5 (refine F.oq rfl rfl rfl (fun _ => by simp [go_sem]) fun d K hK => ?_; go_simp; refine hK _ ?_; clear hK K d; try walk_nrm)
  refine F.es ?_
  refine F.sr ?_
  simp only [rg, Nat.reduceAdd]
  iterate 4 (refine F.oq rfl rfl rfl (fun _ => by first | (simp [go_sem]; done) | simp [go_sem, Instr.makeInterface, Instr.makeFunc, *]) fun d K hK => ?_; go_simp; refine hK _ ?_; clear hK K d; try walk_nrm)
  refine F.enter rfl rfl (by decide) (fun _ => run_call_body rfl Tryz.func158 (by rfl) (by rfl)) (fun _ => events_call_body rfl Tryz.func158 (by rfl) (by rfl) _) ?_
  walk_nrm
  refine hopeless_x q w31 c0 c3 (hfr _ _ (by dsimp only; omega)) (hfr _ _ (by dsimp only; omega)) _ F _ _ (fun v wq hp => ?_)
  obtain ⟨rfl, hq⟩ := hp
  have hq := hq.symm
  subst hq
  rw [Frame.finish_at]
  try walk_nrm
  refine F.oq rfl rfl rfl (fun _ => by simp [go_sem]) fun d K hK => ?_; go_simp; refine hK _ ?_; clear hK K d; try walk_nrm
  refine F.re ?_
  refine F.cf rfl ?_
  refine F.sk ?_
  refine F.sq ?_
  refine F.sr ?_
  simp only [rg, Nat.reduceAdd]
  iterate 4 (refine F.oq rfl rfl rfl (fun _ => by simp [go_sem]) fun d K hK => ?_; go_simp; refine hK _ ?_; clear hK K d; try walk_nrm)
  refine F.op rfl rfl (by decide) (fun d K hK => ?_)
  go_simp
  refine hK _ _ ⟨DX.still _ (fun e he => ?_), ?_⟩
  · have hm := mem_listed he
    simp [go_sem, *] at hm
    subst hm
    exact .inl ⟨_, rfl, rfl, by (first | assumption | (apply hfr <;> dsimp only <;> omega) | (apply hok; simp; done)), lt_of_cell (w := w31) (by assumption)⟩
  clear hK K d
  try walk_nrm
  refine F.oq rfl rfl rfl (fun _ => by simp [go_sem]) fun d K hK => ?_; go_simp; refine hK _ ?_; clear hK K d; try walk_nrm
  refine F.re ?_
  refine F.ct rfl ?_
  refine F.sr ?_
  simp only [rg, Nat.reduceAdd]
  iterate 4 (refine F.oq rfl rfl rfl (fun _ => by simp [go_sem]) fun d K hK => ?_; go_simp; refine hK _ ?_; clear hK K d; try walk_nrm)
  refine F.enter rfl rfl (by decide) (fun _ => run_call_body rfl Tryz.func149 (by rfl) (by rfl)) (fun _ => events_call_body rfl Tryz.func149 (by rfl) (by rfl) _) ?_
  walk_nrm
  refine tell_w e K 28 en3 ev3 8 w31 H (by omega) R 0 4 0 hR (Ne.symm hR1) x1 x2 (oR _) (oR _) _ F _ _ (fun v w32 hp => ?_)
  obtain ⟨rfl, ev4, H4, k4, v4⟩ := hp
  have r4 : Ru e HD w31 en3 ev3 w32 en3 ev4 := Ru.tell k4 v4
  have x14 := r4.stat H hR hR1 hR2 hR3 hR4 x1
  obtain ⟨c0, _, hq3', hq4'⟩ := r4.temp K S.lH (by omega) hq3 hq4 c0
  obtain ⟨c1, _⟩ := r4.temp K S.lH (by omega) hq3 hq4 c1
  obtain ⟨c2, _⟩ := r4.temp K S.lH (by omega) hq3 hq4 c2
  obtain ⟨c3, _⟩ := r4.temp K S.lH (by omega) hq3 hq4 c3
  have r0 := r0.trans r4
  have hs4 := r4.kp.size
  have hN1 := oR 1
  clear x0 x1 x2 x3 x4 x5 x6
  rw [Frame.finish_at]
  try walk_nrm
  refine F.esr ?_
  simp only [rg, Nat.reduceAdd]
  iterate 4 (refine F.oq rfl rfl rfl (fun _ => by simp [go_sem]) fun d K hK => ?_; go_simp; refine hK _ ?_; clear hK K d; try walk_nrm)
  refine F.op rfl rfl (by decide) (fun d K hK => ?_)
  go_simp
  refine hK _ _ ⟨DX.still _ (fun e he => ?_), ?_⟩
  · have hm := mem_listed he
    simp [go_sem, *] at hm
    subst hm
    exact .inl ⟨_, rfl, rfl, by (first | assumption | (apply hfr <;> dsimp only <;> omega) | (apply hok; simp; done)), lt_of_cell (w := w32) (by assumption)⟩
  clear hK K d
  try walk_nrm
  refine F.oq rfl rfl rfl (fun _ => by simp [go_sem]) fun d K hK => ?_; go_simp; refine hK _ ?_; clear hK K d; try walk_nrm
  refine F.enter rfl rfl (by decide) (fun _ => run_call_body rfl Tryz.func159 (by rfl) (by rfl)) (fun _ => events_call_body rfl Tryz.func159 (by rfl) (by rfl) _) ?_
  walk_nrm
  refine wrap_x 0 168 (.pointer (some ⟨q, 0, none⟩)) w32 _ F _ _ (fun v w33 hp => ?_)
  obtain ⟨rfl, hw33'⟩ := hp
  have hw33 := hw33'.symm
  clear hw33'
  rw [Frame.finish_at]
  try walk_nrm
  iterate 2 (refine F.oq rfl rfl rfl (fun _ => by simp [go_sem]) fun d K hK => ?_; go_simp; refine hK _ ?_; clear hK K d; try walk_nrm)
  refine F.re ?_
  refine F.ctl (fun _ => stepG_ret') ?_
  refine F.leave rfl rfl Tryz.func156 (resultsC_tmp2 (by rfl) _) ?_
  generalize hn9 : w32.heap.size = p at *
  have sz9 := sz_al hw33 hn9
  have k9 : Kp [] w32 w33 := Kp.alloc hw33
  have r9 : Ru e HD w32 en3 ev4 w33 en3 ev4 := Ru.own k9 (by simp)
  have H9 : CW e w33 _ en3 ev4 _ := H4.keep k9 (by simp) l1 l2 l3 (by simp)
  have hr0 := r0.kp.size
  refine hc _ _ ⟨en3, ev4, _, q, p, H9, r0.trans r9, rfl, by omega, by omega, fun z => by have := (H4.rowN z).2; omega, fun z => by have := (H4.entN z).2; omega, hq3', hq4', by omega, by omega, cl_new (i := 0) hw33 hn9 rfl, cl_new (i := 1) hw33 hn9 rfl, cl_new (i := 2) hw33 hn9 rfl, cl_new (i := 3) hw33 hn9 rfl, k9.cell _ _ (by simp) c0, k9.cell _ _ (by simp) c1, k9.cell _ _ (by simp) c2, k9.cell _ _ (by simp) c3⟩

end Go.Proofs.YtobagnjnbmgidaaGreatDoor
