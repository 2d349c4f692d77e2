/- A task's functions. -/
import Derived.Test.YtobagnjnbmgidaaGreatDoorX14
set_option linter.unusedSimpArgs false
set_option linter.unusedVariables false
namespace Go.Proofs.YtobagnjnbmgidaaGreatDoor
open Go.Conc Go.RowKit
variable {Ok : Addr → Bool → Prop}

theorem CW.rowN {e : Env} {w : World} {now : Int} {en ev : Value} {m : Nat} (H : CW e w now en ev m) {g : Nat} (hg : g ∈ rowL ev) : e.N ≤ g ∧ g < w.heap.size := by
  obtain ⟨xs, hr⟩ := H.row
  have := row_ge hr hg
  have := H.nX
  omega
theorem CW.entN {e : Env} {w : World} {now : Int} {en ev : Value} {m : Nat} (H : CW e w now en ev m) {g : Nat} (hg : g ∈ rowL en) : e.N ≤ g ∧ g < w.heap.size :=
  ⟨(H.emp.lt (mem_rowL.1 hg)).1, (Array.getElem?_eq_some_iff.1 (H.emp.lt (mem_rowL.1 hg)).2.choose_spec).1⟩

/-- A line of the journal. -/
theorem tell_w (e : Env) (K : EnvOk e Ok) (now : Int) (en ev : Value) (m : Nat) (w0 : World) (H : CW e w0 now en ev m) (hm : m < 1000) (cb : Nat) (num what nn : Int) (l1 : cb < e.N) (n1 : e.J ≠ cb) (hn : w0.cell? ⟨cb, 1, none⟩ = some (.int .i64 num)) (hj : w0.cell? ⟨cb, 2, none⟩ = some (.pointer (some ⟨e.J, 0, none⟩))) (o1 : Ok ⟨cb, 1, none⟩ false) (o2 : Ok ⟨cb, 2, none⟩ false) :
    CallsX Tryz.prog false (DX Ok) 149 #[.pointer (some ⟨cb, 0, none⟩), .pointer (some ⟨e.T, 0, none⟩), .int .i64 what, .int .i64 nn] w0 fun v w' => v = .tuple #[] ∧ ∃ ev', CW e w' now en ev' (m + 1) ∧ Kp (e.J :: rowL ev) w0 w' ∧ ∀ g ∈ rowL ev', g ∈ rowL ev ∨ w0.heap.size ≤ g := by
  obtain ⟨xs, hr⟩ := H.row
  have hnX := H.nX
  have hsX := H.sX
  have lA := K.lA
  have lT := K.lT
  have lJ := K.lJ
  refine (tell_x (e.X + 1) cb e.J e.T e.A m now e.cl num what nn ev xs w0 (by omega) (by omega) (by omega) (by omega) (by omega) n1 (Ne.symm K.nTJ) (Ne.symm K.nAJ) hj hn H.t0 H.t2 H.a0 H.j0 H.zj hr hm ?_ K.j0 K.j0w (fun a wr h => K.fr a wr (by omega) (by omega))).mono fun v w' hp => ?_
  · intro a h
    rcases h with rfl | rfl | rfl | rfl | rfl
    · exact o2
    · exact o1
    · exact K.t0
    · exact K.t2
    · exact K.a0
  obtain ⟨rfl, kp, ev', xs', f1, f2, f3, f4⟩ := hp
  have lA := K.lA
  have lT := K.lT
  have nAJ := K.nAJ
  have nTJ := K.nTJ
  refine ⟨rfl, ev', ?_, kp, f4⟩
  exact { toBase := H.toBase.keep kp (fun z => by simp at z; rcases z with z | z; omega; have := (H.rowN z).1; omega) (fun z => by simp at z; rcases z with z | z; omega; have := (H.rowN z).1; omega) (by simp)
          j0 := f1
          zj := f2
          row := ⟨xs', f3⟩
          emp := kp.emp H.emp fun g hg => ⟨fun z => by
            have h1 := H.entN hg
            have lJ := K.lJ
            simp at z
            rcases z with z | z
            · omega
            · exact H.sep g z hg, by simp⟩
          sep := fun g hg z => by
            rcases f4 g hg with y | y
            · exact H.sep g y z
            · have := H.entN z; omega
          xe := H.xe }

/-- Behind a wait. -/
theorem CW.waited {e : Env} {w w1 w2 : World} {now t : Int} {en en1 en2 ev : Value} {m : Nat} {L : List Nat} {C : List Addr} {x : Nat} (H : CW e w now en ev m) (lA : e.A < e.N) (lT : e.T < e.N) (lJ : e.J < e.N) (nAT : e.A ≠ e.T) (nAJ : e.A ≠ e.J) (nTJ : e.T ≠ e.J) (k : Kp (rowL en) w w1 C) (hC : ∀ y ∈ C, y = ⟨e.A, 1, none⟩ ∨ y = ⟨e.T, 4, none⟩) (hx : w.heap.size ≤ x)
    (B : Base e w1 now en1) (P : WaitPost e x w1 w2 t en1 en2) (h1 : ∀ g ∈ rowL en1, g ∈ rowL en ∨ w.heap.size ≤ g) : CW e w2 t en2 ev m := by
  have hs := H.size
  have hnX := H.nX
  have hsX := H.sX
  have hxr : ∀ y, y < e.N → y ∉ rowL en := fun y hy z => by have := (H.entN z).1; omega
  have cT : ∀ i, (⟨e.T, i, none⟩ : Addr) ∉ [(⟨e.A, 0, none⟩ : Addr), ⟨e.A, 1, none⟩] := fun i z => by simp at z <;> omega
  have cA : ∀ i, i ≠ 0 → i ≠ 1 → (⟨e.A, i, none⟩ : Addr) ∉ [(⟨e.A, 0, none⟩ : Addr), ⟨e.A, 1, none⟩] := fun i h h' z => by simp at z <;> omega
  have nx : ∀ y, y < e.N → y ∉ [x] := fun y hy z => by simp at z; omega
  have kp := P.kp
  obtain ⟨x4, h4⟩ := B.t4
  obtain ⟨xs, hr⟩ := H.row
  have cJ1 : (⟨e.J, 0, none⟩ : Addr) ∉ C := fun z => by rcases hC _ z with y | y <;> simp at y <;> omega
  have cJ2 : (⟨e.J, 0, none⟩ : Addr) ∉ [(⟨e.A, 0, none⟩ : Addr), ⟨e.A, 1, none⟩] := fun z => by simp at z <;> omega
  have j1 := k.cellC _ _ (hxr _ lJ) cJ1 H.j0
  have z1 := (k.frozC _ _ (hxr _ lJ) cJ1 H.j0).trans H.zj
  have hr1 : w1.ownsRow (e.X + 1) 55 5 ev m xs := k.row hr fun g hg => ⟨fun z => H.sep g hg z, fun y hy z => by have := (row_ge hr hg).1; rcases hC _ hy with q | q <;> subst q <;> simp at z <;> omega⟩
  exact { size := Nat.le_trans B.size kp.size
          sX := Nat.lt_of_lt_of_le B.sX kp.size
          nX := B.nX
          t0 := kp.cellC _ _ (nx _ lT) (cT _) B.t0
          t2 := kp.cellC _ _ (nx _ lT) (cT _) B.t2
          t3 := kp.cellC _ _ (nx _ lT) (cT _) B.t3
          t4 := ⟨x4, kp.cellC _ _ (nx _ lT) (cT _) h4⟩
          z4 := (kp.frozC _ _ (nx _ lT) (cT _) h4).trans B.z4
          t6 := kp.cellC _ _ (nx _ lT) (cT _) B.t6
          t7 := kp.cellC _ _ (nx _ lT) (cT _) B.t7
          z7 := (kp.frozC _ _ (nx _ lT) (cT _) B.t7).trans B.z7
          a0 := P.a0
          za0 := P.za0
          a1 := P.a1
          z1 := P.z1
          a3 := kp.cellC _ _ (nx _ lA) (cA _ (by decide) (by decide)) B.a3
          a4 := kp.cellC _ _ (nx _ lA) (cA _ (by decide) (by decide)) B.a4
          j0 := kp.cellC _ _ (nx _ lJ) cJ2 j1
          zj := (kp.frozC _ _ (nx _ lJ) cJ2 j1).trans z1
          row := ⟨xs, kp.row hr1 fun g hg => ⟨fun z => by have := (row_ge hr hg).2; simp at z; omega, fun y hy z => by have := (row_ge hr hg).1; simp at hy; rcases hy with q | q <;> subst q <;> simp at z <;> omega⟩⟩
          emp := P.emp
          sep := fun g hg z => by
            rw [P.row] at z
            rcases h1 g z with y | y
            · exact H.sep g hg y
            · have := (row_ge hr hg).2; omega
          xe := fun z => by
            rw [P.row] at z
            rcases h1 _ z with y | y
            · exact H.xe y
            · omega }

set_option maxRecDepth 100000 in
set_option maxHeartbeats 4000000 in
theorem sleep_w (e : Env) (K : EnvOk e Ok) (now span : Int) (en ev : Value) (m : Nat) (w0 : World) (H : CW e w0 now en ev m) (hwr : IntKind.i64.wrap (now + span) = now + span) :
    CallsW e Ok 150 #[.pointer (some ⟨e.T, 0, none⟩), .int .i64 span] w0 fun v w' => v = .tuple #[] ∧ ∃ en', CW e w' (now + span) en' ev m ∧ Kp (rowL en) w0 w' [⟨e.A, 0, none⟩, ⟨e.A, 1, none⟩] ∧ ∀ g ∈ rowL en', g ∈ rowL en ∨ w0.heap.size ≤ g := by
  intro Ψ0 Ψ1 W c cs hc
  have F := W.f0
  rw [enter_at _ Tryz.func150 rfl]
  simp only [Tryz.ntmps150, List.size_toArray, List.length_cons, List.length_nil, Nat.reduceAdd, Nat.reduceSub, Array.replicate_succ, Array.replicate_zero, List.push_toArray, List.append_toArray, List.nil_append, List.cons_append]
  refine F.rr ?_
  simp only [rg, Nat.reduceAdd]
  iterate 2 (refine F.oq rfl rfl rfl (fun _ => by simp [go_sem]) fun d K hK => ?_; go_simp; refine hK _ ?_; clear hK K d; try walk_nrm)
  refine F.enter rfl rfl (by decide) (fun _ => run_call_body rfl Tryz.func152 (by rfl) (by rfl)) (fun _ => events_call_body rfl Tryz.func152 (by rfl) (by rfl) _) ?_
  walk_nrm
  refine newWait_w e K now span en ev m w0 H hwr Ψ0 Ψ1 W _ _ (fun x v w1 hp => ?_)
  obtain ⟨rfl, hx, kp, en1, hpre, hrow⟩ := hp
  clear F
  have F := W.f1 x
  rw [Frame.finish_at]
  try walk_nrm
  refine F.enter rfl rfl (by decide) (fun _ => run_call_body rfl Tryz.func153 (by rfl) (by rfl)) (fun _ => events_call_body rfl Tryz.func153 (by rfl) (by rfl) _) ?_
  walk_nrm
  refine W.wait x _ _ w1 now _ en1 hpre (fun w2 en2 hpost => ?_)
  clear F
  have F := W.f0
  rw [Frame.finish_at]
  try walk_nrm
  refine F.re ?_
  refine F.ctl (fun _ => stepG_end) ?_
  refine F.leave rfl rfl Tryz.func150 (resultsC_none (by rfl) _) ?_
  refine hc _ _ ⟨rfl, en2, H.waited (L := []) K.lA K.lT K.lJ K.nAT K.nAJ K.nTJ kp (by simp) (by omega) hpre.toBase hpost hrow, ?_, fun g hg => hrow g (hpost.row ▸ hg)⟩
  refine (kp.old (C' := [⟨e.A, 0, none⟩, ⟨e.A, 1, none⟩]) (fun x hx => .inl hx) (by simp)).callN hpost.kp (fun y hy => .inr (by simp at hy; omega)) (fun y hy => .inl hy)

end Go.Proofs.YtobagnjnbmgidaaGreatDoor
