/- A task's world; waits, as a task sees them. -/
import Derived.Test.YtobagnjnbmgidaaGreatDoorX12
set_option linter.unusedSimpArgs false
set_option linter.unusedVariables false
namespace Go.Proofs.YtobagnjnbmgidaaGreatDoor
open Go.Conc Go.RowKit

/-- The blocks of an agenda and its one task, and its channels. -/
structure Env where
  N : Nat
  X : Nat
  A : Nat
  T : Nat
  J : Nat
  wch : Nat
  ech : Nat
  tch : Nat
  cl : Int

structure EnvOk (e : Env) (Ok : Addr → Bool → Prop) : Prop where
  lA : e.A < e.N
  lT : e.T < e.N
  lJ : e.J < e.N
  nAT : e.A ≠ e.T
  nAJ : e.A ≠ e.J
  nTJ : e.T ≠ e.J
  t0 : Ok ⟨e.T, 0, none⟩ false
  t2 : Ok ⟨e.T, 2, none⟩ false
  t3 : Ok ⟨e.T, 3, none⟩ false
  t4 : Ok ⟨e.T, 4, none⟩ false
  t4w : Ok ⟨e.T, 4, none⟩ true
  t6 : Ok ⟨e.T, 6, none⟩ false
  t7w : Ok ⟨e.T, 7, none⟩ true
  a0 : Ok ⟨e.A, 0, none⟩ false
  a1 : Ok ⟨e.A, 1, none⟩ false
  a1w : Ok ⟨e.A, 1, none⟩ true
  a3 : Ok ⟨e.A, 3, none⟩ false
  a4 : Ok ⟨e.A, 4, none⟩ false
  j0 : Ok ⟨e.J, 0, none⟩ false
  j0w : Ok ⟨e.J, 0, none⟩ true
  fr : ∀ (a : Addr) (wr : Bool), e.N ≤ a.block → a.block ≠ e.X → Ok a wr

/-- What stands of a task's own block and its agenda's. -/
structure Base (e : Env) (w : World) (now : Int) (en : Value) : Prop where
  size : e.N ≤ w.heap.size
  sX : e.X < w.heap.size
  nX : e.N ≤ e.X
  t0 : w.cell? ⟨e.T, 0, none⟩ = some (.pointer (some ⟨e.A, 0, none⟩))
  t2 : w.cell? ⟨e.T, 2, none⟩ = some (.int .i64 e.cl)
  t3 : w.cell? ⟨e.T, 3, none⟩ = some (.chan (some e.tch))
  t4 : ∃ v, w.cell? ⟨e.T, 4, none⟩ = some v
  z4 : w.frozen? ⟨e.T, 4, none⟩ = false
  t6 : w.cell? ⟨e.T, 6, none⟩ = some (.bool false)
  t7 : w.cell? ⟨e.T, 7, none⟩ = some (.bool false)
  z7 : w.frozen? ⟨e.T, 7, none⟩ = false
  a0 : w.cell? ⟨e.A, 0, none⟩ = some (.int .i64 now)
  za0 : w.frozen? ⟨e.A, 0, none⟩ = false
  a1 : w.cell? ⟨e.A, 1, none⟩ = some en
  z1 : w.frozen? ⟨e.A, 1, none⟩ = false
  a3 : w.cell? ⟨e.A, 3, none⟩ = some (.chan (some e.wch))
  a4 : w.cell? ⟨e.A, 4, none⟩ = some (.chan (some e.ech))

/-- .. and of its journal; no entry lies in the agenda. -/
structure CW (e : Env) (w : World) (now : Int) (en ev : Value) (m : List Value) : Prop extends Base e w now en where
  j0 : w.cell? ⟨e.J, 0, none⟩ = some ev
  zj : w.frozen? ⟨e.J, 0, none⟩ = false
  row : ∃ k, k * 5 = m.length ∧ w.ownsRow (e.X + 1) 55 5 ev k m
  emp : Emp e.N w en
  sep : ∀ g ∈ rowL ev, g ∉ rowL en
  xe : e.X ∉ rowL en

theorem Base.keep {e : Env} {w w' : World} {now : Int} {en : Value} {L : List Nat} {C : List Addr} (H : Base e w now en) (k : Kp L w w' C) (hA : e.A ∉ L) (hT : e.T ∉ L) (hC : ∀ x ∈ C, x.block ≠ e.A ∧ x.block ≠ e.T) : Base e w' now en := by
  have cA : ∀ i, (⟨e.A, i, none⟩ : Addr) ∉ C := fun i z => (hC _ z).1 rfl
  have cT : ∀ i, (⟨e.T, i, none⟩ : Addr) ∉ C := fun i z => (hC _ z).2 rfl
  obtain ⟨x4, h4⟩ := H.t4
  exact ⟨Nat.le_trans H.size k.size, Nat.lt_of_lt_of_le H.sX k.size, H.nX, k.cellC _ _ hT (cT _) H.t0, k.cellC _ _ hT (cT _) H.t2, k.cellC _ _ hT (cT _) H.t3, ⟨x4, k.cellC _ _ hT (cT _) h4⟩, (k.frozC _ _ hT (cT _) h4).trans H.z4, k.cellC _ _ hT (cT _) H.t6, k.cellC _ _ hT (cT _) H.t7, (k.frozC _ _ hT (cT _) H.t7).trans H.z7,
    k.cellC _ _ hA (cA _) H.a0, (k.frozC _ _ hA (cA _) H.a0).trans H.za0, k.cellC _ _ hA (cA _) H.a1, (k.frozC _ _ hA (cA _) H.a1).trans H.z1, k.cellC _ _ hA (cA _) H.a3, k.cellC _ _ hA (cA _) H.a4⟩

theorem CW.keep {e : Env} {w w' : World} {now : Int} {en ev : Value} {m : List Value} {L : List Nat} {C : List Addr} (H : CW e w now en ev m) (k : Kp L w w' C) (hL : ∀ x ∈ L, x < e.N ∧ x ≠ e.A ∧ x ≠ e.T ∧ x ≠ e.J ∨ w.heap.size ≤ x ∨ (e.N ≤ x ∧ x ∉ rowL en ∧ x ∉ rowL ev)) (lA : e.A < e.N) (lT : e.T < e.N) (lJ : e.J < e.N)
    (hC : ∀ x ∈ C, x.block ≠ e.A ∧ x.block ≠ e.T ∧ x.block ≠ e.J ∧ x.block ∉ rowL en ∧ x.block ∉ rowL ev) : CW e w' now en ev m := by
  have hs := H.size
  have hnX := H.nX
  obtain ⟨kk, hkl, hr⟩ := H.row
  have hen : ∀ g ∈ rowL en, e.N ≤ g ∧ g < w.heap.size := fun g hg => ⟨(H.emp.lt (mem_rowL.1 hg)).1, (Array.getElem?_eq_some_iff.1 (H.emp.lt (mem_rowL.1 hg)).2.choose_spec).1⟩
  have hJ : e.J ∉ L := fun z => by have := hL _ z; omega
  have cJ : ∀ i, (⟨e.J, i, none⟩ : Addr) ∉ C := fun i z => (hC _ z).2.2.1 rfl
  exact { toBase := H.toBase.keep k (fun z => by have := hL _ z; omega) (fun z => by have := hL _ z; omega) (fun x hx => ⟨(hC x hx).1, (hC x hx).2.1⟩)
          j0 := k.cellC _ _ hJ (cJ _) H.j0
          zj := (k.frozC _ _ hJ (cJ _) H.j0).trans H.zj
          row := ⟨kk, hkl, k.row hr fun g hg => ⟨fun z => by have h1 := hL _ z; have h2 := row_ge hr hg; rcases h1 with h1 | h1 | h1; omega; omega; exact h1.2.2 hg, fun x hx e => (hC x hx).2.2.2.2 (e ▸ hg)⟩⟩
          emp := k.emp H.emp fun g hg => ⟨fun z => by have h1 := hL _ z; have h2 := hen g hg; rcases h1 with h1 | h1 | h1; omega; omega; exact h1.2.1 hg, fun x hx e => (hC x hx).2.2.2.1 (e ▸ hg)⟩
          sep := H.sep
          xe := H.xe }

def OkX (Ok : Addr → Bool → Prop) (x : Nat) (a : Addr) (wr : Bool) : Prop := Ok a wr ∧ (wr = true → a ≠ ⟨x, 0, none⟩)

/-- What a wait needs: its block, and its entry as the only one. -/
structure WaitPre (e : Env) (x : Nat) (w : World) (now t : Int) (en : Value) : Prop extends Base e w now en where
  ge : e.N ≤ x
  x0 : w.cell? ⟨x, 0, none⟩ = some (.pointer (some ⟨e.T, 0, none⟩))
  x1 : w.cell? ⟨x, 1, none⟩ = some (.int .i64 0)
  zx : w.frozen? ⟨x, 1, none⟩ = false
  one : One e.N w en t (.func (.func 144) #[.pointer (some ⟨x, 0, none⟩)] #[])
  out : x ∉ rowL en

/-- What the agenda has done when the wait has ended. -/
structure WaitPost (e : Env) (x : Nat) (w w' : World) (t : Int) (en en' : Value) : Prop where
  kp : Kp [x] w w' [⟨e.A, 0, none⟩, ⟨e.A, 1, none⟩]
  a0 : w'.cell? ⟨e.A, 0, none⟩ = some (.int .i64 t)
  za0 : w'.frozen? ⟨e.A, 0, none⟩ = false
  a1 : w'.cell? ⟨e.A, 1, none⟩ = some en'
  z1 : w'.frozen? ⟨e.A, 1, none⟩ = false
  emp : Emp e.N w' en'
  row : rowL en' = rowL en

/-- A task's future, over its waits. -/
structure FutW (e : Env) (Ok : Addr → Bool → Prop) (Ψ0 : Goroutine → World → Prop) (Ψ1 : Nat → Goroutine → World → Prop) : Prop where
  f0 : Fut Tryz.prog false (DX Ok) Ψ0
  f1 : ∀ x, Fut Tryz.prog false (DX (OkX Ok x)) (Ψ1 x)
  grow : ∀ (g g' : Goroutine) (w : World) (o : Obj), g.status = .running → (∀ d, stepG Tryz.prog false g (w.at d) = .go g' ((w.alloc o).at d) #[]) → Ψ1 w.heap.size g' (w.alloc o) → Ψ0 g w
  wait : ∀ (x : Nat) (c : Frame) (cs : List Frame) (w : World) (now t : Int) (en : Value), WaitPre e x w now t en → (∀ w' en', WaitPost e x w w' t en en' → Ψ0 (G (c.finish (.int .i64 1)) cs) w') →
    Ψ1 x (G (Frame.enter Tryz.prog 153 #[.pointer (some ⟨x, 0, none⟩)] .normal) (c :: cs)) w

theorem FutW.box {e : Env} {Ok : Addr → Bool → Prop} {Ψ0 : Goroutine → World → Prop} {Ψ1 : Nat → Goroutine → World → Prop} {b : Frame} {a : Act} {k : List Item} {cs : List Frame} {w : World} (W : FutW e Ok Ψ0 Ψ1) {ops : Array Oper} {i : Nat} {rest : List Nat} {o : Oper} {v : Value} {ob : Obj}
    (ho : ops[i]? = some o) (hw : Region.wanted o (yielded ops a.tmps) = true) (hk : b.kind ≠ .early) (hr : ∀ d, (execOp a.eval o).run Tryz.prog (w.at d) = .ok (.value v) ((w.alloc ob).at d)) (he : ∀ d, (execOp a.eval o).events Tryz.prog (w.at d) #[] = #[])
    (h : Ψ1 w.heap.size (G (b.at (a.put o.dst v) (.inRegion ops rest :: k)) cs) (w.alloc ob)) : Ψ0 (G (b.at a (.inRegion ops (i :: rest) :: k)) cs) w :=
  W.grow _ _ _ ob rfl (fun d => by rw [stepG_value ho hw hk (hr d), listed_nil (he d)]) h

/-- Contracts of a task's functions: over whole waits; up to the box of a wait. -/
def CallsW (e : Env) (Ok : Addr → Bool → Prop) (f : FuncId) (args : Array Value) (w : World) (Post : Value → World → Prop) : Prop :=
  ∀ Ψ0 Ψ1, FutW e Ok Ψ0 Ψ1 → ∀ c cs, (∀ v w', Post v w' → Ψ0 (G (c.finish v) cs) w') → Ψ0 (G (Frame.enter Tryz.prog f args .normal) (c :: cs)) w
def CallsG (e : Env) (Ok : Addr → Bool → Prop) (f : FuncId) (args : Array Value) (w : World) (Post : Nat → Value → World → Prop) : Prop :=
  ∀ Ψ0 Ψ1, FutW e Ok Ψ0 Ψ1 → ∀ c cs, (∀ x v w', Post x v w' → Ψ1 x (G (c.finish v) cs) w') → Ψ0 (G (Frame.enter Tryz.prog f args .normal) (c :: cs)) w

variable {Ok : Addr → Bool → Prop}

set_option maxRecDepth 100000 in
set_option maxHeartbeats 4000000 in
theorem newWait_w (e : Env) (K : EnvOk e Ok) (now span : Int) (en ev : Value) (m : List Value) (w0 : World) (H : CW e w0 now en ev m) (hwr : IntKind.i64.wrap (now + span) = now + span) :
    CallsG e Ok 152 #[.pointer (some ⟨e.T, 0, none⟩), .int .i64 span] w0 fun x v w' => v = .pointer (some ⟨x, 0, none⟩) ∧ x = w0.heap.size ∧ Kp (rowL en) w0 w' [⟨e.A, 1, none⟩] ∧ ∃ en', WaitPre e x w' now (now + span) en' ∧ ∀ g ∈ rowL en', g ∈ rowL en ∨ w0.heap.size ≤ g := by
  intro Ψ0 Ψ1 W c cs hc
  have F := W.f0
  have hsz := H.size
  have lA := K.lA
  have lT := K.lT
  have nAT := K.nAT
  have hlt : ∀ g ∈ rowL en, g < w0.heap.size := fun g hg => (Array.getElem?_eq_some_iff.1 (H.emp.lt (mem_rowL.1 hg)).2.choose_spec).1
  have ht0 := H.t0
  have ha0 := H.a0
  rw [enter_at _ Tryz.func152 rfl]
  simp only [Tryz.ntmps152, List.size_toArray, List.length_cons, List.length_nil, Nat.reduceAdd, Nat.reduceSub, Array.replicate_succ, Array.replicate_zero, List.push_toArray, List.append_toArray, List.nil_append, List.cons_append]
  refine F.sr ?_
  simp only [rg, Nat.reduceAdd]
  refine F.oq rfl rfl rfl (fun _ => by simp [go_sem]) fun d K hK => ?_; go_simp; refine hK _ ?_; clear hK K d; try walk_nrm
  refine F.esr ?_
  simp only [rg, Nat.reduceAdd]
  iterate 2 (refine F.oq rfl rfl rfl (fun _ => by simp [go_sem]) fun d K hK => ?_; go_simp; refine hK _ ?_; clear hK K d; try walk_nrm)
  refine W.box rfl rfl (by decide) (v := .pointer (some ⟨w0.heap.size, 0, none⟩)) (ob := .cells #[.pointer (some ⟨e.T, 0, none⟩), .int .i64 0] 253) (fun d => ?_) (fun d => ?_) ?_
  · simp [go_sem]
    rfl
  · simp [go_sem]
  try walk_nrm
  clear F
  have F := W.f1 w0.heap.size
  have e1 : OkX Ok w0.heap.size ⟨e.T, 0, none⟩ false := ⟨K.t0, fun h => by cases h⟩
  have e2 : OkX Ok w0.heap.size ⟨e.A, 0, none⟩ false := ⟨K.a0, fun h => by cases h⟩
  generalize ew1 : World.alloc w0 _ = w1
  generalize hn1 : (World.heap w0).size = n1 at F e1 e2 ⊢
  have sz1 := sz_al ew1 hn1
  have hx0 := cl_new (i := 0) ew1 hn1 rfl
  have hx1 := cl_new (i := 1) ew1 hn1 rfl
  have zx1 := fz_new ew1 hn1 1
  simp only [List.getElem_toArray, List.getElem_cons_zero, List.getElem_cons_succ] at hx0 hx1
  have kp : Kp (rowL en) w0 w1 [⟨e.A, 1, none⟩] := (Kp.refl _).alN ew1
  have H1 : CW e w1 now en ev m := H.keep (Kp.alloc (L := []) ew1) (by simp) lA lT K.lJ (by simp)
  clear ht0 ha0
  have ht0 := H1.t0
  have ha0 := H1.a0
  refine F.oq rfl rfl rfl (fun _ => by simp [go_sem]) fun d K hK => ?_; go_simp; refine hK _ ?_; clear hK K d; try walk_nrm
  refine F.es ?_
  refine F.drawB (γ := Unit) (n := 16) mixed [[], [0], [1], [2], [], [4], [5], [6], [7], [8], [9], [], [10, 11], [], [13], [3, 12, 14]] rfl (by kernel_rfl) (fun b g => [(9, sel (b 0) (.pointer (some ⟨e.T, 0, none⟩)) (undef)), (10, sel (b 1) (.pointer (some ⟨e.T, 0, none⟩)) (undef)), (11, sel (b 2) (.pointer (some ⟨e.T, 0, none⟩)) (undef)), (12, sel (b 3) (.pointer (some ⟨e.A, 0, none⟩)) (undef)), (13, sel (b 4) (.pointer (some ⟨e.T, 0, none⟩)) (undef)), (14, sel (b 5) (.pointer (some ⟨e.T, 0, none⟩)) (undef)), (15, sel (b 6) (.pointer (some ⟨e.T, 0, none⟩)) (undef)), (16, sel (b 7) (.pointer (some ⟨e.A, 0, none⟩)) (undef)), (17, sel (b 8) (.pointer (some ⟨e.A, 0, none⟩)) (undef)), (18, sel (b 9) (.pointer (some ⟨e.A, 0, none⟩)) (undef)), (19, sel (b 10) (.int .i64 now) (undef)), (20, sel (b 11) (.int .i64 span) (undef)), (21, sel (b 12) (.int .i64 (now + span)) (undef)), (22, sel (b 13) (.pointer (some ⟨n1, 0, none⟩)) (undef)), (23, sel (b 14) (.func (.func 144) #[.pointer (some ⟨n1, 0, none⟩)] #[]) (undef)), (24, sel (b 15) (.tuple #[]) (undef))]) (fun b g w => (b 15 = false → w = w1) ∧ (b 15 = true → ( Kp (rowL en) w0 w [⟨e.A, 1, none⟩] ∧ ∃ en', WaitPre e n1 w now (now + span) en' ∧ ∀ g ∈ rowL en', g ∈ rowL en ∨ w0.heap.size ≤ g))) (()) (by simp only [pu, Nat.reduceAdd, Nat.reduceEqDiff, reduceIte]) (⟨fun _ => rfl, fun h => by cases h⟩) (all_cons ?_ (all_cons ?_ (all_cons ?_ (all_cons ?_ (all_cons ?_ (all_cons ?_ (all_cons ?_ (all_cons ?_ (all_cons ?_ (all_cons ?_ (all_cons ?_ (all_cons ?_ (all_cons ?_ (all_cons ?_ (all_cons ?_ (all_cons ?_ (all_nil))))))))))))))))) ?_
  · intro b g w hI hcl hbi hdp rest hre hkk
    obtain ⟨hwf, hwt⟩ := hI
    replace hbi : b 0 = false := hbi
    have nb1 := nbf (hcl 1 0 rfl) hbi
    have nb2 := nbf (hcl 2 1 rfl) nb1
    have nb3 := nbf (hcl 3 2 rfl) nb2
    have nb15 := nbf (hcl 15 3 rfl) nb3
    have ewc := (hwf nb15).symm
    subst ewc
    simp only [nb1, nb2, nb3, nb15, hbi, pu, Nat.reduceAdd, Nat.reduceEqDiff, reduceIte]
    refine F.oq rfl rfl rfl (fun _ => by simp [go_sem]) fun d K hK => ?_; go_simp; refine hK _ ?_; clear hK K d; try walk_nrm
    have hk2 := hkk g _ ⟨fun _ => rfl, fun h => no nb15 h⟩
    simp only [nb1, nb2, nb3, nb15, hbi, pu, Nat.reduceAdd, Nat.reduceEqDiff, reduceIte] at hk2
    exact hk2
  · intro b g w hI hcl hbi hdp rest hre hkk
    obtain ⟨hwf, hwt⟩ := hI
    replace hbi : b 1 = false := hbi
    have d0 := hdp 0 rfl
    have nb2 := nbf (hcl 2 1 rfl) hbi
    have nb3 := nbf (hcl 3 2 rfl) nb2
    have nb15 := nbf (hcl 15 3 rfl) nb3
    have ewc := (hwf nb15).symm
    subst ewc
    simp only [d0, nb2, nb3, nb15, hbi, pu, Nat.reduceAdd, Nat.reduceEqDiff, reduceIte]
    refine F.oq rfl rfl rfl (fun _ => by simp [go_sem]) fun d K hK => ?_; go_simp; refine hK _ ?_; clear hK K d; try walk_nrm
    have hk2 := hkk g _ ⟨fun _ => rfl, fun h => no nb15 h⟩
    simp only [d0, nb2, nb3, nb15, hbi, pu, Nat.reduceAdd, Nat.reduceEqDiff, reduceIte] at hk2
    exact hk2
  · intro b g w hI hcl hbi hdp rest hre hkk
    obtain ⟨hwf, hwt⟩ := hI
    replace hbi : b 2 = false := hbi
    have d1 := hdp 1 rfl
    have d0 := hcl 1 0 rfl d1
    have nb3 := nbf (hcl 3 2 rfl) hbi
    have nb15 := nbf (hcl 15 3 rfl) nb3
    have ewc := (hwf nb15).symm
    subst ewc
    simp only [d1, d0, nb3, nb15, hbi, pu, Nat.reduceAdd, Nat.reduceEqDiff, reduceIte]
    refine F.oq rfl rfl rfl (fun _ => by simp [go_sem]) fun d K hK => ?_; go_simp; refine hK _ ?_; clear hK K d; try walk_nrm
    have hk2 := hkk g _ ⟨fun _ => rfl, fun h => no nb15 h⟩
    simp only [d1, d0, nb3, nb15, hbi, pu, Nat.reduceAdd, Nat.reduceEqDiff, reduceIte] at hk2
    exact hk2
  · intro b g w hI hcl hbi hdp rest hre hkk
    obtain ⟨hwf, hwt⟩ := hI
    replace hbi : b 3 = false := hbi
    have d2 := hdp 2 rfl
    have d1 := hcl 2 1 rfl d2
    have d0 := hcl 1 0 rfl d1
    have nb15 := nbf (hcl 15 3 rfl) hbi
    have ewc := (hwf nb15).symm
    subst ewc
    simp only [d2, d1, d0, nb15, hbi, pu, Nat.reduceAdd, Nat.reduceEqDiff, reduceIte]
    refine F.ol rfl rfl rfl fun d K hK => ?_
    go_simp
    refine hK _ (fun e hm => ?_) ?_
    · simp [go_sem, *] at hm
      subst hm
      exact evr (w := w1) (by assumption) (by first | assumption | (apply hfr <;> dsimp only <;> omega))
    clear hK K d
    try walk_nrm
    have hk2 := hkk g _ ⟨fun _ => rfl, fun h => no nb15 h⟩
    simp only [d2, d1, d0, nb15, hbi, pu, Nat.reduceAdd, Nat.reduceEqDiff, reduceIte] at hk2
    exact hk2
  · intro b g w hI hcl hbi hdp rest hre hkk
    obtain ⟨hwf, hwt⟩ := hI
    replace hbi : b 4 = false := hbi
    have nb5 := nbf (hcl 5 4 rfl) hbi
    have nb6 := nbf (hcl 6 5 rfl) nb5
    have nb7 := nbf (hcl 7 6 rfl) nb6
    have nb8 := nbf (hcl 8 7 rfl) nb7
    have nb9 := nbf (hcl 9 8 rfl) nb8
    have nb10 := nbf (hcl 10 9 rfl) nb9
    have nb12 := nbf (hcl 12 10 rfl) nb10
    have nb15 := nbf (hcl 15 12 rfl) nb12
    have ewc := (hwf nb15).symm
    subst ewc
    simp only [nb5, nb6, nb7, nb8, nb9, nb10, nb12, nb15, hbi, pu, Nat.reduceAdd, Nat.reduceEqDiff, reduceIte]
    refine F.oq rfl rfl rfl (fun _ => by simp [go_sem]) fun d K hK => ?_; go_simp; refine hK _ ?_; clear hK K d; try walk_nrm
    have hk2 := hkk g _ ⟨fun _ => rfl, fun h => no nb15 h⟩
    simp only [nb5, nb6, nb7, nb8, nb9, nb10, nb12, nb15, hbi, pu, Nat.reduceAdd, Nat.reduceEqDiff, reduceIte] at hk2
    exact hk2
  · intro b g w hI hcl hbi hdp rest hre hkk
    obtain ⟨hwf, hwt⟩ := hI
    replace hbi : b 5 = false := hbi
    have d4 := hdp 4 rfl
    have nb6 := nbf (hcl 6 5 rfl) hbi
    have nb7 := nbf (hcl 7 6 rfl) nb6
    have nb8 := nbf (hcl 8 7 rfl) nb7
    have nb9 := nbf (hcl 9 8 rfl) nb8
    have nb10 := nbf (hcl 10 9 rfl) nb9
    have nb12 := nbf (hcl 12 10 rfl) nb10
    have nb15 := nbf (hcl 15 12 rfl) nb12
    have ewc := (hwf nb15).symm
    subst ewc
    simp only [d4, nb6, nb7, nb8, nb9, nb10, nb12, nb15, hbi, pu, Nat.reduceAdd, Nat.reduceEqDiff, reduceIte]
    refine F.oq rfl rfl rfl (fun _ => by simp [go_sem]) fun d K hK => ?_; go_simp; refine hK _ ?_; clear hK K d; try walk_nrm
    have hk2 := hkk g _ ⟨fun _ => rfl, fun h => no nb15 h⟩
    simp only [d4, nb6, nb7, nb8, nb9, nb10, nb12, nb15, hbi, pu, Nat.reduceAdd, Nat.reduceEqDiff, reduceIte] at hk2
    exact hk2
  · intro b g w hI hcl hbi hdp rest hre hkk
    obtain ⟨hwf, hwt⟩ := hI
    replace hbi : b 6 = false := hbi
    have d5 := hdp 5 rfl
    have d4 := hcl 5 4 rfl d5
    have nb7 := nbf (hcl 7 6 rfl) hbi
    have nb8 := nbf (hcl 8 7 rfl) nb7
    have nb9 := nbf (hcl 9 8 rfl) nb8
    have nb10 := nbf (hcl 10 9 rfl) nb9
    have nb12 := nbf (hcl 12 10 rfl) nb10
    have nb15 := nbf (hcl 15 12 rfl) nb12
    have ewc := (hwf nb15).symm
    subst ewc
    simp only [d5, d4, nb7, nb8, nb9, nb10, nb12, nb15, hbi, pu, Nat.reduceAdd, Nat.reduceEqDiff, reduceIte]
    refine F.oq rfl rfl rfl (fun _ => by simp [go_sem]) fun d K hK => ?_; go_simp; refine hK _ ?_; clear hK K d; try walk_nrm
    have hk2 := hkk g _ ⟨fun _ => rfl, fun h => no nb15 h⟩
    simp only [d5, d4, nb7, nb8, nb9, nb10, nb12, nb15, hbi, pu, Nat.reduceAdd, Nat.reduceEqDiff, reduceIte] at hk2
    exact hk2
  · intro b g w hI hcl hbi hdp rest hre hkk
    obtain ⟨hwf, hwt⟩ := hI
    replace hbi : b 7 = false := hbi
    have d6 := hdp 6 rfl
    have d5 := hcl 6 5 rfl d6
    have d4 := hcl 5 4 rfl d5
    have nb8 := nbf (hcl 8 7 rfl) hbi
    have nb9 := nbf (hcl 9 8 rfl) nb8
    have nb10 := nbf (hcl 10 9 rfl) nb9
    have nb12 := nbf (hcl 12 10 rfl) nb10
    have nb15 := nbf (hcl 15 12 rfl) nb12
    have ewc := (hwf nb15).symm
    subst ewc
    simp only [d6, d5, d4, nb8, nb9, nb10, nb12, nb15, hbi, pu, Nat.reduceAdd, Nat.reduceEqDiff, reduceIte]
    refine F.ol rfl rfl rfl fun d K hK => ?_
    go_simp
    refine hK _ (fun e hm => ?_) ?_
    · simp [go_sem, *] at hm
      subst hm
      exact evr (w := w1) (by assumption) (by first | assumption | (apply hfr <;> dsimp only <;> omega))
    clear hK K d
    try walk_nrm
    have hk2 := hkk g _ ⟨fun _ => rfl, fun h => no nb15 h⟩
    simp only [d6, d5, d4, nb8, nb9, nb10, nb12, nb15, hbi, pu, Nat.reduceAdd, Nat.reduceEqDiff, reduceIte] at hk2
    exact hk2
  · intro b g w hI hcl hbi hdp rest hre hkk
    obtain ⟨hwf, hwt⟩ := hI
    replace hbi : b 8 = false := hbi
    have d7 := hdp 7 rfl
    have d6 := hcl 7 6 rfl d7
    have d5 := hcl 6 5 rfl d6
    have d4 := hcl 5 4 rfl d5
    have nb9 := nbf (hcl 9 8 rfl) hbi
    have nb10 := nbf (hcl 10 9 rfl) nb9
    have nb12 := nbf (hcl 12 10 rfl) nb10
    have nb15 := nbf (hcl 15 12 rfl) nb12
    have ewc := (hwf nb15).symm
    subst ewc
    simp only [d7, d6, d5, d4, nb9, nb10, nb12, nb15, hbi, pu, Nat.reduceAdd, Nat.reduceEqDiff, reduceIte]
    refine F.oq rfl rfl rfl (fun _ => by simp [go_sem]) fun d K hK => ?_; go_simp; refine hK _ ?_; clear hK K d; try walk_nrm
    have hk2 := hkk g _ ⟨fun _ => rfl, fun h => no nb15 h⟩
    simp only [d7, d6, d5, d4, nb9, nb10, nb12, nb15, hbi, pu, Nat.reduceAdd, Nat.reduceEqDiff, reduceIte] at hk2
    exact hk2
  · intro b g w hI hcl hbi hdp rest hre hkk
    obtain ⟨hwf, hwt⟩ := hI
    replace hbi : b 9 = false := hbi
    have d8 := hdp 8 rfl
    have d7 := hcl 8 7 rfl d8
    have d6 := hcl 7 6 rfl d7
    have d5 := hcl 6 5 rfl d6
    have d4 := hcl 5 4 rfl d5
    have nb10 := nbf (hcl 10 9 rfl) hbi
    have nb12 := nbf (hcl 12 10 rfl) nb10
    have nb15 := nbf (hcl 15 12 rfl) nb12
    have ewc := (hwf nb15).symm
    subst ewc
    simp only [d8, d7, d6, d5, d4, nb10, nb12, nb15, hbi, pu, Nat.reduceAdd, Nat.reduceEqDiff, reduceIte]
    refine F.oq rfl rfl rfl (fun _ => by simp [go_sem]) fun d K hK => ?_; go_simp; refine hK _ ?_; clear hK K d; try walk_nrm
    have hk2 := hkk g _ ⟨fun _ => rfl, fun h => no nb15 h⟩
    simp only [d8, d7, d6, d5, d4, nb10, nb12, nb15, hbi, pu, Nat.reduceAdd, Nat.reduceEqDiff, reduceIte] at hk2
    exact hk2
  · intro b g w hI hcl hbi hdp rest hre hkk
    obtain ⟨hwf, hwt⟩ := hI
    replace hbi : b 10 = false := hbi
    have d9 := hdp 9 rfl
    have d8 := hcl 9 8 rfl d9
    have d7 := hcl 8 7 rfl d8
    have d6 := hcl 7 6 rfl d7
    have d5 := hcl 6 5 rfl d6
    have d4 := hcl 5 4 rfl d5
    have nb12 := nbf (hcl 12 10 rfl) hbi
    have nb15 := nbf (hcl 15 12 rfl) nb12
    have ewc := (hwf nb15).symm
    subst ewc
    simp only [d9, d8, d7, d6, d5, d4, nb12, nb15, hbi, pu, Nat.reduceAdd, Nat.reduceEqDiff, reduceIte]
    refine F.ol rfl rfl rfl fun d K hK => ?_
    go_simp
    refine hK _ (fun e hm => ?_) ?_
    · simp [go_sem, *] at hm
      subst hm
      exact evr (w := w1) (by assumption) (by first | assumption | (apply hfr <;> dsimp only <;> omega))
    clear hK K d
    try walk_nrm
    have hk2 := hkk g _ ⟨fun _ => rfl, fun h => no nb15 h⟩
    simp only [d9, d8, d7, d6, d5, d4, nb12, nb15, hbi, pu, Nat.reduceAdd, Nat.reduceEqDiff, reduceIte] at hk2
    exact hk2
  · intro b g w hI hcl hbi hdp rest hre hkk
    obtain ⟨hwf, hwt⟩ := hI
    replace hbi : b 11 = false := hbi
    have nb12 := nbf (hcl 12 11 rfl) hbi
    have nb15 := nbf (hcl 15 12 rfl) nb12
    have ewc := (hwf nb15).symm
    subst ewc
    simp only [nb12, nb15, hbi, pu, Nat.reduceAdd, Nat.reduceEqDiff, reduceIte]
    refine F.oq rfl rfl rfl (fun _ => by simp [go_sem]) fun d K hK => ?_; go_simp; refine hK _ ?_; clear hK K d; try walk_nrm
    have hk2 := hkk g _ ⟨fun _ => rfl, fun h => no nb15 h⟩
    simp only [nb12, nb15, hbi, pu, Nat.reduceAdd, Nat.reduceEqDiff, reduceIte] at hk2
    exact hk2
  · intro b g w hI hcl hbi hdp rest hre hkk
    obtain ⟨hwf, hwt⟩ := hI
    replace hbi : b 12 = false := hbi
    have d10 := hdp 10 rfl
    have d11 := hdp 11 rfl
    have d9 := hcl 10 9 rfl d10
    have d8 := hcl 9 8 rfl d9
    have d7 := hcl 8 7 rfl d8
    have d6 := hcl 7 6 rfl d7
    have d5 := hcl 6 5 rfl d6
    have d4 := hcl 5 4 rfl d5
    have nb15 := nbf (hcl 15 12 rfl) hbi
    have ewc := (hwf nb15).symm
    subst ewc
    simp only [d10, d11, d9, d8, d7, d6, d5, d4, nb15, hbi, pu, Nat.reduceAdd, Nat.reduceEqDiff, reduceIte]
    refine F.oq rfl rfl rfl (fun _ => by simp [go_sem]) fun d K hK => ?_; go_simp; refine hK _ ?_; clear hK K d; try walk_nrm
    have hk2 := hkk g _ ⟨fun _ => rfl, fun h => no nb15 h⟩
    simp only [d10, d11, d9, d8, d7, d6, d5, d4, nb15, hbi, pu, Nat.reduceAdd, Nat.reduceEqDiff, reduceIte] at hk2
    exact hk2
  · intro b g w hI hcl hbi hdp rest hre hkk
    obtain ⟨hwf, hwt⟩ := hI
    replace hbi : b 13 = false := hbi
    have nb14 := nbf (hcl 14 13 rfl) hbi
    have nb15 := nbf (hcl 15 14 rfl) nb14
    have ewc := (hwf nb15).symm
    subst ewc
    simp only [nb14, nb15, hbi, pu, Nat.reduceAdd, Nat.reduceEqDiff, reduceIte]
    refine F.oq rfl rfl rfl (fun _ => by simp [go_sem]) fun d K hK => ?_; go_simp; refine hK _ ?_; clear hK K d; try walk_nrm
    have hk2 := hkk g _ ⟨fun _ => rfl, fun h => no nb15 h⟩
    simp only [nb14, nb15, hbi, pu, Nat.reduceAdd, Nat.reduceEqDiff, reduceIte] at hk2
    exact hk2
  · intro b g w hI hcl hbi hdp rest hre hkk
    obtain ⟨hwf, hwt⟩ := hI
    replace hbi : b 14 = false := hbi
    have d13 := hdp 13 rfl
    have nb15 := nbf (hcl 15 14 rfl) hbi
    have ewc := (hwf nb15).symm
    subst ewc
    simp only [d13, nb15, hbi, pu, Nat.reduceAdd, Nat.reduceEqDiff, reduceIte]
    refine F.oq rfl rfl rfl (fun _ => by simp [go_sem]) fun d K hK => ?_; go_simp; refine hK _ ?_; clear hK K d; try walk_nrm
    have hk2 := hkk g _ ⟨fun _ => rfl, fun h => no nb15 h⟩
    simp only [d13, nb15, hbi, pu, Nat.reduceAdd, Nat.reduceEqDiff, reduceIte] at hk2
    exact hk2
  · intro b g w hI hcl hbi hdp rest hre hkk
    obtain ⟨hwf, hwt⟩ := hI
    replace hbi : b 15 = false := hbi
    have d3 := hdp 3 rfl
    have d12 := hdp 12 rfl
    have d14 := hdp 14 rfl
    have d13 := hcl 14 13 rfl d14
    have d10 := hcl 12 10 rfl d12
    have d11 := hcl 12 11 rfl d12
    have d9 := hcl 10 9 rfl d10
    have d8 := hcl 9 8 rfl d9
    have d7 := hcl 8 7 rfl d8
    have d6 := hcl 7 6 rfl d7
    have d5 := hcl 6 5 rfl d6
    have d4 := hcl 5 4 rfl d5
    have d2 := hcl 3 2 rfl d3
    have d1 := hcl 2 1 rfl d2
    have d0 := hcl 1 0 rfl d1
    have ewc := (hwf hbi).symm
    subst ewc
    simp only [d3, d12, d14, d13, d10, d11, d9, d8, d7, d6, d5, d4, d2, d1, d0, hbi, pu, Nat.reduceAdd, Nat.reduceEqDiff, reduceIte]
    refine F.enter rfl rfl (by decide) (fun _ => run_call_body rfl Tryz.func49 (by rfl) (by rfl)) (fun _ => events_call_body rfl Tryz.func49 (by rfl) (by rfl) _) ?_
    walk_nrm
    refine put_x e.N e.A (now + span) (.func 144) #[.pointer (some ⟨n1, 0, none⟩)] #[] en w1 (by omega) lA H1.emp H1.a1 H1.z1 ⟨K.a1, fun h => by cases h⟩ ⟨K.a1w, fun _ z => by simp at z <;> omega⟩ (fun a wr h => ⟨K.fr a wr (by rcases h with h | h; exact (H1.emp.lt (mem_rowL.1 h)).1; omega) (by have := H1.sX; rcases h with h | h; exact fun z => H1.xe (z ▸ h); omega), fun _ z => by rcases h with h | h; have := hlt _ h; rw [z] at this; simp at this; omega; rw [z] at h; simp at h; omega⟩) _ F _ _ (fun v w' hp => ?_)
    obtain ⟨rfl, kq, en', f1, f2, f3, f4⟩ := hp
    rw [Frame.finish_at]
    try walk_nrm
    have hA' : e.A ∉ rowL en := H.emp.rowN lA
    have hT' : e.T ∉ rowL en := H.emp.rowN lT
    have hn' : n1 ∉ rowL en := fun z => by have := hlt _ z; omega
    have cT : ∀ i, (⟨e.T, i, none⟩ : Addr) ∉ [(⟨e.A, 1, none⟩ : Addr)] := fun i z => by simp at z <;> omega
    have cn : ∀ i, (⟨n1, i, none⟩ : Addr) ∉ [(⟨e.A, 1, none⟩ : Addr)] := fun i z => by simp at z <;> omega
    have cA : ∀ i, i ≠ 1 → (⟨e.A, i, none⟩ : Addr) ∉ [(⟨e.A, 1, none⟩ : Addr)] := fun i h z => by simp at z <;> omega
    obtain ⟨x4, h4⟩ := H1.t4
    have hb : Base e w' now en' := ⟨Nat.le_trans H1.size kq.size, Nat.lt_of_lt_of_le H1.sX kq.size, H1.nX, kq.cellC _ _ hT' (cT _) H1.t0, kq.cellC _ _ hT' (cT _) H1.t2, kq.cellC _ _ hT' (cT _) H1.t3, ⟨x4, kq.cellC _ _ hT' (cT _) h4⟩, (kq.frozC _ _ hT' (cT _) h4).trans H1.z4, kq.cellC _ _ hT' (cT _) H1.t6, kq.cellC _ _ hT' (cT _) H1.t7, (kq.frozC _ _ hT' (cT _) H1.t7).trans H1.z7, kq.cellC _ _ hA' (cA _ (by decide)) H1.a0, (kq.frozC _ _ hA' (cA _ (by decide)) H1.a0).trans H1.za0, f1, f2, kq.cellC _ _ hA' (cA _ (by decide)) H1.a3, kq.cellC _ _ hA' (cA _ (by decide)) H1.a4⟩
    have hk2 := hkk g _ ⟨fun h => by simp [tick] at h, fun _ => ⟨kp.callN kq (fun x hx => .inl hx) (fun x hx => .inl hx), en', ⟨hb, by omega, kq.cellC _ _ hn' (cn _) hx0, kq.cellC _ _ hn' (cn _) hx1, (kq.frozC _ _ hn' (cn _) hx1).trans zx1, f3, fun z => by rcases f4 _ z with y | y; exact hn' y; omega⟩, fun g hg => (f4 g hg).imp id fun y => by omega⟩⟩
    simp only [d3, d12, d14, d13, d10, d11, d9, d8, d7, d6, d5, d4, d2, d1, d0, hbi, pu, Nat.reduceAdd, Nat.reduceEqDiff, reduceIte] at hk2
    exact hk2
  intro b g w hI hall
  obtain ⟨hwf, hwt⟩ := hI
  simp only [hall 0 (by decide), hall 1 (by decide), hall 2 (by decide), hall 3 (by decide), hall 4 (by decide), hall 5 (by decide), hall 6 (by decide), hall 7 (by decide), hall 8 (by decide), hall 9 (by decide), hall 10 (by decide), hall 11 (by decide), hall 12 (by decide), hall 13 (by decide), hall 14 (by decide), hall 15 (by decide), pu, Nat.reduceAdd, Nat.reduceEqDiff, reduceIte]
  refine F.esr ?_
  simp only [rg, Nat.reduceAdd]
  iterate 2 (refine F.oq rfl rfl rfl (fun _ => by simp [go_sem]) fun d K hK => ?_; go_simp; refine hK _ ?_; clear hK K d; try walk_nrm)
  refine F.re ?_
  refine F.ctl (fun _ => stepG_ret') ?_
  refine F.leave rfl rfl Tryz.func152 (resultsC_tmp (by rfl) _) ?_
  obtain ⟨k1, en', k2, k3⟩ := hwt (hall 15 (by decide))
  exact hc _ _ _ ⟨rfl, hn1.symm ▸ rfl, k1, en', k2, k3⟩

end Go.Proofs.YtobagnjnbmgidaaGreatDoor

/-! A task's functions. -/
namespace Go.Proofs.YtobagnjnbmgidaaGreatDoor
open Go.Conc Go.RowKit
variable {Ok : Addr → Bool → Prop}

theorem CW.rowN {e : Env} {w : World} {now : Int} {en ev : Value} {m : List Value} (H : CW e w now en ev m) {g : Nat} (hg : g ∈ rowL ev) : e.N ≤ g ∧ g < w.heap.size := by
  obtain ⟨kk, hkl, hr⟩ := H.row
  have := row_ge hr hg
  have := H.nX
  omega
theorem CW.entN {e : Env} {w : World} {now : Int} {en ev : Value} {m : List Value} (H : CW e w now en ev m) {g : Nat} (hg : g ∈ rowL en) : e.N ≤ g ∧ g < w.heap.size :=
  ⟨(H.emp.lt (mem_rowL.1 hg)).1, (Array.getElem?_eq_some_iff.1 (H.emp.lt (mem_rowL.1 hg)).2.choose_spec).1⟩

/-- A line of the journal. -/
theorem tell_w (e : Env) (K : EnvOk e Ok) (now : Int) (en ev : Value) (m : List Value) (w0 : World) (H : CW e w0 now en ev m) (hm : m.length < 4900) (cb : Nat) (num what nn : Int) (l1 : cb < e.N) (n1 : e.J ≠ cb) (hn : w0.cell? ⟨cb, 1, none⟩ = some (.int .i64 num)) (hj : w0.cell? ⟨cb, 2, none⟩ = some (.pointer (some ⟨e.J, 0, none⟩))) (o1 : Ok ⟨cb, 1, none⟩ false) (o2 : Ok ⟨cb, 2, none⟩ false) :
    CallsX Tryz.prog false (DX Ok) 149 #[.pointer (some ⟨cb, 0, none⟩), .pointer (some ⟨e.T, 0, none⟩), .int .i64 what, .int .i64 nn] w0 fun v w' => v = .tuple #[] ∧ ∃ ev', CW e w' now en ev' (m ++ evc now e.cl num what nn) ∧ Kp (e.J :: rowL ev) w0 w' ∧ ∀ g ∈ rowL ev', g ∈ rowL ev ∨ w0.heap.size ≤ g := by
  obtain ⟨kk, hkl, hr⟩ := H.row
  have hnX := H.nX
  have hsX := H.sX
  have lA := K.lA
  have lT := K.lT
  have lJ := K.lJ
  refine (tell_x (e.X + 1) cb e.J e.T e.A kk now e.cl num what nn ev m w0 (by omega) (by omega) (by omega) (by omega) (by omega) n1 (Ne.symm K.nTJ) (Ne.symm K.nAJ) hj hn H.t0 H.t2 H.a0 H.j0 H.zj hr (by omega) ?_ K.j0 K.j0w (fun a wr h => K.fr a wr (by omega) (by omega))).mono fun v w' hp => ?_
  · intro a h
    rcases h with rfl | rfl | rfl | rfl | rfl
    · exact o2
    · exact o1
    · exact K.t0
    · exact K.t2
    · exact K.a0
  obtain ⟨rfl, kp, ev', f1, f2, f3, f4⟩ := hp
  have lA := K.lA
  have lT := K.lT
  have nAJ := K.nAJ
  have nTJ := K.nTJ
  refine ⟨rfl, ev', ?_, kp, f4⟩
  exact { toBase := H.toBase.keep kp (fun z => by simp at z; rcases z with z | z; omega; have := (H.rowN z).1; omega) (fun z => by simp at z; rcases z with z | z; omega; have := (H.rowN z).1; omega) (by simp)
          j0 := f1
          zj := f2
          row := ⟨kk + 1, by simp only [List.length_append, List.length_cons, List.length_nil]; omega, f3⟩
          emp := kp.emp H.emp fun g hg => ⟨fun z => by
            have h1 := H.entN hg
            have lJ := K.lJ
            simp at z
            rcases z with z | z
            · omega
            · exact H.sep g z hg, by simp⟩
          sep := fun g hg z => by
            rcases f4 g hg with y | y
            · exact H.sep g y z
            · have := H.entN z; omega
          xe := H.xe }

/-- Behind a wait. -/
theorem CW.waited {e : Env} {w w1 w2 : World} {now t : Int} {en en1 en2 ev : Value} {m : List Value} {L : List Nat} {C : List Addr} {x : Nat} (H : CW e w now en ev m) (lA : e.A < e.N) (lT : e.T < e.N) (lJ : e.J < e.N) (nAT : e.A ≠ e.T) (nAJ : e.A ≠ e.J) (nTJ : e.T ≠ e.J) (k : Kp (rowL en) w w1 C) (hC : ∀ y ∈ C, y = ⟨e.A, 1, none⟩ ∨ y = ⟨e.T, 4, none⟩) (hx : w.heap.size ≤ x)
    (B : Base e w1 now en1) (P : WaitPost e x w1 w2 t en1 en2) (h1 : ∀ g ∈ rowL en1, g ∈ rowL en ∨ w.heap.size ≤ g) : CW e w2 t en2 ev m := by
  have hs := H.size
  have hnX := H.nX
  have hsX := H.sX
  have hxr : ∀ y, y < e.N → y ∉ rowL en := fun y hy z => by have := (H.entN z).1; omega
  have cT : ∀ i, (⟨e.T, i, none⟩ : Addr) ∉ [(⟨e.A, 0, none⟩ : Addr), ⟨e.A, 1, none⟩] := fun i z => by simp at z <;> omega
  have cA : ∀ i, i ≠ 0 → i ≠ 1 → (⟨e.A, i, none⟩ : Addr) ∉ [(⟨e.A, 0, none⟩ : Addr), ⟨e.A, 1, none⟩] := fun i h h' z => by simp at z <;> omega
  have nx : ∀ y, y < e.N → y ∉ [x] := fun y hy z => by simp at z; omega
  have kp := P.kp
  obtain ⟨x4, h4⟩ := B.t4
  obtain ⟨kk, hkl, hr⟩ := H.row
  have cJ1 : (⟨e.J, 0, none⟩ : Addr) ∉ C := fun z => by rcases hC _ z with y | y <;> simp at y <;> omega
  have cJ2 : (⟨e.J, 0, none⟩ : Addr) ∉ [(⟨e.A, 0, none⟩ : Addr), ⟨e.A, 1, none⟩] := fun z => by simp at z <;> omega
  have j1 := k.cellC _ _ (hxr _ lJ) cJ1 H.j0
  have z1 := (k.frozC _ _ (hxr _ lJ) cJ1 H.j0).trans H.zj
  have hr1 : w1.ownsRow (e.X + 1) 55 5 ev kk m := k.row hr fun g hg => ⟨fun z => H.sep g hg z, fun y hy z => by have := (row_ge hr hg).1; rcases hC _ hy with q | q <;> subst q <;> simp at z <;> omega⟩
  exact { size := Nat.le_trans B.size kp.size
          sX := Nat.lt_of_lt_of_le B.sX kp.size
          nX := B.nX
          t0 := kp.cellC _ _ (nx _ lT) (cT _) B.t0
          t2 := kp.cellC _ _ (nx _ lT) (cT _) B.t2
          t3 := kp.cellC _ _ (nx _ lT) (cT _) B.t3
          t4 := ⟨x4, kp.cellC _ _ (nx _ lT) (cT _) h4⟩
          z4 := (kp.frozC _ _ (nx _ lT) (cT _) h4).trans B.z4
          t6 := kp.cellC _ _ (nx _ lT) (cT _) B.t6
          t7 := kp.cellC _ _ (nx _ lT) (cT _) B.t7
          z7 := (kp.frozC _ _ (nx _ lT) (cT _) B.t7).trans B.z7
          a0 := P.a0
          za0 := P.za0
          a1 := P.a1
          z1 := P.z1
          a3 := kp.cellC _ _ (nx _ lA) (cA _ (by decide) (by decide)) B.a3
          a4 := kp.cellC _ _ (nx _ lA) (cA _ (by decide) (by decide)) B.a4
          j0 := kp.cellC _ _ (nx _ lJ) cJ2 j1
          zj := (kp.frozC _ _ (nx _ lJ) cJ2 j1).trans z1
          row := ⟨kk, hkl, kp.row hr1 fun g hg => ⟨fun z => by have := (row_ge hr hg).2; simp at z; omega, fun y hy z => by have := (row_ge hr hg).1; simp at hy; rcases hy with q | q <;> subst q <;> simp at z <;> omega⟩⟩
          emp := P.emp
          sep := fun g hg z => by
            rw [P.row] at z
            rcases h1 g z with y | y
            · exact H.sep g hg y
            · have := (row_ge hr hg).2; omega
          xe := fun z => by
            rw [P.row] at z
            rcases h1 _ z with y | y
            · exact H.xe y
            · omega }

set_option maxRecDepth 100000 in
set_option maxHeartbeats 4000000 in
theorem sleep_w (e : Env) (K : EnvOk e Ok) (now span : Int) (en ev : Value) (m : List Value) (w0 : World) (H : CW e w0 now en ev m) (hwr : IntKind.i64.wrap (now + span) = now + span) :
    CallsW e Ok 150 #[.pointer (some ⟨e.T, 0, none⟩), .int .i64 span] w0 fun v w' => v = .tuple #[] ∧ ∃ en', CW e w' (now + span) en' ev m ∧ Kp (rowL en) w0 w' [⟨e.A, 0, none⟩, ⟨e.A, 1, none⟩] ∧ ∀ g ∈ rowL en', g ∈ rowL en ∨ w0.heap.size ≤ g := by
  intro Ψ0 Ψ1 W c cs hc
  have F := W.f0
  rw [enter_at _ Tryz.func150 rfl]
  simp only [Tryz.ntmps150, List.size_toArray, List.length_cons, List.length_nil, Nat.reduceAdd, Nat.reduceSub, Array.replicate_succ, Array.replicate_zero, List.push_toArray, List.append_toArray, List.nil_append, List.cons_append]
  refine F.rr ?_
  simp only [rg, Nat.reduceAdd]
  iterate 2 (refine F.oq rfl rfl rfl (fun _ => by simp [go_sem]) fun d K hK => ?_; go_simp; refine hK _ ?_; clear hK K d; try walk_nrm)
  refine F.enter rfl rfl (by decide) (fun _ => run_call_body rfl Tryz.func152 (by rfl) (by rfl)) (fun _ => events_call_body rfl Tryz.func152 (by rfl) (by rfl) _) ?_
  walk_nrm
  refine newWait_w e K now span en ev m w0 H hwr Ψ0 Ψ1 W _ _ (fun x v w1 hp => ?_)
  obtain ⟨rfl, hx, kp, en1, hpre, hrow⟩ := hp
  clear F
  have F := W.f1 x
  rw [Frame.finish_at]
  try walk_nrm
  refine F.enter rfl rfl (by decide) (fun _ => run_call_body rfl Tryz.func153 (by rfl) (by rfl)) (fun _ => events_call_body rfl Tryz.func153 (by rfl) (by rfl) _) ?_
  walk_nrm
  refine W.wait x _ _ w1 now _ en1 hpre (fun w2 en2 hpost => ?_)
  clear F
  have F := W.f0
  rw [Frame.finish_at]
  try walk_nrm
  refine F.re ?_
  refine F.ctl (fun _ => stepG_end) ?_
  refine F.leave rfl rfl Tryz.func150 (resultsC_none (by rfl) _) ?_
  refine hc _ _ ⟨rfl, en2, H.waited (L := []) K.lA K.lT K.lJ K.nAT K.nAJ K.nTJ kp (by simp) (by omega) hpre.toBase hpost hrow, ?_, fun g hg => hrow g (hpost.row ▸ hg)⟩
  refine (kp.old (C' := [⟨e.A, 0, none⟩, ⟨e.A, 1, none⟩]) (fun x hx => .inl hx) (by simp)).callN hpost.kp (fun y hy => .inr (by simp at hy; omega)) (fun y hy => .inl hy)

end Go.Proofs.YtobagnjnbmgidaaGreatDoor

/-! The backend. -/
namespace Go.Proofs.YtobagnjnbmgidaaGreatDoor
open Go.Conc Go.RowKit
variable {Ok : Addr → Bool → Prop}

/-- A stretch of a task's run: what it has left of the world, and where its rows lie. -/
structure Ru (e : Env) (HD : Nat) (w : World) (en ev : Value) (w' : World) (en' ev' : Value) : Prop where
  kp : Kp (e.J :: HD :: (rowL ev ++ rowL en)) w w' [⟨e.A, 0, none⟩, ⟨e.A, 1, none⟩, ⟨e.T, 4, none⟩]
  rev : ∀ g ∈ rowL ev', g ∈ rowL ev ∨ w.heap.size ≤ g
  ren : ∀ g ∈ rowL en', g ∈ rowL en ∨ w.heap.size ≤ g

section
variable {e : Env} {HD : Nat} {w w1 w2 w' : World} {en ev en1 ev1 en2 ev2 en' ev' : Value} {now : Int} {m : List Value}
theorem Ru.refl : Ru e HD w en ev w en ev := ⟨Kp.refl _, fun _ h => .inl h, fun _ h => .inl h⟩
theorem Ru.trans (h : Ru e HD w en ev w1 en1 ev1) (h' : Ru e HD w1 en1 ev1 w2 en2 ev2) : Ru e HD w en ev w2 en2 ev2 := by
  have hs := h.kp.size
  refine ⟨h.kp.callN h'.kp (fun x hx => ?_) (fun x hx => .inl hx), fun g hg => ?_, fun g hg => ?_⟩
  · simp only [List.mem_cons, List.mem_append] at hx ⊢
    rcases hx with hx | hx | hx | hx
    · exact .inl (.inl hx)
    · exact .inl (.inr (.inl hx))
    · rcases h.rev x hx with y | y
      · exact .inl (.inr (.inr (.inl y)))
      · exact .inr y
    · rcases h.ren x hx with y | y
      · exact .inl (.inr (.inr (.inr y)))
      · exact .inr y
  · rcases h'.rev g hg with y | y
    · exact h.rev g y
    · exact .inr (by omega)
  · rcases h'.ren g hg with y | y
    · exact h.ren g y
    · exact .inr (by omega)
theorem Ru.own {L : List Nat} (k : Kp L w w') (hL : ∀ x ∈ L, x = e.J ∨ x = HD) : Ru e HD w en ev w' en ev :=
  ⟨k.old (fun x hx => by rcases hL x hx with rfl | rfl <;> simp) (by simp), fun _ h => .inl h, fun _ h => .inl h⟩
theorem Ru.tell (k : Kp (e.J :: rowL ev) w w') (h : ∀ g ∈ rowL ev', g ∈ rowL ev ∨ w.heap.size ≤ g) : Ru e HD w en ev w' en ev' :=
  ⟨k.old (fun x hx => by rcases List.mem_cons.1 hx with rfl | hx; exact .inl (List.mem_cons_self ..); exact .inl (List.mem_cons_of_mem _ (List.mem_cons_of_mem _ (List.mem_append_left _ hx)))) (by simp), h, fun _ h => .inl h⟩
theorem Ru.wait {C : List Addr} (k : Kp (rowL en) w w' C) (hC : ∀ x ∈ C, x ∈ [(⟨e.A, 0, none⟩ : Addr), ⟨e.A, 1, none⟩, ⟨e.T, 4, none⟩]) (h : ∀ g ∈ rowL en', g ∈ rowL en ∨ w.heap.size ≤ g) : Ru e HD w en ev w' en' ev :=
  ⟨k.old (fun x hx => .inl (by simp [hx])) (fun x hx => .inl (hC x hx)), fun _ h => .inl h, h⟩
/-- What lies elsewhere stays. -/
theorem Ru.stat (r : Ru e HD w en ev w' en' ev') (H : CW e w now en ev m) {b i : Nat} {v : Value} (hb : b < e.N) (hJ : b ≠ e.J) (hH : b ≠ HD) (hA : b ≠ e.A) (hT : b ≠ e.T) (hc : w.cell? ⟨b, i, none⟩ = some v) : w'.cell? ⟨b, i, none⟩ = some v :=
  r.kp.cellC _ _ (fun z => by
    simp only [List.mem_cons, List.mem_append] at z
    rcases z with z | z | z | z
    · exact hJ z
    · exact hH z
    · have := (H.rowN z).1; omega
    · have := (H.entN z).1; omega) (fun z => by simp at z <;> omega) hc
theorem Ru.temp (r : Ru e HD w en ev w' en' ev') (K : EnvOk e Ok) (hHD : HD < e.N) {b i : Nat} {v : Value} (hb : e.N ≤ b) (h1 : b ∉ rowL ev) (h2 : b ∉ rowL en) (hc : w.cell? ⟨b, i, none⟩ = some v) : w'.cell? ⟨b, i, none⟩ = some v ∧ w'.frozen? ⟨b, i, none⟩ = w.frozen? ⟨b, i, none⟩ ∧ b ∉ rowL ev' ∧ b ∉ rowL en' := by
  have l1 := K.lA
  have l2 := K.lT
  have l3 := K.lJ
  have hn : b ∉ e.J :: HD :: (rowL ev ++ rowL en) := fun z => by
    simp only [List.mem_cons, List.mem_append] at z
    rcases z with z | z | z | z
    · omega
    · omega
    · exact h1 z
    · exact h2 z
  have hcc : (⟨b, i, none⟩ : Addr) ∉ [(⟨e.A, 0, none⟩ : Addr), ⟨e.A, 1, none⟩, ⟨e.T, 4, none⟩] := fun z => by simp at z <;> omega
  have hlt := lt_of_cell hc
  refine ⟨r.kp.cellC _ _ hn hcc hc, r.kp.frozC _ _ hn hcc hc, fun z => ?_, fun z => ?_⟩
  · rcases r.rev b z with y | y
    · exact h1 y
    · dsimp only at hlt; omega
  · rcases r.ren b z with y | y
    · exact h2 y
    · dsimp only at hlt; omega
end

/-- The backend's blocks. -/
structure BkS (e : Env) (Ok : Addr → Bool → Prop) (B HD C TB : Nat) : Prop where
  lB : B < e.N
  lH : HD < e.N
  lC : C < e.N
  lT : TB < e.N
  bB : B ≠ HD ∧ B ≠ e.J ∧ B ≠ e.A ∧ B ≠ e.T
  bC : C ≠ HD ∧ C ≠ e.J ∧ C ≠ e.A ∧ C ≠ e.T
  bT : TB ≠ HD ∧ TB ≠ e.J ∧ TB ≠ e.A ∧ TB ≠ e.T
  bH : HD ≠ e.J ∧ HD ≠ e.A ∧ HD ≠ e.T
  ok : ∀ a wr, a.block = B ∨ a.block = HD ∨ a.block = C ∨ a.block = TB → Ok a wr
structure Bk (e : Env) (B HD C TB n : Nat) (tt : Nat → Int × Int × Int) (w : World) (k : Nat) : Prop where
  b1 : w.cell? ⟨B, 1, none⟩ = some (.int .i64 (-1))
  b2 : w.cell? ⟨B, 2, none⟩ = some (.pointer (some ⟨e.J, 0, none⟩))
  b3 : w.cell? ⟨B, 3, none⟩ = some (.slice (some ⟨C, 0, none⟩) 1 1)
  b4 : w.cell? ⟨B, 4, none⟩ = some (.slice (some ⟨HD, 0, none⟩) 1 1)
  c1 : w.cell? ⟨C, 1, none⟩ = some (.slice (some ⟨TB, 0, none⟩) n n)
  h0 : w.cell? ⟨HD, 0, none⟩ = some (.int .i64 k)
  zh : w.frozen? ⟨HD, 0, none⟩ = false
  tb : ∀ i, i < n → w.cell? ⟨TB, i * 3, none⟩ = some (.int .i64 (tt i).1) ∧ w.cell? ⟨TB, i * 3 + 1, none⟩ = some (.int .i64 (tt i).2.1) ∧ w.cell? ⟨TB, i * 3 + 2, none⟩ = some (.int .i64 (tt i).2.2)

theorem Bk.ru {e : Env} {B HD C TB n : Nat} {tt : Nat → Int × Int × Int} {w w' : World} {k k' : Nat} {en ev en' ev' : Value} {now : Int} {m : List Value} (S : BkS e Ok B HD C TB) (h : Bk e B HD C TB n tt w k) (r : Ru e HD w en ev w' en' ev') (H : CW e w now en ev m) (hh : w'.cell? ⟨HD, 0, none⟩ = some (.int .i64 k')) (zh : w'.frozen? ⟨HD, 0, none⟩ = false) : Bk e B HD C TB n tt w' k' :=
  ⟨r.stat H S.lB S.bB.2.1 S.bB.1 S.bB.2.2.1 S.bB.2.2.2 h.b1, r.stat H S.lB S.bB.2.1 S.bB.1 S.bB.2.2.1 S.bB.2.2.2 h.b2, r.stat H S.lB S.bB.2.1 S.bB.1 S.bB.2.2.1 S.bB.2.2.2 h.b3, r.stat H S.lB S.bB.2.1 S.bB.1 S.bB.2.2.1 S.bB.2.2.2 h.b4,
    r.stat H S.lC S.bC.2.1 S.bC.1 S.bC.2.2.1 S.bC.2.2.2 h.c1, hh, zh, fun i hi => ⟨r.stat H S.lT S.bT.2.1 S.bT.1 S.bT.2.2.1 S.bT.2.2.2 (h.tb i hi).1, r.stat H S.lT S.bT.2.1 S.bT.1 S.bT.2.2.1 S.bT.2.2.2 (h.tb i hi).2.1, r.stat H S.lT S.bT.2.1 S.bT.1 S.bT.2.2.1 S.bT.2.2.2 (h.tb i hi).2.2⟩⟩
/-- The place of the counter, over what does not write it. -/
theorem Bk.had {e : Env} {HD : Nat} {L : List Nat} {C : List Addr} {w w' : World} {v : Value} (hH : HD < e.N ∧ HD ≠ e.J ∧ HD ≠ e.A ∧ HD ≠ e.T) (k : Kp L w w' C) (hL : ∀ x ∈ L, x = e.J ∨ e.N ≤ x) (hC : ∀ x ∈ C, x.block = e.A ∨ x.block = e.T) (h : w.cell? ⟨HD, 0, none⟩ = some v) (z : w.frozen? ⟨HD, 0, none⟩ = false) : w'.cell? ⟨HD, 0, none⟩ = some v ∧ w'.frozen? ⟨HD, 0, none⟩ = false := by
  have h1 : HD ∉ L := fun z => by have := hL _ z; omega
  have h2 : (⟨HD, 0, none⟩ : Addr) ∉ C := fun z => by have := hC _ z; simp only at this; omega
  exact ⟨k.cellC _ _ h1 h2 h, (k.frozC _ _ h1 h2 h).trans z⟩

end Go.Proofs.YtobagnjnbmgidaaGreatDoor

/-! A retry's pause. -/
namespace Go.Proofs.YtobagnjnbmgidaaGreatDoor
open Go.Conc Go.RowKit
variable {Ok : Addr → Bool → Prop} {main : Bool}

set_option maxRecDepth 100000 in
theorem cancelled_x (tb : Nat) (w0 : World) (h0 : w0.cell? ⟨tb, 6, none⟩ = some (.bool false)) (o1 : Ok ⟨tb, 6, none⟩ false) :
    CallsX Tryz.prog main (DX Ok) 161 #[.pointer (some ⟨tb, 0, none⟩)] w0 fun v w' => v = .bool false ∧ w' = w0 := by
  intro Ψ F c cs hc
  rw [enter_at _ Tryz.func161 rfl]
  simp only [Tryz.ntmps161, List.size_toArray, List.length_cons, List.length_nil, Nat.reduceAdd, Nat.reduceSub, Array.replicate_succ, Array.replicate_zero, List.push_toArray, List.append_toArray, List.nil_append, List.cons_append]
  refine F.sr ?_
  simp only [rg, Nat.reduceAdd]
  refine F.oq rfl rfl rfl (fun _ => by simp [go_sem]) fun d K hK => ?_; go_simp; refine hK _ ?_; clear hK K d; try walk_nrm
  refine F.esr ?_
  simp only [rg, Nat.reduceAdd]
  iterate 3 (refine F.oq rfl rfl rfl (fun _ => by simp [go_sem]) fun d K hK => ?_; go_simp; refine hK _ ?_; clear hK K d; try walk_nrm)
  refine F.ol rfl rfl rfl fun d K hK => ?_
  go_simp
  refine hK _ (fun e hm => ?_) ?_
  · simp [go_sem, *] at hm
    subst hm
    exact evr (w := w0) (by assumption) (by first | assumption | (apply hfr <;> dsimp only <;> omega))
  clear hK K d
  try walk_nrm
  refine F.oq rfl rfl rfl (fun _ => by simp [go_sem]) fun d K hK => ?_; go_simp; refine hK _ ?_; clear hK K d; try walk_nrm
  refine F.re ?_
  refine F.ctl (fun _ => stepG_ret') ?_
  refine F.leave rfl rfl Tryz.func161 (resultsC_tmp (by rfl) _) ?_
  exact hc _ _ ⟨rfl, rfl⟩

set_option maxRecDepth 100000 in
set_option maxHeartbeats 4000000 in
theorem startWait_w (e : Env) (K : EnvOk e Ok) (now span : Int) (en ev : Value) (m : List Value) (w0 : World) (H : CW e w0 now en ev m) (hwr : IntKind.i64.wrap (now + span) = now + span) :
    CallsG e Ok 162 #[.pointer (some ⟨e.T, 0, none⟩), .int .i64 span] w0 fun x v w' => v = .pointer (some ⟨x, 0, none⟩) ∧ x = w0.heap.size ∧ Kp (rowL en) w0 w' [⟨e.A, 1, none⟩, ⟨e.T, 4, none⟩] ∧ ∃ en', WaitPre e x w' now (now + span) en' ∧ ∀ g ∈ rowL en', g ∈ rowL en ∨ w0.heap.size ≤ g := by
  intro Ψ0 Ψ1 W c cs hc
  have F := W.f0
  have hsz := H.size
  have lA := K.lA
  have lT := K.lT
  have nAT := K.nAT
  rw [enter_at _ Tryz.func162 rfl]
  simp only [Tryz.ntmps162, List.size_toArray, List.length_cons, List.length_nil, Nat.reduceAdd, Nat.reduceSub, Array.replicate_succ, Array.replicate_zero, List.push_toArray, List.append_toArray, List.nil_append, List.cons_append]
  refine F.sr ?_
  simp only [rg, Nat.reduceAdd]
  refine F.oq rfl rfl rfl (fun _ => by simp [go_sem]) fun d K hK => ?_; go_simp; refine hK _ ?_; clear hK K d; try walk_nrm
  refine F.esr ?_
  simp only [rg, Nat.reduceAdd]
  iterate 3 (refine F.oq rfl rfl rfl (fun _ => by simp [go_sem]) fun d K hK => ?_; go_simp; refine hK _ ?_; clear hK K d; try walk_nrm)
  refine F.enter rfl rfl (by decide) (fun _ => run_call_body rfl Tryz.func152 (by rfl) (by rfl)) (fun _ => events_call_body rfl Tryz.func152 (by rfl) (by rfl) _) ?_
  walk_nrm
  refine newWait_w e K now span en ev m w0 H hwr Ψ0 Ψ1 W _ _ (fun x v w1 hp => ?_)
  obtain ⟨rfl, hx0, kn, en1, hpre, hrow⟩ := hp
  have hx : w0.heap.size ≤ x ∧ x ≤ w0.heap.size := by omega
  clear hx0
  clear F
  have F := W.f1 x
  obtain ⟨x4, h4⟩ := hpre.t4
  have z4 := hpre.z4
  have hge := hpre.ge
  have okr : OkX Ok x ⟨e.T, 4, none⟩ false := ⟨K.t4, fun h => by cases h⟩
  have okw : OkX Ok x ⟨e.T, 4, none⟩ true := ⟨K.t4w, fun _ z => by simp at z⟩
  have kp : Kp (rowL en) w0 w1 [⟨e.A, 1, none⟩, ⟨e.T, 4, none⟩] := kn.old (fun x hx => .inl hx) (by simp)
  have hone := hpre.one
  have hTr : e.T ∉ rowL en1 := fun z => by rcases hrow _ z with y | y; have := (H.entN y).1; omega; omega
  rw [Frame.finish_at]
  try walk_nrm
  iterate 2 (refine F.oq rfl rfl rfl (fun _ => by simp [go_sem]) fun d K hK => ?_; go_simp; refine hK _ ?_; clear hK K d; try walk_nrm)
  refine F.op rfl rfl (by decide) (fun d K hK => ?_)
  go_simp
  rw [setCell_at']
  refine hK _ _ ⟨DX.set _ (by (first | assumption | (apply hfr <;> dsimp only <;> omega))) (fun e he => ?_), ?_⟩
  · have hm := mem_listed he
    simp [go_sem, storedEv, evst_slice, evst_ptr, evst_iface, evst_nil, evst_bool, *] at hm
    subst hm
    exact .inl ⟨_, rfl, rfl, by (first | assumption | (apply hfr <;> dsimp only <;> omega)), by show _ < (World.setCell _ _ _).heap.size; simp [World.setCell]; first | omega | exact lt_of_cell (by assumption)⟩
  clear hK K d
  try walk_nrm
  generalize ew2 : World.setCell w1 _ _ = w2
  have sz2 := sz_st ew2
  replace z4 := fz_st z4 ew2
  replace h4 := cl_st' h4 ew2
  replace kp := kp.stN ew2 (by first | (left; simp; done) | (right; left; simp; done) | (right; right; dsimp only; omega))
  refine F.re ?_
  have ke := Kp.setC ew2
  have cT : ∀ i, i ≠ 4 → (⟨e.T, i, none⟩ : Addr) ∉ [(⟨e.T, 4, none⟩ : Addr)] := fun i h z => by simp at z <;> omega
  have cA : ∀ i, (⟨e.A, i, none⟩ : Addr) ∉ [(⟨e.T, 4, none⟩ : Addr)] := fun i z => by simp at z <;> omega
  have cx : ∀ i, (⟨x, i, none⟩ : Addr) ∉ [(⟨e.T, 4, none⟩ : Addr)] := fun i z => by simp at z <;> omega
  have hpre2 : WaitPre e x w2 now (now + span) en1 :=
    { size := Nat.le_trans hpre.size ke.size
      sX := Nat.lt_of_lt_of_le hpre.sX ke.size
      nX := hpre.nX
      t0 := ke.cellC _ _ (by simp) (cT _ (by decide)) hpre.t0
      t2 := ke.cellC _ _ (by simp) (cT _ (by decide)) hpre.t2
      t3 := ke.cellC _ _ (by simp) (cT _ (by decide)) hpre.t3
      t4 := ⟨_, h4⟩
      z4 := z4
      t6 := ke.cellC _ _ (by simp) (cT _ (by decide)) hpre.t6
      t7 := ke.cellC _ _ (by simp) (cT _ (by decide)) hpre.t7
      z7 := (ke.frozC _ _ (by simp) (cT _ (by decide)) hpre.t7).trans hpre.z7
      a0 := ke.cellC _ _ (by simp) (cA _) hpre.a0
      za0 := (ke.frozC _ _ (by simp) (cA _) hpre.a0).trans hpre.za0
      a1 := ke.cellC _ _ (by simp) (cA _) hpre.a1
      z1 := (ke.frozC _ _ (by simp) (cA _) hpre.a1).trans hpre.z1
      a3 := ke.cellC _ _ (by simp) (cA _) hpre.a3
      a4 := ke.cellC _ _ (by simp) (cA _) hpre.a4
      ge := hpre.ge
      x0 := ke.cellC _ _ (by simp) (cx _) hpre.x0
      x1 := ke.cellC _ _ (by simp) (cx _) hpre.x1
      zx := (ke.frozC _ _ (by simp) (cx _) hpre.x1).trans hpre.zx
      one := hpre.one.st ew2 hTr
      out := hpre.out }
  refine F.sr ?_
  simp only [rg, Nat.reduceAdd]
  iterate 3 (refine F.oq rfl rfl rfl (fun _ => by simp [go_sem]) fun d K hK => ?_; go_simp; refine hK _ ?_; clear hK K d; try walk_nrm)
  refine F.ol rfl rfl rfl fun d K hK => ?_
  go_simp
  refine hK _ (fun e hm => ?_) ?_
  · simp [go_sem, *] at hm
    subst hm
    exact evr (w := w2) (by assumption) (by first | assumption | (apply hfr <;> dsimp only <;> omega))
  clear hK K d
  try walk_nrm
  refine F.oq rfl rfl rfl (fun _ => by simp [go_sem]) fun d K hK => ?_; go_simp; refine hK _ ?_; clear hK K d; try walk_nrm
  refine F.re ?_
  refine F.ctl (fun _ => stepG_ret') ?_
  refine F.leave rfl rfl Tryz.func162 (resultsC_tmp (by rfl) _) ?_
  exact hc _ _ _ ⟨rfl, by omega, kp, en1, hpre2, hrow⟩

set_option maxRecDepth 100000 in
set_option maxHeartbeats 4000000 in
theorem rest_w (e : Env) (K : EnvOk e Ok) (now pause num : Int) (en ev : Value) (m : List Value) (R HD : Nat) (w0 : World) (H : CW e w0 now en ev m) (hm : m.length < 4500) (hR : R < e.N) (hRJ : e.J ≠ R) (hR1 : w0.cell? ⟨R, 1, none⟩ = some (.int .i64 num)) (hR2 : w0.cell? ⟨R, 2, none⟩ = some (.pointer (some ⟨e.J, 0, none⟩))) (oR : ∀ i, Ok ⟨R, i, none⟩ false) (hp0 : (0 : Int) < pause) (hp1 : (pause == 0) = false) (hwr : IntKind.i64.wrap (now + pause) = now + pause) :
    CallsW e Ok 157 #[.pointer (some ⟨R, 0, none⟩), .pointer (some ⟨e.T, 0, none⟩), .int .i64 pause] w0 fun v w' => v = .bool true ∧ ∃ en' ev', CW e w' (now + pause) en' ev' (m ++ evc now e.cl num 3 pause) ∧ Ru e HD w0 en ev w' en' ev' ∧ ∀ u, HD < e.N → HD ≠ e.J → HD ≠ e.A → HD ≠ e.T → w0.cell? ⟨HD, 0, none⟩ = some u → w0.frozen? ⟨HD, 0, none⟩ = false → w'.cell? ⟨HD, 0, none⟩ = some u ∧ w'.frozen? ⟨HD, 0, none⟩ = false := by
  intro Ψ0 Ψ1 W c cs hc
  have F := W.f0
  have hsz := H.size
  have lA := K.lA
  have lT := K.lT
  have lJ := K.lJ
  rw [enter_at _ Tryz.func157 rfl]
  simp only [Tryz.ntmps157, List.size_toArray, List.length_cons, List.length_nil, Nat.reduceAdd, Nat.reduceSub, Array.replicate_succ, Array.replicate_zero, List.push_toArray, List.append_toArray, List.nil_append, List.cons_append]
  refine F.sr ?_
  simp only [rg, Nat.reduceAdd]
  refine F.oq rfl rfl rfl (fun _ => by simp [go_sem]) fun d K hK => ?_; go_simp; refine hK _ ?_; clear hK K d; try walk_nrm
  refine F.esr ?_
  simp only [rg, Nat.reduceAdd]
  iterate 5 (refine F.oq rfl rfl rfl (fun _ => by simp [go_sem]) fun d K hK => ?_; go_simp; refine hK _ ?_; clear hK K d; try walk_nrm)
  refine F.enter rfl rfl (by decide) (fun _ => run_call_body rfl Tryz.func149 (by rfl) (by rfl)) (fun _ => events_call_body rfl Tryz.func149 (by rfl) (by rfl) _) ?_
  walk_nrm
  refine tell_w e K now en ev m w0 H (by omega) R num 3 pause hR hRJ hR1 hR2 (oR _) (oR _) _ F _ _ (fun v w1 hp => ?_)
  obtain ⟨rfl, ev1, H1, k1, v1⟩ := hp
  have r1 : Ru e HD w0 en ev w1 en ev1 := Ru.tell k1 v1
  rw [Frame.finish_at]
  try walk_nrm
  refine F.es ?_
  refine F.sr ?_
  simp only [rg, Nat.reduceAdd]
  refine F.oq rfl rfl rfl (fun _ => by simp [go_sem]) fun d K hK => ?_; go_simp; refine hK _ ?_; clear hK K d; try walk_nrm
  refine F.enter rfl rfl (by decide) (fun _ => run_call_body rfl Tryz.func161 (by rfl) (by rfl)) (fun _ => events_call_body rfl Tryz.func161 (by rfl) (by rfl) _) ?_
  walk_nrm
  refine cancelled_x e.T w1 H1.t6 K.t6 _ F _ _ (fun v wq hp => ?_)
  obtain ⟨rfl, hq⟩ := hp
  have hq := hq.symm
  subst hq
  rw [Frame.finish_at]
  try walk_nrm
  have hne : ¬ pause = 0 := by omega
  refine F.re ?_
  refine F.cf rfl ?_
  refine F.sk ?_
  refine F.sr ?_
  simp only [rg, Nat.reduceAdd]
  iterate 5 (refine F.oq rfl rfl rfl (fun _ => by simp [go_sem]) fun d K hK => ?_; go_simp; refine hK _ ?_; clear hK K d; try walk_nrm)
  refine F.enter rfl rfl (by decide) (fun _ => run_call_body rfl Tryz.func162 (by rfl) (by rfl)) (fun _ => events_call_body rfl Tryz.func162 (by rfl) (by rfl) _) ?_
  walk_nrm
  refine startWait_w e K now pause en ev1 (m ++ evc now e.cl num 3 pause) w1 H1 hwr Ψ0 Ψ1 W _ _ (fun x v w2 hp => ?_)
  obtain ⟨rfl, hx, k2, en2, hpre, hrow⟩ := hp
  clear F
  have F := W.f1 x
  rw [Frame.finish_at]
  try walk_nrm
  refine F.enter rfl rfl (by decide) (fun _ => run_call_body rfl Tryz.func153 (by rfl) (by rfl)) (fun _ => events_call_body rfl Tryz.func153 (by rfl) (by rfl) _) ?_
  walk_nrm
  refine W.wait x _ _ w2 now _ en2 hpre (fun w3 en3 hpost => ?_)
  clear F
  have F := W.f0
  rw [Frame.finish_at]
  try walk_nrm
  iterate 3 (refine F.oq rfl rfl rfl (fun _ => by simp [go_sem]) fun d K hK => ?_; go_simp; refine hK _ ?_; clear hK K d; try walk_nrm)
  refine F.re ?_
  refine F.ctl (fun _ => stepG_ret') ?_
  refine F.leave rfl rfl Tryz.func157 (resultsC_tmp (by rfl) _) ?_
  have H3 := H1.waited (L := []) K.lA K.lT K.lJ K.nAT K.nAJ K.nTJ k2 (by simp) (by omega) hpre.toBase hpost hrow
  have k3 : Kp (rowL en) w1 w3 [⟨e.A, 0, none⟩, ⟨e.A, 1, none⟩, ⟨e.T, 4, none⟩] := (k2.old (C' := [⟨e.A, 0, none⟩, ⟨e.A, 1, none⟩, ⟨e.T, 4, none⟩]) (fun x hx => .inl hx) (by simp)).callN hpost.kp (fun y hy => .inr (by simp at hy; omega)) (fun y hy => .inl (by simp at hy; rcases hy with rfl | rfl <;> simp))
  have r3 : Ru e HD w1 en ev1 w3 en3 ev1 := Ru.wait k3 (by simp) (fun g hg => hrow g (hpost.row ▸ hg))
  refine hc _ _ ⟨rfl, en3, ev1, H3, r1.trans r3, fun u q1 q2 q3 q4 q5 q6 => ?_⟩
  obtain ⟨p1, p2⟩ := Bk.had (e := e) ⟨q1, q2, q3, q4⟩ k1 (fun x hx => by simp at hx; rcases hx with y | y; exact .inl y; exact .inr (H.rowN y).1) (by simp) q5 q6
  exact Bk.had (e := e) ⟨q1, q2, q3, q4⟩ k3 (fun x hx => .inr (H1.entN hx).1) (by simp) p1 p2

end Go.Proofs.YtobagnjnbmgidaaGreatDoor
