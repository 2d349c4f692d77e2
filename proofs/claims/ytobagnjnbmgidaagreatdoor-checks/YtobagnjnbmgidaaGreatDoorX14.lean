/- A task's world; waits, as a task sees them. -/
import Derived.Test.YtobagnjnbmgidaaGreatDoorX13
set_option linter.unusedSimpArgs false
set_option linter.unusedVariables false
namespace Go.Proofs.YtobagnjnbmgidaaGreatDoor
open Go.Conc Go.RowKit

/-- The blocks of an agenda and its one task, and its channels. -/
structure Env where
  N : Nat
  X : Nat
  A : Nat
  T : Nat
  J : Nat
  wch : Nat
  ech : Nat
  tch : Nat
  cl : Int

structure EnvOk (e : Env) (Ok : Addr → Bool → Prop) : Prop where
  lA : e.A < e.N
  lT : e.T < e.N
  lJ : e.J < e.N
  nAT : e.A ≠ e.T
  nAJ : e.A ≠ e.J
  nTJ : e.T ≠ e.J
  t0 : Ok ⟨e.T, 0, none⟩ false
  t2 : Ok ⟨e.T, 2, none⟩ false
  t3 : Ok ⟨e.T, 3, none⟩ false
  t4 : Ok ⟨e.T, 4, none⟩ false
  t4w : Ok ⟨e.T, 4, none⟩ true
  t6 : Ok ⟨e.T, 6, none⟩ false
  t7w : Ok ⟨e.T, 7, none⟩ true
  a0 : Ok ⟨e.A, 0, none⟩ false
  a1 : Ok ⟨e.A, 1, none⟩ false
  a1w : Ok ⟨e.A, 1, none⟩ true
  a3 : Ok ⟨e.A, 3, none⟩ false
  a4 : Ok ⟨e.A, 4, none⟩ false
  j0 : Ok ⟨e.J, 0, none⟩ false
  j0w : Ok ⟨e.J, 0, none⟩ true
  fr : ∀ (a : Addr) (wr : Bool), e.N ≤ a.block → a.block ≠ e.X → Ok a wr

/-- What stands of a task's own block and its agenda's. -/
structure Base (e : Env) (w : World) (now : Int) (en : Value) : Prop where
  size : e.N ≤ w.heap.size
  sX : e.X < w.heap.size
  nX : e.N ≤ e.X
  t0 : w.cell? ⟨e.T, 0, none⟩ = some (.pointer (some ⟨e.A, 0, none⟩))
  t2 : w.cell? ⟨e.T, 2, none⟩ = some (.int .i64 e.cl)
  t3 : w.cell? ⟨e.T, 3, none⟩ = some (.chan (some e.tch))
  t4 : ∃ v, w.cell? ⟨e.T, 4, none⟩ = some v
  z4 : w.frozen? ⟨e.T, 4, none⟩ = false
  t6 : w.cell? ⟨e.T, 6, none⟩ = some (.bool false)
  t7 : w.cell? ⟨e.T, 7, none⟩ = some (.bool false)
  z7 : w.frozen? ⟨e.T, 7, none⟩ = false
  a0 : w.cell? ⟨e.A, 0, none⟩ = some (.int .i64 now)
  za0 : w.frozen? ⟨e.A, 0, none⟩ = false
  a1 : w.cell? ⟨e.A, 1, none⟩ = some en
  z1 : w.frozen? ⟨e.A, 1, none⟩ = false
  a3 : w.cell? ⟨e.A, 3, none⟩ = some (.chan (some e.wch))
  a4 : w.cell? ⟨e.A, 4, none⟩ = some (.chan (some e.ech))

/-- .. and of its journal; no entry lies in the agenda. -/
structure CW (e : Env) (w : World) (now : Int) (en ev : Value) (m : Nat) : Prop extends Base e w now en where
  j0 : w.cell? ⟨e.J, 0, none⟩ = some ev
  zj : w.frozen? ⟨e.J, 0, none⟩ = false
  row : ∃ xs, w.ownsRow (e.X + 1) 55 5 ev m xs
  emp : Emp e.N w en
  sep : ∀ g ∈ rowL ev, g ∉ rowL en
  xe : e.X ∉ rowL en

theorem Base.keep {e : Env} {w w' : World} {now : Int} {en : Value} {L : List Nat} {C : List Addr} (H : Base e w now en) (k : Kp L w w' C) (hA : e.A ∉ L) (hT : e.T ∉ L) (hC : ∀ x ∈ C, x.block ≠ e.A ∧ x.block ≠ e.T) : Base e w' now en := by
  have cA : ∀ i, (⟨e.A, i, none⟩ : Addr) ∉ C := fun i z => (hC _ z).1 rfl
  have cT : ∀ i, (⟨e.T, i, none⟩ : Addr) ∉ C := fun i z => (hC _ z).2 rfl
  obtain ⟨x4, h4⟩ := H.t4
  exact ⟨Nat.le_trans H.size k.size, Nat.lt_of_lt_of_le H.sX k.size, H.nX, k.cellC _ _ hT (cT _) H.t0, k.cellC _ _ hT (cT _) H.t2, k.cellC _ _ hT (cT _) H.t3, ⟨x4, k.cellC _ _ hT (cT _) h4⟩, (k.frozC _ _ hT (cT _) h4).trans H.z4, k.cellC _ _ hT (cT _) H.t6, k.cellC _ _ hT (cT _) H.t7, (k.frozC _ _ hT (cT _) H.t7).trans H.z7,
    k.cellC _ _ hA (cA _) H.a0, (k.frozC _ _ hA (cA _) H.a0).trans H.za0, k.cellC _ _ hA (cA _) H.a1, (k.frozC _ _ hA (cA _) H.a1).trans H.z1, k.cellC _ _ hA (cA _) H.a3, k.cellC _ _ hA (cA _) H.a4⟩

theorem CW.keep {e : Env} {w w' : World} {now : Int} {en ev : Value} {m : Nat} {L : List Nat} {C : List Addr} (H : CW e w now en ev m) (k : Kp L w w' C) (hL : ∀ x ∈ L, x < e.N ∧ x ≠ e.A ∧ x ≠ e.T ∧ x ≠ e.J ∨ w.heap.size ≤ x ∨ (e.N ≤ x ∧ x ∉ rowL en ∧ x ∉ rowL ev)) (lA : e.A < e.N) (lT : e.T < e.N) (lJ : e.J < e.N)
    (hC : ∀ x ∈ C, x.block ≠ e.A ∧ x.block ≠ e.T ∧ x.block ≠ e.J ∧ x.block ∉ rowL en ∧ x.block ∉ rowL ev) : CW e w' now en ev m := by
  have hs := H.size
  have hnX := H.nX
  obtain ⟨xs, hr⟩ := H.row
  have hen : ∀ g ∈ rowL en, e.N ≤ g ∧ g < w.heap.size := fun g hg => ⟨(H.emp.lt (mem_rowL.1 hg)).1, (Array.getElem?_eq_some_iff.1 (H.emp.lt (mem_rowL.1 hg)).2.choose_spec).1⟩
  have hJ : e.J ∉ L := fun z => by have := hL _ z; omega
  have cJ : ∀ i, (⟨e.J, i, none⟩ : Addr) ∉ C := fun i z => (hC _ z).2.2.1 rfl
  exact { toBase := H.toBase.keep k (fun z => by have := hL _ z; omega) (fun z => by have := hL _ z; omega) (fun x hx => ⟨(hC x hx).1, (hC x hx).2.1⟩)
          j0 := k.cellC _ _ hJ (cJ _) H.j0
          zj := (k.frozC _ _ hJ (cJ _) H.j0).trans H.zj
          row := ⟨xs, k.row hr fun g hg => ⟨fun z => by have h1 := hL _ z; have h2 := row_ge hr hg; rcases h1 with h1 | h1 | h1; omega; omega; exact h1.2.2 hg, fun x hx e => (hC x hx).2.2.2.2 (e ▸ hg)⟩⟩
          emp := k.emp H.emp fun g hg => ⟨fun z => by have h1 := hL _ z; have h2 := hen g hg; rcases h1 with h1 | h1 | h1; omega; omega; exact h1.2.1 hg, fun x hx e => (hC x hx).2.2.2.1 (e ▸ hg)⟩
          sep := H.sep
          xe := H.xe }

def OkX (Ok : Addr → Bool → Prop) (x : Nat) (a : Addr) (wr : Bool) : Prop := Ok a wr ∧ (wr = true → a ≠ ⟨x, 0, none⟩)

/-- What a wait needs: its block, and its entry as the only one. -/
structure WaitPre (e : Env) (x : Nat) (w : World) (now t : Int) (en : Value) : Prop extends Base e w now en where
  ge : e.N ≤ x
  x0 : w.cell? ⟨x, 0, none⟩ = some (.pointer (some ⟨e.T, 0, none⟩))
  x1 : w.cell? ⟨x, 1, none⟩ = some (.int .i64 0)
  zx : w.frozen? ⟨x, 1, none⟩ = false
  one : One e.N w en t (.func (.func 144) #[.pointer (some ⟨x, 0, none⟩)] #[])
  out : x ∉ rowL en

/-- What the agenda has done when the wait has ended. -/
structure WaitPost (e : Env) (x : Nat) (w w' : World) (t : Int) (en en' : Value) : Prop where
  kp : Kp [x] w w' [⟨e.A, 0, none⟩, ⟨e.A, 1, none⟩]
  a0 : w'.cell? ⟨e.A, 0, none⟩ = some (.int .i64 t)
  za0 : w'.frozen? ⟨e.A, 0, none⟩ = false
  a1 : w'.cell? ⟨e.A, 1, none⟩ = some en'
  z1 : w'.frozen? ⟨e.A, 1, none⟩ = false
  emp : Emp e.N w' en'
  row : rowL en' = rowL en

/-- A task's future, over its waits. -/
structure FutW (e : Env) (Ok : Addr → Bool → Prop) (Ψ0 : Goroutine → World → Prop) (Ψ1 : Nat → Goroutine → World → Prop) : Prop where
  f0 : Fut Tryz.prog false (DX Ok) Ψ0
  f1 : ∀ x, Fut Tryz.prog false (DX (OkX Ok x)) (Ψ1 x)
  grow : ∀ (g g' : Goroutine) (w : World) (o : Obj), g.status = .running → (∀ d, stepG Tryz.prog false g (w.at d) = .go g' ((w.alloc o).at d) #[]) → Ψ1 w.heap.size g' (w.alloc o) → Ψ0 g w
  wait : ∀ (x : Nat) (c : Frame) (cs : List Frame) (w : World) (now t : Int) (en : Value), WaitPre e x w now t en → (∀ w' en', WaitPost e x w w' t en en' → Ψ0 (G (c.finish (.int .i64 1)) cs) w') →
    Ψ1 x (G (Frame.enter Tryz.prog 153 #[.pointer (some ⟨x, 0, none⟩)] .normal) (c :: cs)) w

theorem FutW.box {e : Env} {Ok : Addr → Bool → Prop} {Ψ0 : Goroutine → World → Prop} {Ψ1 : Nat → Goroutine → World → Prop} {b : Frame} {a : Act} {k : List Item} {cs : List Frame} {w : World} (W : FutW e Ok Ψ0 Ψ1) {ops : Array Oper} {i : Nat} {rest : List Nat} {o : Oper} {v : Value} {ob : Obj}
    (ho : ops[i]? = some o) (hw : Region.wanted o (yielded ops a.tmps) = true) (hk : b.kind ≠ .early) (hr : ∀ d, (execOp a.eval o).run Tryz.prog (w.at d) = .ok (.value v) ((w.alloc ob).at d)) (he : ∀ d, (execOp a.eval o).events Tryz.prog (w.at d) #[] = #[])
    (h : Ψ1 w.heap.size (G (b.at (a.put o.dst v) (.inRegion ops rest :: k)) cs) (w.alloc ob)) : Ψ0 (G (b.at a (.inRegion ops (i :: rest) :: k)) cs) w :=
  W.grow _ _ _ ob rfl (fun d => by rw [stepG_value ho hw hk (hr d), listed_nil (he d)]) h

/-- Contracts of a task's functions: over whole waits; up to the box of a wait. -/
def CallsW (e : Env) (Ok : Addr → Bool → Prop) (f : FuncId) (args : Array Value) (w : World) (Post : Value → World → Prop) : Prop :=
  ∀ Ψ0 Ψ1, FutW e Ok Ψ0 Ψ1 → ∀ c cs, (∀ v w', Post v w' → Ψ0 (G (c.finish v) cs) w') → Ψ0 (G (Frame.enter Tryz.prog f args .normal) (c :: cs)) w
def CallsG (e : Env) (Ok : Addr → Bool → Prop) (f : FuncId) (args : Array Value) (w : World) (Post : Nat → Value → World → Prop) : Prop :=
  ∀ Ψ0 Ψ1, FutW e Ok Ψ0 Ψ1 → ∀ c cs, (∀ x v w', Post x v w' → Ψ1 x (G (c.finish v) cs) w') → Ψ0 (G (Frame.enter Tryz.prog f args .normal) (c :: cs)) w

variable {Ok : Addr → Bool → Prop}

set_option maxRecDepth 100000 in
set_option maxHeartbeats 4000000 in
theorem newWait_w (e : Env) (K : EnvOk e Ok) (now span : Int) (en ev : Value) (m : Nat) (w0 : World) (H : CW e w0 now en ev m) (hwr : IntKind.i64.wrap (now + span) = now + span) :
    CallsG e Ok 152 #[.pointer (some ⟨e.T, 0, none⟩), .int .i64 span] w0 fun x v w' => v = .pointer (some ⟨x, 0, none⟩) ∧ x = w0.heap.size ∧ Kp (rowL en) w0 w' [⟨e.A, 1, none⟩] ∧ ∃ en', WaitPre e x w' now (now + span) en' ∧ ∀ g ∈ rowL en', g ∈ rowL en ∨ w0.heap.size ≤ g := by
  intro Ψ0 Ψ1 W c cs hc
  have F := W.f0
  have hsz := H.size
  have lA := K.lA
  have lT := K.lT
  have nAT := K.nAT
  have hlt : ∀ g ∈ rowL en, g < w0.heap.size := fun g hg => (Array.getElem?_eq_some_iff.1 (H.emp.lt (mem_rowL.1 hg)).2.choose_spec).1
  have ht0 := H.t0
  have ha0 := H.a0
  rw [enter_at _ Tryz.func152 rfl]
  simp only [Tryz.ntmps152, List.size_toArray, List.length_cons, List.length_nil, Nat.reduceAdd, Nat.reduceSub, Array.replicate_succ, Array.replicate_zero, List.push_toArray, List.append_toArray, List.nil_append, List.cons_append]
  refine F.sr ?_
  simp only [rg, Nat.reduceAdd]
  refine F.oq rfl rfl rfl (fun _ => by simp [go_sem]) fun d K hK => ?_; go_simp; refine hK _ ?_; clear hK K d; try walk_nrm
  refine F.esr ?_
  simp only [rg, Nat.reduceAdd]
  iterate 2 (refine F.oq rfl rfl rfl (fun _ => by simp [go_sem]) fun d K hK => ?_; go_simp; refine hK _ ?_; clear hK K d; try walk_nrm)
  refine W.box rfl rfl (by decide) (v := .pointer (some ⟨w0.heap.size, 0, none⟩)) (ob := .cells #[.pointer (some ⟨e.T, 0, none⟩), .int .i64 0] 253) (fun d => ?_) (fun d => ?_) ?_
  · simp [go_sem]
    rfl
  · simp [go_sem]
  try walk_nrm
  clear F
  have F := W.f1 w0.heap.size
  have e1 : OkX Ok w0.heap.size ⟨e.T, 0, none⟩ false := ⟨K.t0, fun h => by cases h⟩
  have e2 : OkX Ok w0.heap.size ⟨e.A, 0, none⟩ false := ⟨K.a0, fun h => by cases h⟩
  generalize ew1 : World.alloc w0 _ = w1
  generalize hn1 : (World.heap w0).size = n1 at F e1 e2 ⊢
  have sz1 := sz_al ew1 hn1
  have hx0 := cl_new (i := 0) ew1 hn1 rfl
  have hx1 := cl_new (i := 1) ew1 hn1 rfl
  have zx1 := fz_new ew1 hn1 1
  simp only [List.getElem_toArray, List.getElem_cons_zero, List.getElem_cons_succ] at hx0 hx1
  have kp : Kp (rowL en) w0 w1 [⟨e.A, 1, none⟩] := (Kp.refl _).alN ew1
  have H1 : CW e w1 now en ev m := H.keep (Kp.alloc (L := []) ew1) (by simp) lA lT K.lJ (by simp)
  clear ht0 ha0
  have ht0 := H1.t0
  have ha0 := H1.a0
  refine F.oq rfl rfl rfl (fun _ => by simp [go_sem]) fun d K hK => ?_; go_simp; refine hK _ ?_; clear hK K d; try walk_nrm
  refine F.es ?_
  refine F.drawA (γ := Unit) (n := 16) mixed [[], [0], [1], [2], [], [4], [5], [6], [7], [8], [9], [], [10, 11], [], [13], [3, 12, 14]] rfl (by kernel_rfl) (fun b g => [(9, sel (b 0) (.pointer (some ⟨e.T, 0, none⟩)) (undef)), (10, sel (b 1) (.pointer (some ⟨e.T, 0, none⟩)) (undef)), (11, sel (b 2) (.pointer (some ⟨e.T, 0, none⟩)) (undef)), (12, sel (b 3) (.pointer (some ⟨e.A, 0, none⟩)) (undef)), (13, sel (b 4) (.pointer (some ⟨e.T, 0, none⟩)) (undef)), (14, sel (b 5) (.pointer (some ⟨e.T, 0, none⟩)) (undef)), (15, sel (b 6) (.pointer (some ⟨e.T, 0, none⟩)) (undef)), (16, sel (b 7) (.pointer (some ⟨e.A, 0, none⟩)) (undef)), (17, sel (b 8) (.pointer (some ⟨e.A, 0, none⟩)) (undef)), (18, sel (b 9) (.pointer (some ⟨e.A, 0, none⟩)) (undef)), (19, sel (b 10) (.int .i64 now) (undef)), (20, sel (b 11) (.int .i64 span) (undef)), (21, sel (b 12) (.int .i64 (now + span)) (undef)), (22, sel (b 13) (.pointer (some ⟨n1, 0, none⟩)) (undef)), (23, sel (b 14) (.func (.func 144) #[.pointer (some ⟨n1, 0, none⟩)] #[]) (undef)), (24, sel (b 15) (.tuple #[]) (undef))]) (fun b g w => (b 15 = false → w = w1) ∧ (b 15 = true → ( Kp (rowL en) w0 w [⟨e.A, 1, none⟩] ∧ ∃ en', WaitPre e n1 w now (now + span) en' ∧ ∀ g ∈ rowL en', g ∈ rowL en ∨ w0.heap.size ≤ g))) (()) (by simp only [pu, Nat.reduceAdd, Nat.reduceEqDiff, reduceIte]) (⟨fun _ => rfl, fun h => by cases h⟩) (all_cons ?_ (all_cons ?_ (all_cons ?_ (all_cons ?_ (all_cons ?_ (all_cons ?_ (all_cons ?_ (all_cons ?_ (all_cons ?_ (all_cons ?_ (all_cons ?_ (all_cons ?_ (all_cons ?_ (all_cons ?_ (all_cons ?_ (all_cons ?_ (all_nil))))))))))))))))) ?_
  · intro b g w hI hcl hbi hdp rest hre hkk
    obtain ⟨hwf, hwt⟩ := hI
    replace hbi : b 0 = false := hbi
    have nb1 : b 1 = false := nbf (fun h => hcl 1 (by decide) h 0 (by decide)) hbi
    have nb2 : b 2 = false := by
        cases hx : b 2 with
        | false => rfl
        | true => have := hcl 2 (by decide) hx 1 (by decide); rw [show b 1 = false from nb1] at this; cases this
    have nb3 : b 3 = false := by
        cases hx : b 3 with
        | false => rfl
        | true => have := hcl 3 (by decide) hx 2 (by decide); rw [show b 2 = false from nb2] at this; cases this
    have nb15 : b 15 = false := by
        cases hx : b 15 with
        | false => rfl
        | true => have := hcl 15 (by decide) hx 3 (by decide); rw [show b 3 = false from nb3] at this; cases this
    have ewc := (hwf nb15).symm
    subst ewc
    simp only [nb1, nb2, nb3, nb15, hbi, pu, Nat.reduceAdd, Nat.reduceEqDiff, reduceIte]
    refine F.oq rfl rfl rfl (fun _ => by simp [go_sem]) fun d K hK => ?_; go_simp; refine hK _ ?_; clear hK K d; try walk_nrm
    have hk2 := hkk g _ ⟨fun _ => rfl, fun h => no nb15 h⟩
    simp only [nb1, nb2, nb3, nb15, hbi, pu, Nat.reduceAdd, Nat.reduceEqDiff, reduceIte] at hk2
    exact hk2
  · intro b g w hI hcl hbi hdp rest hre hkk
    obtain ⟨hwf, hwt⟩ := hI
    replace hbi : b 1 = false := hbi
    have d0 : b 0 = true := hdp 0 (by decide)
    have nb2 : b 2 = false := nbf (fun h => hcl 2 (by decide) h 1 (by decide)) hbi
    have nb3 : b 3 = false := by
        cases hx : b 3 with
        | false => rfl
        | true => have := hcl 3 (by decide) hx 2 (by decide); rw [show b 2 = false from nb2] at this; cases this
    have nb15 : b 15 = false := by
        cases hx : b 15 with
        | false => rfl
        | true => have := hcl 15 (by decide) hx 3 (by decide); rw [show b 3 = false from nb3] at this; cases this
    have ewc := (hwf nb15).symm
    subst ewc
    simp only [d0, nb2, nb3, nb15, hbi, pu, Nat.reduceAdd, Nat.reduceEqDiff, reduceIte]
    refine F.oq rfl rfl rfl (fun _ => by simp [go_sem]) fun d K hK => ?_; go_simp; refine hK _ ?_; clear hK K d; try walk_nrm
    have hk2 := hkk g _ ⟨fun _ => rfl, fun h => no nb15 h⟩
    simp only [d0, nb2, nb3, nb15, hbi, pu, Nat.reduceAdd, Nat.reduceEqDiff, reduceIte] at hk2
    exact hk2
  · intro b g w hI hcl hbi hdp rest hre hkk
    obtain ⟨hwf, hwt⟩ := hI
    replace hbi : b 2 = false := hbi
    have d1 : b 1 = true := hdp 1 (by decide)
    have d0 : b 0 = true := hcl 1 (by decide) d1 0 (by decide)
    have nb3 : b 3 = false := nbf (fun h => hcl 3 (by decide) h 2 (by decide)) hbi
    have nb15 : b 15 = false := by
        cases hx : b 15 with
        | false => rfl
        | true => have := hcl 15 (by decide) hx 3 (by decide); rw [show b 3 = false from nb3] at this; cases this
    have ewc := (hwf nb15).symm
    subst ewc
    simp only [d1, d0, nb3, nb15, hbi, pu, Nat.reduceAdd, Nat.reduceEqDiff, reduceIte]
    refine F.oq rfl rfl rfl (fun _ => by simp [go_sem]) fun d K hK => ?_; go_simp; refine hK _ ?_; clear hK K d; try walk_nrm
    have hk2 := hkk g _ ⟨fun _ => rfl, fun h => no nb15 h⟩
    simp only [d1, d0, nb3, nb15, hbi, pu, Nat.reduceAdd, Nat.reduceEqDiff, reduceIte] at hk2
    exact hk2
  · intro b g w hI hcl hbi hdp rest hre hkk
    obtain ⟨hwf, hwt⟩ := hI
    replace hbi : b 3 = false := hbi
    have d2 : b 2 = true := hdp 2 (by decide)
    have d1 : b 1 = true := hcl 2 (by decide) d2 1 (by decide)
    have d0 : b 0 = true := hcl 1 (by decide) d1 0 (by decide)
    have nb15 : b 15 = false := nbf (fun h => hcl 15 (by decide) h 3 (by decide)) hbi
    have ewc := (hwf nb15).symm
    subst ewc
    simp only [d2, d1, d0, nb15, hbi, pu, Nat.reduceAdd, Nat.reduceEqDiff, reduceIte]
    refine F.op rfl rfl (by decide) (fun d K hK => ?_)
    go_simp
    refine hK _ _ ⟨DX.still _ (fun e he => ?_), ?_⟩
    · have hm := mem_listed he
      simp [go_sem, *] at hm
      subst hm
      exact .inl ⟨_, rfl, rfl, by (first | assumption | (apply hfr <;> dsimp only <;> omega) | (apply hok; simp; done)), lt_of_cell (w := w1) (by assumption)⟩
    clear hK K d
    try walk_nrm
    have hk2 := hkk g _ ⟨fun _ => rfl, fun h => no nb15 h⟩
    simp only [d2, d1, d0, nb15, hbi, pu, Nat.reduceAdd, Nat.reduceEqDiff, reduceIte] at hk2
    exact hk2
  · intro b g w hI hcl hbi hdp rest hre hkk
    obtain ⟨hwf, hwt⟩ := hI
    replace hbi : b 4 = false := hbi
    have nb5 : b 5 = false := nbf (fun h => hcl 5 (by decide) h 4 (by decide)) hbi
    have nb6 : b 6 = false := by
        cases hx : b 6 with
        | false => rfl
        | true => have := hcl 6 (by decide) hx 5 (by decide); rw [show b 5 = false from nb5] at this; cases this
    have nb7 : b 7 = false := by
        cases hx : b 7 with
        | false => rfl
        | true => have := hcl 7 (by decide) hx 6 (by decide); rw [show b 6 = false from nb6] at this; cases this
    have nb8 : b 8 = false := by
        cases hx : b 8 with
        | false => rfl
        | true => have := hcl 8 (by decide) hx 7 (by decide); rw [show b 7 = false from nb7] at this; cases this
    have nb9 : b 9 = false := by
        cases hx : b 9 with
        | false => rfl
        | true => have := hcl 9 (by decide) hx 8 (by decide); rw [show b 8 = false from nb8] at this; cases this
    have nb10 : b 10 = false := by
        cases hx : b 10 with
        | false => rfl
        | true => have := hcl 10 (by decide) hx 9 (by decide); rw [show b 9 = false from nb9] at this; cases this
    have nb12 : b 12 = false := by
        cases hx : b 12 with
        | false => rfl
        | true => have := hcl 12 (by decide) hx 10 (by decide); rw [show b 10 = false from nb10] at this; cases this
    have nb15 : b 15 = false := by
        cases hx : b 15 with
        | false => rfl
        | true => have := hcl 15 (by decide) hx 12 (by decide); rw [show b 12 = false from nb12] at this; cases this
    have ewc := (hwf nb15).symm
    subst ewc
    simp only [nb5, nb6, nb7, nb8, nb9, nb10, nb12, nb15, hbi, pu, Nat.reduceAdd, Nat.reduceEqDiff, reduceIte]
    refine F.oq rfl rfl rfl (fun _ => by simp [go_sem]) fun d K hK => ?_; go_simp; refine hK _ ?_; clear hK K d; try walk_nrm
    have hk2 := hkk g _ ⟨fun _ => rfl, fun h => no nb15 h⟩
    simp only [nb5, nb6, nb7, nb8, nb9, nb10, nb12, nb15, hbi, pu, Nat.reduceAdd, Nat.reduceEqDiff, reduceIte] at hk2
    exact hk2
  · intro b g w hI hcl hbi hdp rest hre hkk
    obtain ⟨hwf, hwt⟩ := hI
    replace hbi : b 5 = false := hbi
    have d4 : b 4 = true := hdp 4 (by decide)
    have nb6 : b 6 = false := nbf (fun h => hcl 6 (by decide) h 5 (by decide)) hbi
    have nb7 : b 7 = false := by
        cases hx : b 7 with
        | false => rfl
        | true => have := hcl 7 (by decide) hx 6 (by decide); rw [show b 6 = false from nb6] at this; cases this
    have nb8 : b 8 = false := by
        cases hx : b 8 with
        | false => rfl
        | true => have := hcl 8 (by decide) hx 7 (by decide); rw [show b 7 = false from nb7] at this; cases this
    have nb9 : b 9 = false := by
        cases hx : b 9 with
        | false => rfl
        | true => have := hcl 9 (by decide) hx 8 (by decide); rw [show b 8 = false from nb8] at this; cases this
    have nb10 : b 10 = false := by
        cases hx : b 10 with
        | false => rfl
        | true => have := hcl 10 (by decide) hx 9 (by decide); rw [show b 9 = false from nb9] at this; cases this
    have nb12 : b 12 = false := by
        cases hx : b 12 with
        | false => rfl
        | true => have := hcl 12 (by decide) hx 10 (by decide); rw [show b 10 = false from nb10] at this; cases this
    have nb15 : b 15 = false := by
        cases hx : b 15 with
        | false => rfl
        | true => have := hcl 15 (by decide) hx 12 (by decide); rw [show b 12 = false from nb12] at this; cases this
    have ewc := (hwf nb15).symm
    subst ewc
    simp only [d4, nb6, nb7, nb8, nb9, nb10, nb12, nb15, hbi, pu, Nat.reduceAdd, Nat.reduceEqDiff, reduceIte]
    refine F.oq rfl rfl rfl (fun _ => by simp [go_sem]) fun d K hK => ?_; go_simp; refine hK _ ?_; clear hK K d; try walk_nrm
    have hk2 := hkk g _ ⟨fun _ => rfl, fun h => no nb15 h⟩
    simp only [d4, nb6, nb7, nb8, nb9, nb10, nb12, nb15, hbi, pu, Nat.reduceAdd, Nat.reduceEqDiff, reduceIte] at hk2
    exact hk2
  · intro b g w hI hcl hbi hdp rest hre hkk
    obtain ⟨hwf, hwt⟩ := hI
    replace hbi : b 6 = false := hbi
    have d5 : b 5 = true := hdp 5 (by decide)
    have d4 : b 4 = true := hcl 5 (by decide) d5 4 (by decide)
    have nb7 : b 7 = false := nbf (fun h => hcl 7 (by decide) h 6 (by decide)) hbi
    have nb8 : b 8 = false := by
        cases hx : b 8 with
        | false => rfl
        | true => have := hcl 8 (by decide) hx 7 (by decide); rw [show b 7 = false from nb7] at this; cases this
    have nb9 : b 9 = false := by
        cases hx : b 9 with
        | false => rfl
        | true => have := hcl 9 (by decide) hx 8 (by decide); rw [show b 8 = false from nb8] at this; cases this
    have nb10 : b 10 = false := by
        cases hx : b 10 with
        | false => rfl
        | true => have := hcl 10 (by decide) hx 9 (by decide); rw [show b 9 = false from nb9] at this; cases this
    have nb12 : b 12 = false := by
        cases hx : b 12 with
        | false => rfl
        | true => have := hcl 12 (by decide) hx 10 (by decide); rw [show b 10 = false from nb10] at this; cases this
    have nb15 : b 15 = false := by
        cases hx : b 15 with
        | false => rfl
        | true => have := hcl 15 (by decide) hx 12 (by decide); rw [show b 12 = false from nb12] at this; cases this
    have ewc := (hwf nb15).symm
    subst ewc
    simp only [d5, d4, nb7, nb8, nb9, nb10, nb12, nb15, hbi, pu, Nat.reduceAdd, Nat.reduceEqDiff, reduceIte]
    refine F.oq rfl rfl rfl (fun _ => by simp [go_sem]) fun d K hK => ?_; go_simp; refine hK _ ?_; clear hK K d; try walk_nrm
    have hk2 := hkk g _ ⟨fun _ => rfl, fun h => no nb15 h⟩
    simp only [d5, d4, nb7, nb8, nb9, nb10, nb12, nb15, hbi, pu, Nat.reduceAdd, Nat.reduceEqDiff, reduceIte] at hk2
    exact hk2
  · intro b g w hI hcl hbi hdp rest hre hkk
    obtain ⟨hwf, hwt⟩ := hI
    replace hbi : b 7 = false := hbi
    have d6 : b 6 = true := hdp 6 (by decide)
    have d5 : b 5 = true := hcl 6 (by decide) d6 5 (by decide)
    have d4 : b 4 = true := hcl 5 (by decide) d5 4 (by decide)
    have nb8 : b 8 = false := nbf (fun h => hcl 8 (by decide) h 7 (by decide)) hbi
    have nb9 : b 9 = false := by
        cases hx : b 9 with
        | false => rfl
        | true => have := hcl 9 (by decide) hx 8 (by decide); rw [show b 8 = false from nb8] at this; cases this
    have nb10 : b 10 = false := by
        cases hx : b 10 with
        | false => rfl
        | true => have := hcl 10 (by decide) hx 9 (by decide); rw [show b 9 = false from nb9] at this; cases this
    have nb12 : b 12 = false := by
        cases hx : b 12 with
        | false => rfl
        | true => have := hcl 12 (by decide) hx 10 (by decide); rw [show b 10 = false from nb10] at this; cases this
    have nb15 : b 15 = false := by
        cases hx : b 15 with
        | false => rfl
        | true => have := hcl 15 (by decide) hx 12 (by decide); rw [show b 12 = false from nb12] at this; cases this
    have ewc := (hwf nb15).symm
    subst ewc
    simp only [d6, d5, d4, nb8, nb9, nb10, nb12, nb15, hbi, pu, Nat.reduceAdd, Nat.reduceEqDiff, reduceIte]
    refine F.op rfl rfl (by decide) (fun d K hK => ?_)
    go_simp
    refine hK _ _ ⟨DX.still _ (fun e he => ?_), ?_⟩
    · have hm := mem_listed he
      simp [go_sem, *] at hm
      subst hm
      exact .inl ⟨_, rfl, rfl, by (first | assumption | (apply hfr <;> dsimp only <;> omega) | (apply hok; simp; done)), lt_of_cell (w := w1) (by assumption)⟩
    clear hK K d
    try walk_nrm
    have hk2 := hkk g _ ⟨fun _ => rfl, fun h => no nb15 h⟩
    simp only [d6, d5, d4, nb8, nb9, nb10, nb12, nb15, hbi, pu, Nat.reduceAdd, Nat.reduceEqDiff, reduceIte] at hk2
    exact hk2
  · intro b g w hI hcl hbi hdp rest hre hkk
    obtain ⟨hwf, hwt⟩ := hI
    replace hbi : b 8 = false := hbi
    have d7 : b 7 = true := hdp 7 (by decide)
    have d6 : b 6 = true := hcl 7 (by decide) d7 6 (by decide)
    have d5 : b 5 = true := hcl 6 (by decide) d6 5 (by decide)
    have d4 : b 4 = true := hcl 5 (by decide) d5 4 (by decide)
    have nb9 : b 9 = false := nbf (fun h => hcl 9 (by decide) h 8 (by decide)) hbi
    have nb10 : b 10 = false := by
        cases hx : b 10 with
        | false => rfl
        | true => have := hcl 10 (by decide) hx 9 (by decide); rw [show b 9 = false from nb9] at this; cases this
    have nb12 : b 12 = false := by
        cases hx : b 12 with
        | false => rfl
        | true => have := hcl 12 (by decide) hx 10 (by decide); rw [show b 10 = false from nb10] at this; cases this
    have nb15 : b 15 = false := by
        cases hx : b 15 with
        | false => rfl
        | true => have := hcl 15 (by decide) hx 12 (by decide); rw [show b 12 = false from nb12] at this; cases this
    have ewc := (hwf nb15).symm
    subst ewc
    simp only [d7, d6, d5, d4, nb9, nb10, nb12, nb15, hbi, pu, Nat.reduceAdd, Nat.reduceEqDiff, reduceIte]
    refine F.oq rfl rfl rfl (fun _ => by simp [go_sem]) fun d K hK => ?_; go_simp; refine hK _ ?_; clear hK K d; try walk_nrm
    have hk2 := hkk g _ ⟨fun _ => rfl, fun h => no nb15 h⟩
    simp only [d7, d6, d5, d4, nb9, nb10, nb12, nb15, hbi, pu, Nat.reduceAdd, Nat.reduceEqDiff, reduceIte] at hk2
    exact hk2
  · intro b g w hI hcl hbi hdp rest hre hkk
    obtain ⟨hwf, hwt⟩ := hI
    replace hbi : b 9 = false := hbi
    have d8 : b 8 = true := hdp 8 (by decide)
    have d7 : b 7 = true := hcl 8 (by decide) d8 7 (by decide)
    have d6 : b 6 = true := hcl 7 (by decide) d7 6 (by decide)
    have d5 : b 5 = true := hcl 6 (by decide) d6 5 (by decide)
    have d4 : b 4 = true := hcl 5 (by decide) d5 4 (by decide)
    have nb10 : b 10 = false := nbf (fun h => hcl 10 (by decide) h 9 (by decide)) hbi
    have nb12 : b 12 = false := by
        cases hx : b 12 with
        | false => rfl
        | true => have := hcl 12 (by decide) hx 10 (by decide); rw [show b 10 = false from nb10] at this; cases this
    have nb15 : b 15 = false := by
        cases hx : b 15 with
        | false => rfl
        | true => have := hcl 15 (by decide) hx 12 (by decide); rw [show b 12 = false from nb12] at this; cases this
    have ewc := (hwf nb15).symm
    subst ewc
    simp only [d8, d7, d6, d5, d4, nb10, nb12, nb15, hbi, pu, Nat.reduceAdd, Nat.reduceEqDiff, reduceIte]
    refine F.oq rfl rfl rfl (fun _ => by simp [go_sem]) fun d K hK => ?_; go_simp; refine hK _ ?_; clear hK K d; try walk_nrm
    have hk2 := hkk g _ ⟨fun _ => rfl, fun h => no nb15 h⟩
    simp only [d8, d7, d6, d5, d4, nb10, nb12, nb15, hbi, pu, Nat.reduceAdd, Nat.reduceEqDiff, reduceIte] at hk2
    exact hk2
  · intro b g w hI hcl hbi hdp rest hre hkk
    obtain ⟨hwf, hwt⟩ := hI
    replace hbi : b 10 = false := hbi
    have d9 : b 9 = true := hdp 9 (by decide)
    have d8 : b 8 = true := hcl 9 (by decide) d9 8 (by decide)
    have d7 : b 7 = true := hcl 8 (by decide) d8 7 (by decide)
    have d6 : b 6 = true := hcl 7 (by decide) d7 6 (by decide)
    have d5 : b 5 = true := hcl 6 (by decide) d6 5 (by decide)
    have d4 : b 4 = true := hcl 5 (by decide) d5 4 (by decide)
    have nb12 : b 12 = false := nbf (fun h => hcl 12 (by decide) h 10 (by decide)) hbi
    have nb15 : b 15 = false := by
        cases hx : b 15 with
        | false => rfl
        | true => have := hcl 15 (by decide) hx 12 (by decide); rw [show b 12 = false from nb12] at this; cases this
    have ewc := (hwf nb15).symm
    subst ewc
    simp only [d9, d8, d7, d6, d5, d4, nb12, nb15, hbi, pu, Nat.reduceAdd, Nat.reduceEqDiff, reduceIte]
    refine F.op rfl rfl (by decide) (fun d K hK => ?_)
    go_simp
    refine hK _ _ ⟨DX.still _ (fun e he => ?_), ?_⟩
    · have hm := mem_listed he
      simp [go_sem, *] at hm
      subst hm
      exact .inl ⟨_, rfl, rfl, by (first | assumption | (apply hfr <;> dsimp only <;> omega) | (apply hok; simp; done)), lt_of_cell (w := w1) (by assumption)⟩
    clear hK K d
    try walk_nrm
    have hk2 := hkk g _ ⟨fun _ => rfl, fun h => no nb15 h⟩
    simp only [d9, d8, d7, d6, d5, d4, nb12, nb15, hbi, pu, Nat.reduceAdd, Nat.reduceEqDiff, reduceIte] at hk2
    exact hk2
  · intro b g w hI hcl hbi hdp rest hre hkk
    obtain ⟨hwf, hwt⟩ := hI
    replace hbi : b 11 = false := hbi
    have nb12 : b 12 = false := nbf (fun h => hcl 12 (by decide) h 11 (by decide)) hbi
    have nb15 : b 15 = false := by
        cases hx : b 15 with
        | false => rfl
        | true => have := hcl 15 (by decide) hx 12 (by decide); rw [show b 12 = false from nb12] at this; cases this
    have ewc := (hwf nb15).symm
    subst ewc
    simp only [nb12, nb15, hbi, pu, Nat.reduceAdd, Nat.reduceEqDiff, reduceIte]
    refine F.oq rfl rfl rfl (fun _ => by simp [go_sem]) fun d K hK => ?_; go_simp; refine hK _ ?_; clear hK K d; try walk_nrm
    have hk2 := hkk g _ ⟨fun _ => rfl, fun h => no nb15 h⟩
    simp only [nb12, nb15, hbi, pu, Nat.reduceAdd, Nat.reduceEqDiff, reduceIte] at hk2
    exact hk2
  · intro b g w hI hcl hbi hdp rest hre hkk
    obtain ⟨hwf, hwt⟩ := hI
    replace hbi : b 12 = false := hbi
    have d10 : b 10 = true := hdp 10 (by decide)
    have d11 : b 11 = true := hdp 11 (by decide)
    have d9 : b 9 = true := hcl 10 (by decide) d10 9 (by decide)
    have d8 : b 8 = true := hcl 9 (by decide) d9 8 (by decide)
    have d7 : b 7 = true := hcl 8 (by decide) d8 7 (by decide)
    have d6 : b 6 = true := hcl 7 (by decide) d7 6 (by decide)
    have d5 : b 5 = true := hcl 6 (by decide) d6 5 (by decide)
    have d4 : b 4 = true := hcl 5 (by decide) d5 4 (by decide)
    have nb15 : b 15 = false := nbf (fun h => hcl 15 (by decide) h 12 (by decide)) hbi
    have ewc := (hwf nb15).symm
    subst ewc
    simp only [d10, d11, d9, d8, d7, d6, d5, d4, nb15, hbi, pu, Nat.reduceAdd, Nat.reduceEqDiff, reduceIte]
    refine F.oq rfl rfl rfl (fun _ => by simp [go_sem]) fun d K hK => ?_; go_simp; refine hK _ ?_; clear hK K d; try walk_nrm
    have hk2 := hkk g _ ⟨fun _ => rfl, fun h => no nb15 h⟩
    simp only [d10, d11, d9, d8, d7, d6, d5, d4, nb15, hbi, pu, Nat.reduceAdd, Nat.reduceEqDiff, reduceIte] at hk2
    exact hk2
  · intro b g w hI hcl hbi hdp rest hre hkk
    obtain ⟨hwf, hwt⟩ := hI
    replace hbi : b 13 = false := hbi
    have nb14 : b 14 = false := nbf (fun h => hcl 14 (by decide) h 13 (by decide)) hbi
    have nb15 : b 15 = false := by
        cases hx : b 15 with
        | false => rfl
        | true => have := hcl 15 (by decide) hx 14 (by decide); rw [show b 14 = false from nb14] at this; cases this
    have ewc := (hwf nb15).symm
    subst ewc
    simp only [nb14, nb15, hbi, pu, Nat.reduceAdd, Nat.reduceEqDiff, reduceIte]
    refine F.oq rfl rfl rfl (fun _ => by simp [go_sem]) fun d K hK => ?_; go_simp; refine hK _ ?_; clear hK K d; try walk_nrm
    have hk2 := hkk g _ ⟨fun _ => rfl, fun h => no nb15 h⟩
    simp only [nb14, nb15, hbi, pu, Nat.reduceAdd, Nat.reduceEqDiff, reduceIte] at hk2
    exact hk2
  · intro b g w hI hcl hbi hdp rest hre hkk
    obtain ⟨hwf, hwt⟩ := hI
    replace hbi : b 14 = false := hbi
    have d13 : b 13 = true := hdp 13 (by decide)
    have nb15 : b 15 = false := nbf (fun h => hcl 15 (by decide) h 14 (by decide)) hbi
    have ewc := (hwf nb15).symm
    subst ewc
    simp only [d13, nb15, hbi, pu, Nat.reduceAdd, Nat.reduceEqDiff, reduceIte]
    refine F.oq rfl rfl rfl (fun _ => by simp [go_sem]) fun d K hK => ?_; go_simp; refine hK _ ?_; clear hK K d; try walk_nrm
    have hk2 := hkk g _ ⟨fun _ => rfl, fun h => no nb15 h⟩
    simp only [d13, nb15, hbi, pu, Nat.reduceAdd, Nat.reduceEqDiff, reduceIte] at hk2
    exact hk2
  · intro b g w hI hcl hbi hdp rest hre hkk
    obtain ⟨hwf, hwt⟩ := hI
    replace hbi : b 15 = false := hbi
    have d3 : b 3 = true := hdp 3 (by decide)
    have d12 : b 12 = true := hdp 12 (by decide)
    have d14 : b 14 = true := hdp 14 (by decide)
    have d13 : b 13 = true := hcl 14 (by decide) d14 13 (by decide)
    have d10 : b 10 = true := hcl 12 (by decide) d12 10 (by decide)
    have d11 : b 11 = true := hcl 12 (by decide) d12 11 (by decide)
    have d9 : b 9 = true := hcl 10 (by decide) d10 9 (by decide)
    have d8 : b 8 = true := hcl 9 (by decide) d9 8 (by decide)
    have d7 : b 7 = true := hcl 8 (by decide) d8 7 (by decide)
    have d6 : b 6 = true := hcl 7 (by decide) d7 6 (by decide)
    have d5 : b 5 = true := hcl 6 (by decide) d6 5 (by decide)
    have d4 : b 4 = true := hcl 5 (by decide) d5 4 (by decide)
    have d2 : b 2 = true := hcl 3 (by decide) d3 2 (by decide)
    have d1 : b 1 = true := hcl 2 (by decide) d2 1 (by decide)
    have d0 : b 0 = true := hcl 1 (by decide) d1 0 (by decide)
    have ewc := (hwf hbi).symm
    subst ewc
    simp only [d3, d12, d14, d13, d10, d11, d9, d8, d7, d6, d5, d4, d2, d1, d0, hbi, pu, Nat.reduceAdd, Nat.reduceEqDiff, reduceIte]
    refine F.enter rfl rfl (by decide) (fun _ => run_call_body rfl Tryz.func49 (by rfl) (by rfl)) (fun _ => events_call_body rfl Tryz.func49 (by rfl) (by rfl) _) ?_
    walk_nrm
    refine put_x e.N e.A (now + span) (.func 144) #[.pointer (some ⟨n1, 0, none⟩)] #[] en w1 (by omega) lA H1.emp H1.a1 H1.z1 ⟨K.a1, fun h => by cases h⟩ ⟨K.a1w, fun _ z => by simp at z <;> omega⟩ (fun a wr h => ⟨K.fr a wr (by rcases h with h | h; exact (H1.emp.lt (mem_rowL.1 h)).1; omega) (by have := H1.sX; rcases h with h | h; exact fun z => H1.xe (z ▸ h); omega), fun _ z => by rcases h with h | h; have := hlt _ h; rw [z] at this; simp at this; omega; rw [z] at h; simp at h; omega⟩) _ F _ _ (fun v w' hp => ?_)
    obtain ⟨rfl, kq, en', f1, f2, f3, f4⟩ := hp
    rw [Frame.finish_at]
    try walk_nrm
    have hA' : e.A ∉ rowL en := H.emp.rowN lA
    have hT' : e.T ∉ rowL en := H.emp.rowN lT
    have hn' : n1 ∉ rowL en := fun z => by have := hlt _ z; omega
    have cT : ∀ i, (⟨e.T, i, none⟩ : Addr) ∉ [(⟨e.A, 1, none⟩ : Addr)] := fun i z => by simp at z <;> omega
    have cn : ∀ i, (⟨n1, i, none⟩ : Addr) ∉ [(⟨e.A, 1, none⟩ : Addr)] := fun i z => by simp at z <;> omega
    have cA : ∀ i, i ≠ 1 → (⟨e.A, i, none⟩ : Addr) ∉ [(⟨e.A, 1, none⟩ : Addr)] := fun i h z => by simp at z <;> omega
    obtain ⟨x4, h4⟩ := H1.t4
    have hb : Base e w' now en' := ⟨Nat.le_trans H1.size kq.size, Nat.lt_of_lt_of_le H1.sX kq.size, H1.nX, kq.cellC _ _ hT' (cT _) H1.t0, kq.cellC _ _ hT' (cT _) H1.t2, kq.cellC _ _ hT' (cT _) H1.t3, ⟨x4, kq.cellC _ _ hT' (cT _) h4⟩, (kq.frozC _ _ hT' (cT _) h4).trans H1.z4, kq.cellC _ _ hT' (cT _) H1.t6, kq.cellC _ _ hT' (cT _) H1.t7, (kq.frozC _ _ hT' (cT _) H1.t7).trans H1.z7, kq.cellC _ _ hA' (cA _ (by decide)) H1.a0, (kq.frozC _ _ hA' (cA _ (by decide)) H1.a0).trans H1.za0, f1, f2, kq.cellC _ _ hA' (cA _ (by decide)) H1.a3, kq.cellC _ _ hA' (cA _ (by decide)) H1.a4⟩
    have hk2 := hkk g _ ⟨fun h => by simp [tick] at h, fun _ => ⟨kp.callN kq (fun x hx => .inl hx) (fun x hx => .inl hx), en', ⟨hb, by omega, kq.cellC _ _ hn' (cn _) hx0, kq.cellC _ _ hn' (cn _) hx1, (kq.frozC _ _ hn' (cn _) hx1).trans zx1, f3, fun z => by rcases f4 _ z with y | y; exact hn' y; omega⟩, fun g hg => (f4 g hg).imp id fun y => by omega⟩⟩
    simp only [d3, d12, d14, d13, d10, d11, d9, d8, d7, d6, d5, d4, d2, d1, d0, hbi, pu, Nat.reduceAdd, Nat.reduceEqDiff, reduceIte] at hk2
    exact hk2
  intro b g w hI hall
  obtain ⟨hwf, hwt⟩ := hI
  simp only [hall 0 (by decide), hall 1 (by decide), hall 2 (by decide), hall 3 (by decide), hall 4 (by decide), hall 5 (by decide), hall 6 (by decide), hall 7 (by decide), hall 8 (by decide), hall 9 (by decide), hall 10 (by decide), hall 11 (by decide), hall 12 (by decide), hall 13 (by decide), hall 14 (by decide), hall 15 (by decide), pu, Nat.reduceAdd, Nat.reduceEqDiff, reduceIte]
  refine F.esr ?_
  simp only [rg, Nat.reduceAdd]
  iterate 2 (refine F.oq rfl rfl rfl (fun _ => by simp [go_sem]) fun d K hK => ?_; go_simp; refine hK _ ?_; clear hK K d; try walk_nrm)
  refine F.re ?_
  refine F.ctl (fun _ => stepG_ret') ?_
  refine F.leave rfl rfl Tryz.func152 (resultsC_tmp (by rfl) _) ?_
  obtain ⟨k1, en', k2, k3⟩ := hwt (hall 15 (by decide))
  exact hc _ _ _ ⟨rfl, hn1.symm ▸ rfl, k1, en', k2, k3⟩

end Go.Proofs.YtobagnjnbmgidaaGreatDoor
