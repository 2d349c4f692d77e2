/- Walks of small functions. -/
import Derived.Test.YtobagnjnbmgidaaGreatDoorChecked
import Derived.Test.YtobagnjnbmgidaaGreatDoorZ1
import Derived.Conc.TokenWords
import Derived.Laws.AppendOwn
import Derived.Maps.AppendAt
set_option linter.unusedSimpArgs false
set_option linter.unusedVariables false
set_option maxRecDepth 100000
namespace Go.Proofs.YtobagnjnbmgidaaGreatDoor
section
open Go.Conc Go.RowKit
variable {main : Bool} {Ok : Addr → Bool → Prop}

theorem now_x (tb ab : Nat) (n : Int) (w : World) (h0 : w.cell? ⟨tb, 0, none⟩ = some (.pointer (some ⟨ab, 0, none⟩))) (h1 : w.cell? ⟨ab, 0, none⟩ = some (.int .i64 n)) (o1 : Ok ⟨tb, 0, none⟩ false) (o2 : Ok ⟨ab, 0, none⟩ false) :
    CallsX Tryz.prog main (DX Ok) 53 #[.pointer (some ⟨tb, 0, none⟩)] w fun v w' => v = .int .i64 n ∧ w' = w := by
  intro Ψ F c cs hc; rw [enter_at _ Tryz.func53 rfl]; simp only [Tryz.ntmps53, List.size_toArray, List.length_cons, List.length_nil, Nat.reduceAdd, Nat.reduceSub, Array.replicate_succ, Array.replicate_zero, List.push_toArray, List.append_toArray, List.nil_append, List.cons_append]; refine F.sr ?_; simp only [rg, Nat.reduceAdd]; refine F.oq rfl rfl rfl (by simp [go_sem]) fun d K h => ?_; go_simp; refine h _ ?_; clear h K d; try walk_nrm
  refine F.esr ?_; simp only [rg, Nat.reduceAdd]; iterate 3 (refine F.oq rfl rfl rfl (by simp [go_sem]) fun d K h => ?_; go_simp; refine h _ ?_; clear h K d; try walk_nrm)
  refine F.ol rfl rfl rfl fun d K hK => ?_
  go_simp; refine hK _ (fun e hm => ?_) ?_
  · simp [go_sem, *] at hm
    subst hm; exact .inl ⟨_, rfl, rfl, by first | assumption | (simp; done), lt_of_cell (w := w) (by assumption)⟩
  clear hK K d; try walk_nrm
  iterate 2 (refine F.oq rfl rfl rfl (by simp [go_sem]) fun d K h => ?_; go_simp; refine h _ ?_; clear h K d; try walk_nrm)
  refine F.ol rfl rfl rfl fun d K hK => ?_
  go_simp; refine hK _ (fun e hm => ?_) ?_
  · simp [go_sem, *] at hm
    subst hm; exact .inl ⟨_, rfl, rfl, by first | assumption | (simp; done), lt_of_cell (w := w) (by assumption)⟩
  clear hK K d; try walk_nrm
  refine F.oq rfl rfl rfl (by simp [go_sem]) fun d K h => ?_; go_simp; refine h _ ?_; clear h K d; try walk_nrm
  refine F.re ?_; refine F.ctl (fun _ => stepG_ret') ?_; refine F.leave rfl rfl Tryz.func53 (resultsC_tmp (by rfl) _) ?_; exact hc _ _ ⟨rfl, rfl⟩

theorem client_x (tb : Nat) (n : Int) (w : World) (h0 : w.cell? ⟨tb, 2, none⟩ = some (.int .i64 n)) (o1 : Ok ⟨tb, 2, none⟩ false) :
    CallsX Tryz.prog main (DX Ok) 148 #[.pointer (some ⟨tb, 0, none⟩)] w fun v w' => v = .int .i64 n ∧ w' = w := by
  intro Ψ F c cs hc; rw [enter_at _ Tryz.func148 rfl]; simp only [Tryz.ntmps148, List.size_toArray, List.length_cons, List.length_nil, Nat.reduceAdd, Nat.reduceSub, Array.replicate_succ, Array.replicate_zero, List.push_toArray, List.append_toArray, List.nil_append, List.cons_append]; refine F.sr ?_; simp only [rg, Nat.reduceAdd]; refine F.oq rfl rfl rfl (by simp [go_sem]) fun d K h => ?_; go_simp; refine h _ ?_; clear h K d; try walk_nrm
  refine F.esr ?_; simp only [rg, Nat.reduceAdd]; iterate 3 (refine F.oq rfl rfl rfl (by simp [go_sem]) fun d K h => ?_; go_simp; refine h _ ?_; clear h K d; try walk_nrm)
  refine F.ol rfl rfl rfl fun d K hK => ?_
  go_simp; refine hK _ (fun e hm => ?_) ?_
  · simp [go_sem, *] at hm
    subst hm; exact .inl ⟨_, rfl, rfl, by first | assumption | (simp; done), lt_of_cell (w := w) (by assumption)⟩
  clear hK K d; try walk_nrm
  refine F.oq rfl rfl rfl (by simp [go_sem]) fun d K h => ?_; go_simp; refine h _ ?_; clear h K d; try walk_nrm
  refine F.re ?_; refine F.ctl (fun _ => stepG_ret') ?_; refine F.leave rfl rfl Tryz.func148 (resultsC_tmp (by rfl) _) ?_; exact hc _ _ ⟨rfl, rfl⟩

theorem new_x (k l n : Int) (w : World) :
    CallsX Tryz.prog main (DX Ok) 154 #[.int .i64 k, .int .i64 l, .int .i64 n] w fun v w' => v = .iface 168 (.pointer (some ⟨w.heap.size, 0, none⟩)) ∧ w' = w.alloc (.cells #[.int .i64 k, .int .i64 l, .int .i64 n, .nilIface] 173) := by
  intro Ψ F c cs hc; rw [enter_at _ Tryz.func154 rfl]; simp only [Tryz.ntmps154, List.size_toArray, List.length_cons, List.length_nil, Nat.reduceAdd, Nat.reduceSub, Array.replicate_succ, Array.replicate_zero, List.push_toArray, List.append_toArray, List.nil_append, List.cons_append]; refine F.sr ?_; simp only [rg, Nat.reduceAdd]; refine F.oq rfl rfl rfl (by simp [go_sem]) fun d K h => ?_; go_simp; refine h _ ?_; clear h K d; try walk_nrm
  refine F.esr ?_; simp only [rg, Nat.reduceAdd]; iterate 4 (refine F.oq rfl rfl rfl (by simp [go_sem]) fun d K h => ?_; go_simp; refine h _ ?_; clear h K d; try walk_nrm)
  refine F.op rfl rfl (by decide) (fun d K hK => ?_); go_simp; rw [alloc_at']; refine hK _ _ ⟨DX.alloc _ _ (fun e he => ?_), ?_⟩
  · have hm := mem_listed he
    simp [go_sem] at hm
  clear hK K d; try walk_nrm
  iterate 2 (refine F.oq rfl rfl rfl (fun _ => by first | (simp [go_sem]; done) | simp [go_sem, Instr.makeInterface, Instr.makeFunc, *]) fun d K hK => ?_; go_simp; refine hK _ ?_; clear hK K d; try walk_nrm)
  refine F.re ?_; refine F.ctl (fun _ => stepG_ret') ?_; refine F.leave rfl rfl Tryz.func154 (resultsC_tmp (by rfl) _) ?_; exact hc _ _ ⟨rfl, rfl⟩

theorem fail_x (cb : Nat) (k num n : Int) (w : World) (h1 : w.cell? ⟨cb, 1, none⟩ = some (.int .i64 num)) (o1 : Ok ⟨cb, 1, none⟩ false) :
    CallsX Tryz.prog main (DX Ok) 151 #[.pointer (some ⟨cb, 0, none⟩), .int .i64 k, .int .i64 n] w fun v w' => v = .tuple #[.int .i64 0, .iface 168 (.pointer (some ⟨w.heap.size, 0, none⟩))] ∧ w' = w.alloc (.cells #[.int .i64 k, .int .i64 num, .int .i64 n, .nilIface] 173) := by
  intro Ψ F c cs hc; rw [enter_at _ Tryz.func151 rfl]; simp only [Tryz.ntmps151, List.size_toArray, List.length_cons, List.length_nil, Nat.reduceAdd, Nat.reduceSub, Array.replicate_succ, Array.replicate_zero, List.push_toArray, List.append_toArray, List.nil_append, List.cons_append]; refine F.sr ?_; simp only [rg, Nat.reduceAdd]; iterate 2 (refine F.oq rfl rfl rfl (by simp [go_sem]) fun d K h => ?_; go_simp; refine h _ ?_; clear h K d; try walk_nrm)
  refine F.esr ?_; simp only [rg, Nat.reduceAdd]; iterate 4 (refine F.oq rfl rfl rfl (by simp [go_sem]) fun d K h => ?_; go_simp; refine h _ ?_; clear h K d; try walk_nrm)
  refine F.ol rfl rfl rfl fun d K hK => ?_
  go_simp; refine hK _ (fun e hm => ?_) ?_
  · simp [go_sem, *] at hm
    subst hm; exact .inl ⟨_, rfl, rfl, by first | assumption | (simp; done), lt_of_cell (w := w) (by assumption)⟩
  clear hK K d; try walk_nrm
  refine F.oq rfl rfl rfl (by simp [go_sem]) fun d K h => ?_; go_simp; refine h _ ?_; clear h K d; try walk_nrm
  refine F.enter rfl rfl (by decide) (fun _ => run_call_body rfl Tryz.func154 (by rfl) (by rfl)) (fun _ => events_call_body rfl Tryz.func154 (by rfl) (by rfl) _) ?_; walk_nrm; refine new_x _ _ _ _ Ψ F _ _ (fun v w' hp => ?_); obtain ⟨rfl, rfl⟩ := hp; rw [Frame.finish_at]; try walk_nrm
  iterate 2 (refine F.oq rfl rfl rfl (by simp [go_sem]) fun d K h => ?_; go_simp; refine h _ ?_; clear h K d; try walk_nrm)
  refine F.re ?_; refine F.ctl (fun _ => stepG_ret') ?_; refine F.leave rfl rfl Tryz.func151 (resultsC_tmp2 (by rfl) _) ?_; exact hc _ _ ⟨rfl, rfl⟩
end
section
open Go.Conc Go.RowKit

theorem mixed : Tryz.prog.follows .mixedOrders = true := by kernel_rfl

theorem Fut.opd {P : Program} {main : Bool} {D : World → World → Array Event → Prop} {Ψ : Goroutine → World → Prop} {b : Frame} {a : Act} {k : List Item} {cs : List Frame} {w : World} (F : Fut P main D Ψ) {ops : Array Oper} {i : Nat} {rest : List Nat} {o : Oper}
    (ho : ops[i]? = some o) (hw : Region.wanted o (yielded ops a.tmps) = true) (hk : b.kind ≠ .early)
    (h : ∀ d, ∀ K : Act → World → Prop, (∀ a' w', D (w.at d) w' (raw P a o (w.at d)) ∧ Ψ (G (b.at a' (.inRegion ops rest :: k)) cs) w' → K a' w') → uponK o a K ((execOp a.eval o).run P (w.at d))) :
    Ψ (G (b.at a (.inRegion ops (i :: rest) :: k)) cs) w :=
  F.opw ho hw hk h

/-! ### What is left of the world -/
structure Kp (L : List Nat) (w w' : World) (C : List Addr := []) : Prop where
  size : w.heap.size ≤ w'.heap.size
  cellC : ∀ (a : Addr) (v : Value), a.block ∉ L → a ∉ C → w.cell? a = some v → w'.cell? a = some v
  frozC : ∀ (a : Addr) (v : Value), a.block ∉ L → a ∉ C → w.cell? a = some v → w'.frozen? a = w.frozen? a
  blk : ∀ (k : Nat) (c : Array Value) (t : TypeId) (f : Nat × Nat), k ∉ L → (∀ x ∈ C, x.block ≠ k) → w.heap[k]? = some (.cells c t f) → w'.heap[k]? = some (.cells c t f)

section
variable {L L' : List Nat} {C C' : List Addr} {w w' w₁ w₂ : World} {a p : Addr} {v v' : Value} {o : Obj} {n i : Nat}
theorem Kp.cell (h : Kp L w w') (a : Addr) (v : Value) (hn : a.block ∉ L) (hc : w.cell? a = some v) : w'.cell? a = some v := h.cellC a v hn (by simp) hc
theorem Kp.froz (h : Kp L w w') (a : Addr) (v : Value) (hn : a.block ∉ L) (hc : w.cell? a = some v) : w'.frozen? a = w.frozen? a := h.frozC a v hn (by simp) hc
theorem Kp.refl (w : World) : Kp L w w C := ⟨Nat.le_refl _, fun _ _ _ _ h => h, fun _ _ _ _ _ => rfl, fun _ _ _ _ _ _ h => h⟩
theorem Kp.callN (k : Kp L w w' C) (h : Kp L' w' w₁ C') (hL : ∀ x ∈ L', x ∈ L ∨ w.heap.size ≤ x) (hC : ∀ x ∈ C', x ∈ C ∨ x.block ∈ L ∨ w.heap.size ≤ x.block) : Kp L w w₁ C := by
  have hn : ∀ (a : Addr) (v : Value), a.block ∉ L → a ∉ C → w.cell? a = some v → a.block ∉ L' ∧ a ∉ C' := fun a v hn hc' hc => ⟨fun z => (hL _ z).elim hn fun y => absurd (lt_of_cell hc) (Nat.not_lt.2 y), fun z => (hC _ z).elim hc' fun y => y.elim hn fun y => absurd (lt_of_cell hc) (Nat.not_lt.2 y)⟩
  exact ⟨Nat.le_trans k.size h.size, fun a v hna hca hc => h.cellC a v (hn a v hna hca hc).1 (hn a v hna hca hc).2 (k.cellC a v hna hca hc), fun a v hna hca hc => (h.frozC a v (hn a v hna hca hc).1 (hn a v hna hca hc).2 (k.cellC a v hna hca hc)).trans (k.frozC a v hna hca hc), fun b c t f hb hbC ho => h.blk b c t f (fun z => (hL _ z).elim hb fun y => absurd (Array.getElem?_eq_some_iff.1 ho).1 (Nat.not_lt.2 y)) (fun x hx e => (hC x hx).elim (fun y => hbC x y e) fun y => y.elim (fun y => hb (e ▸ y)) fun y => absurd (Array.getElem?_eq_some_iff.1 ho).1 (Nat.not_lt.2 (e ▸ y))) (k.blk b c t f hb hbC ho)⟩
theorem Kp.callM (k : Kp L w w' C) (h : Kp L' w' w₁) (hL : ∀ x ∈ L', x ∈ L ∨ w.heap.size ≤ x) : Kp L w w₁ C := k.callN h hL (by simp)
theorem Kp.old (h : Kp L w w' C) (hL : ∀ x ∈ L, x ∈ L' ∨ w.heap.size ≤ x) (hC : ∀ x ∈ C, x ∈ C' ∨ x.block ∈ L' ∨ w.heap.size ≤ x.block) : Kp L' w w' C' := (Kp.refl w).callN h hL hC
theorem frozen_alloc_lt (hc : a.block < w.heap.size) : (w.alloc o).frozen? a = w.frozen? a := World.frozen?_alloc_old w o a (Nat.ne_of_lt hc)
theorem Kp.alloc (e : w.alloc o = w₁) : Kp L w w₁ := by
  subst e; exact ⟨by simp, fun a v _ _ hc => (World.cell?_alloc_lt _ _ _ (lt_of_cell hc)).trans hc, fun a v _ _ hc => frozen_alloc_lt (lt_of_cell hc), fun k c t f _ _ h => (Below.heap_alloc _ _ _ (Array.getElem?_eq_some_iff.1 h).1).trans h⟩
theorem Kp.setC (e : w.setCell p v = w₁) : Kp [] w w₁ [p] := by
  subst e; exact ⟨by simp [World.setCell], fun a x _ hn hc => (World.cell?_setCell_other _ _ _ _ (fun z => hn (by simp [z]))).trans hc, fun a x _ _ _ => World.frozen?_setCell _ _ _ _, fun k c t f _ hn h => by simp only [World.setCell, Array.getElem?_modify, hn p (by simp), if_false]; exact h⟩
theorem Kp.alN (k : Kp L w w' C) (e : w'.alloc o = w₁) : Kp L w w₁ C := k.callN (Kp.alloc (L := []) e) (by simp) (by simp)
theorem Kp.stN (k : Kp L w w' C) (e : w'.setCell p v = w₁) (hL : p.block ∈ L ∨ p ∈ C ∨ w.heap.size ≤ p.block) : Kp L w w₁ C :=
  k.callN (Kp.setC e) (by simp) (by intro x hx; simp at hx; subst hx; rcases hL with z | z | z; exact .inr (.inl z); exact .inl z; exact .inr (.inr z))

/-! Facts over one step. -/
theorem cl_al (h : w.cell? a = some v) (e : w.alloc o = w₁) : w₁.cell? a = some v := by subst e; exact (World.cell?_alloc_lt _ _ _ (lt_of_cell h)).trans h
theorem fz_al (z : w.frozen? a = false) (h : w.cell? a = some v) (e : w.alloc o = w₁) : w₁.frozen? a = false := by subst e; exact (frozen_alloc_lt (lt_of_cell h)).trans z
theorem sz_al (e : w.alloc o = w₁) (hn : w.heap.size = n) : w₁.heap.size = n + 1 := by subst e; subst hn; simp
theorem cl_new {c : Array Value} {t : TypeId} (e : w.alloc (.cells c t) = w₁) (hn : w.heap.size = n) (hv : c[i]? = some v) : w₁.cell? ⟨n, i, none⟩ = some v := by subst e; subst hn; exact (World.cell?_alloc_new w c t i).trans hv
theorem fz_new {c : Array Value} {t : TypeId} (e : w.alloc (.cells c t) = w₁) (hn : w.heap.size = n) (i : Nat) : w₁.frozen? ⟨n, i, none⟩ = false := by subst e; subst hn; exact World.frozen?_alloc_new w c t i
theorem hp_new (e : w.alloc o = w₁) (hn : w.heap.size = n) : w₁.heap[n]? = some o := by subst e; subst hn; show (w.heap.push o)[w.heap.size]? = _; simp
theorem cl_st (h : w.cell? a = some v) (e : w.setCell p v' = w₁) (hne : p ≠ a) : w₁.cell? a = some v := by subst e; exact (World.cell?_setCell_other _ _ _ _ hne).trans h
theorem cl_st' (h : w.cell? a = some v) (e : w.setCell a v' = w₁) : w₁.cell? a = some v' := by subst e; exact World.cell?_setCell_same _ _ _ h
theorem fz_st (z : w.frozen? a = false) (e : w.setCell p v' = w₁) : w₁.frozen? a = false := by subst e; rw [World.frozen?_setCell]; exact z
theorem sz_st (e : w.setCell p v' = w₁) : w₁.heap.size = w.heap.size := by subst e; simp [World.setCell]
theorem sz_st2 (e : w.setCell p v' = w₁) : w.heap.size ≤ w₁.heap.size ∧ w₁.heap.size ≤ w.heap.size := by have := sz_st e; omega
theorem sz_al2 (e : w.alloc o = w₁) (hn : w.heap.size = n) : n < w₁.heap.size ∧ w₁.heap.size ≤ n + 1 := by have := sz_al e hn; omega
end

/-! ### Several cells at once; results that lie in cells -/
theorem DX.sets {Ok : Addr → Bool → Prop} {es : Array Event} (d : Nat) : ∀ (l : List (Addr × Value)) (w : World), (∀ x ∈ l, Ok x.1 true) → (∀ e ∈ es, EvX Ok ((l.foldl (fun w x => w.setCell x.1 x.2) w).at d) e) → DX Ok (w.at d) ((l.foldl (fun w x => w.setCell x.1 x.2) w).at d) es
  | [], w, _, h => DX.still d h
  | x :: l, w, ok, h => by
    have h2 := DX.sets d l (w.setCell x.1 x.2) (fun y hy => ok y (List.mem_cons_of_mem _ hy)) h; have h1 : DX Ok (w.at d) ((w.setCell x.1 x.2).at d) #[] := DX.set d (ok x (List.mem_cons_self ..)) (by simp)
    exact ⟨h2.ev, Nat.le_trans h1.size h2.size, fun c o ho hn => h2.obj c o (h1.obj c o ho hn) hn, fun a ha hl => by
      have e1 := h1.cell a ha hl; have e2 := h2.cell a ha (Nat.lt_of_lt_of_le hl h1.size); exact ⟨e2.1.trans e1.1, e2.2.trans e1.2⟩, fun k hk hn => (h2.blk k (Nat.lt_of_lt_of_le hk h1.size) hn).trans (h1.blk k hk hn), h2.rest.1.trans h1.rest.1, h2.rest.2.1.trans h1.rest.2.1, h2.rest.2.2.trans h1.rest.2.2⟩
section
variable {Ok : Addr → Bool → Prop} {es : Array Event} {w : World} {a1 a2 a3 a4 a5 : Addr} {v1 v2 v3 v4 v5 : Value}
theorem DX.set2 (d : Nat) (o1 : Ok a1 true) (o2 : Ok a2 true) (h : ∀ e ∈ es, EvX Ok (((w.setCell a1 v1).setCell a2 v2).at d) e) : DX Ok (w.at d) (((w.setCell a1 v1).setCell a2 v2).at d) es :=
  DX.sets d [(a1, v1), (a2, v2)] w (by simp [o1, o2]) h
theorem DX.set3 (d : Nat) (o1 : Ok a1 true) (o2 : Ok a2 true) (o3 : Ok a3 true) (h : ∀ e ∈ es, EvX Ok ((((w.setCell a1 v1).setCell a2 v2).setCell a3 v3).at d) e) : DX Ok (w.at d) ((((w.setCell a1 v1).setCell a2 v2).setCell a3 v3).at d) es :=
  DX.sets d [(a1, v1), (a2, v2), (a3, v3)] w (by simp [o1, o2, o3]) h
theorem DX.set4 (d : Nat) (o1 : Ok a1 true) (o2 : Ok a2 true) (o3 : Ok a3 true) (o4 : Ok a4 true) (h : ∀ e ∈ es, EvX Ok (((((w.setCell a1 v1).setCell a2 v2).setCell a3 v3).setCell a4 v4).at d) e) : DX Ok (w.at d) (((((w.setCell a1 v1).setCell a2 v2).setCell a3 v3).setCell a4 v4).at d) es :=
  DX.sets d [(a1, v1), (a2, v2), (a3, v3), (a4, v4)] w (by simp [o1, o2, o3, o4]) h
end

theorem Fut.leaveE {P : Program} {main : Bool} {D : World → World → Array Event → Prop} {Ψ : Goroutine → World → Prop} {b : Frame} {a : Act} {cs : List Frame} {w : World} (F : Fut P main D Ψ) {fn : Func} {todo : List Item} {c : Frame} {v : Value} (hn : b.kind = .normal) (hd : a.defers = []) (hf : P.funcs[b.fn]? = some fn)
    (hr : ∀ d, (results fn a.tmps).run P (w.at d) = .ok v (w.at d)) (hD : ∀ d es, (∀ e ∈ es, e ∈ (results fn a.tmps).events P (w.at d) #[]) → D (w.at d) (w.at d) es) (h : Ψ (G (c.finish v) cs) w) : Ψ (G { b.at a todo with mode := .returning } (c :: cs)) w :=
  F.step _ _ rfl fun d => by
    have this : ∀ W, (results fn a.tmps).run P W = .ok v W → stepG P main (G { b.at a todo with mode := .returning } (c :: cs)) W = .go (G (c.finish v) cs) W (seen P b.fn ((results fn a.tmps).events P W #[])) := fun W hr => by
      simp [G, stepG, unwind, doReturn, Frame.at, hn, hd, hf, hr, GStep.after]
    refine ⟨_, _, _, this _ (hr d), hD d _ fun e he => mem_seen he, F.at' _ _ _ h, fun z x hz hR => ?_⟩; have hs := run_set x (results fn a.tmps) (w.at d) #[] hR (by rw [Sem.runT_fst, hr d]; trivial) (hz _ _ _ (hD d _ fun e he => he)); have e1 : (results fn a.tmps).run P ((w.at d).setCell z x) = .ok v ((w.at d).setCell z x) := by rw [← Sem.runT_fst (es := #[]), hs, Sem.runT_fst, hr d]; rfl
    have e2 : (results fn a.tmps).events P ((w.at d).setCell z x) #[] = (results fn a.tmps).events P (w.at d) #[] := by unfold Sem.events; rw [hs]
    rw [this _ e1, e2]

section
variable (P : Program) (w : World) (es : Array Event) (a : Addr) (m : Mode)
theorem evst_slice (b : Option Addr) (n c : Nat) : (store a (.slice b n c) m).events P w es = storedEv P w es a (.slice b n c) m := events_store P w es a _ m rfl
theorem evst_ptr (b : Option Addr) : (store a (.pointer b) m).events P w es = storedEv P w es a (.pointer b) m := events_store P w es a _ m rfl
theorem evst_iface (t : TypeId) (v : Value) : (store a (.iface t v) m).events P w es = storedEv P w es a (.iface t v) m := events_store P w es a _ m rfl
theorem evst_nil : (store a .nilIface m).events P w es = storedEv P w es a .nilIface m := events_store P w es a _ m rfl
theorem evst_bool (b : Bool) : (store a (.bool b) m).events P w es = storedEv P w es a (.bool b) m := events_store P w es a _ m rfl
end

/-! ### append -/
def rowL (v : Value) : List Nat := match v.ownBlock with | some g => [g] | none => []
theorem mem_rowL {v : Value} {g : Nat} : g ∈ rowL v ↔ v.ownBlock = some g := by
  unfold rowL; cases v.ownBlock with
  | none => simp
  | some x => simp [eq_comm]

theorem Kp.grown {w w' : World} {v : Value} (h : w.grownBy w' v.ownBlock) : Kp (rowL v) w w' := by
  have hb : ∀ (a : Addr) (x : Value), a.block ∉ rowL v → w.cell? a = some x → w'.heap[a.block]? = w.heap[a.block]? := fun a x hn hc => h.block _ (lt_of_cell hc) fun z => hn (mem_rowL.2 z.symm)
  exact ⟨h.size, fun a x hn _ hc => (World.cell?_of_block (hb a x hn hc)).trans hc, fun a x hn _ hc => World.frozen?_of_block (hb a x hn hc), fun k c t f hn _ ho => (h.block k (Array.getElem?_eq_some_iff.1 ho).1 fun z => hn (mem_rowL.2 z.symm)).trans ho⟩

theorem Fut.append {P : Program} {main : Bool} {Ok : Addr → Bool → Prop} {Ψ : Goroutine → World → Prop} {b : Frame} {a : Act} {k : List Item} {cs : List Frame} {w : World} (F : Fut P main (DX Ok) Ψ) {ops : Array Oper} {i : Nat} {rest : List Nat} {o : Oper}
    (ho : ops[i]? = some o) (hw : Region.wanted o (yielded ops a.tmps) = true) (hk : b.kind ≠ .early) (s x : Operand) (t e : TypeId) (hop : o.op = .call { callee := .builtin .append, args := #[s, x], argTypes := #[t, t] })
    (inf : TypeInfo) (z : Value) (base size bytes : Nat) (ht : P.underlying t = some (.slice e)) (hi : P.info? e = some inf) (hz : inf.zero = some z) (hsize : inf.size = size) (hby : inf.bytes = bytes) (hzs : z.cells.size = size) (hsz : 0 < size)
    {v : Value} {n nb : Nat} {xs news : List Value} (hs : a.eval s = v) (hx : a.eval x = .slice (some ⟨nb, 0, none⟩) 1 1) (hown : w.ownsRow base e size v n xs) (hl : news.length = size) (hnews : ∀ j u, news[j]? = some u → w.cell? ⟨nb, j, none⟩ = some u) (h1 : ∀ u ∈ news, u.oneCell' = true)
    (h63 : n + 1 ≤ maxLen) (hbytes : (n + 1) * bytes ≤ 140737488355328) (hbase : base ≤ w.heap.size) (hnb : nb < w.heap.size) (okrow : ∀ (ad : Addr) (wr : Bool), some ad.block = v.ownBlock → Ok ad wr) (oknb : ∀ ad : Addr, ad.block = nb → Ok ad false)
    (h : ∀ v' w', w'.ownsRow base e size v' (n + 1) (xs ++ news) → w.grownBy w' v.ownBlock → (v'.ownBlock = v.ownBlock ∨ v'.ownBlock = some w.heap.size) → Ψ (G (b.at (a.put o.dst v') (.inRegion ops rest :: k)) cs) w') :
    Ψ (G (b.at a (.inRegion ops (i :: rest) :: k)) cs) w := by
  refine F.opd ho hw hk fun d K hK => ?_
  have hown' : (w.at d).ownsRow base e size v n xs := hown; have hnews' : ∀ j u, news[j]? = some u → (w.at d).cell? ((⟨nb, 0, none⟩ : Addr).add j) = some u := fun j u hj => by rw [Addr.add_lit, Nat.zero_add]; exact hnews j u hj
  obtain ⟨v', w', hr, ho', hg, _, hb⟩ := run_append_own_at (P := P) (w := w.at d) base t o.type e inf z size bytes ht hi hz hsize hby hzs hsz v n xs hown' ⟨nb, 0, none⟩ 1 1 news (by simpa using hl) hnews' h1 h63 hbytes hbase
  have hvlt : ∀ g, v.ownBlock = some g → g < w.heap.size := fun g hgv => by
    rcases hown.2 with ⟨rfl, _⟩ | ⟨g', cap, cur, rfl, _, hh, _⟩
    · cases hgv
    · simp [Value.ownBlock] at hgv
      subst hgv; exact (Array.getElem?_eq_some_iff.1 hh).1
  refine uponK_append s x t hop hs hx hr (hK _ w' ⟨⟨fun ev hev => ?_, hg.size, fun c ob hob hn => ?_, fun ad had hlt => ?_, fun kk hkk hnn => hg.block kk hkk (fun z => hnn ⟨kk, 0, none⟩ rfl (okrow _ _ z)), hg.os, hg.tape, hg.output⟩, h v' w' ho' ⟨hg.os, hg.tape, hg.output, hg.size, hg.block⟩ hb⟩)
  · have hm := mem_listed hev
    rw [events_append_op s x t hop hs hx] at hm; rcases events_append_where (P := P) (w.at d) base t o.type e inf z size bytes ht hi hz hsize hby v n xs hown' ⟨nb, 0, none⟩ 1 1 news (by simpa using hl) hnews' h1 h63 hbytes ev hm with ⟨ad, e1, ⟨e2, e3⟩ | e2⟩ | ⟨m, e1, e2⟩
    · exact .inl ⟨ad, e1, rfl, by rw [e2]; exact oknb ad e3, by rw [e3]; exact Nat.lt_of_lt_of_le hnb hg.size⟩
    · exact .inl ⟨ad, e1, rfl, okrow ad _ e2, Nat.lt_of_lt_of_le (hvlt _ e2.symm) hg.size⟩
    · exact .inr (by rw [e1, show m = .noRoom from e2]; rfl)
  · have hlt : c < w.heap.size := (Array.getElem?_eq_some_iff.1 hob).1
    have hne : some c ≠ v.ownBlock := fun z => by
      rcases hown.2 with ⟨rfl, _⟩ | ⟨g', cap, cur, rfl, _, hh, _⟩
      · cases z
      · simp [Value.ownBlock] at z
        subst z; have : w.heap[c]? = some ob := hob; rw [hh] at this; exact hn _ _ _ (Option.some.inj this).symm
    exact (hg.block c hlt hne).trans hob
  · have hne : some ad.block ≠ v.ownBlock := fun z => had (okrow ad true z)
    have := hg.block _ hlt hne; exact ⟨World.cell?_of_block this, World.frozen?_of_block this⟩

theorem Kp.row {L : List Nat} {C : List Addr} {w w' : World} {base size n : Nat} {e : TypeId} {v : Value} {xs : List Value} (h : Kp L w w' C) (r : w.ownsRow base e size v n xs) (hn : ∀ g ∈ rowL v, g ∉ L ∧ ∀ x ∈ C, x.block ≠ g) : w'.ownsRow base e size v n xs := by
  refine ⟨r.1, r.2.imp id fun ⟨g, cap, cur, h1, h2, h3, h4⟩ => ⟨g, cap, cur, h1, h2, ?_, h4⟩⟩; have := hn g (mem_rowL.2 (by rw [h1]; rfl)); exact h.blk g _ _ _ this.1 this.2 h3
theorem ownsRow_al {w w₁ : World} {o : Obj} {base size n : Nat} {e : TypeId} {v : Value} {xs : List Value} (h : w.ownsRow base e size v n xs) (ea : w.alloc o = w₁) : w₁.ownsRow base e size v n xs := by
  subst ea; refine ⟨h.1, h.2.imp id fun ⟨g, cap, cur, h1, h2, h3, h4⟩ => ⟨g, cap, cur, h1, h2, ?_, h4⟩⟩; rw [Below.heap_alloc _ _ _ ((Array.getElem?_eq_some_iff.1 h3).1)]; exact h3
theorem ownsRow_st {w w₁ : World} {p : Addr} {u : Value} {base size n : Nat} {e : TypeId} {v : Value} {xs : List Value} (h : w.ownsRow base e size v n xs) (ea : w.setCell p u = w₁) (hp : p.block ∉ rowL v) : w₁.ownsRow base e size v n xs := by
  subst ea; refine ⟨h.1, h.2.imp id fun ⟨g, cap, cur, h1, h2, h3, h4⟩ => ⟨g, cap, cur, h1, h2, ?_, h4⟩⟩; subst h1; have : p.block ≠ g := fun z => hp (mem_rowL.2 (by simp [Value.ownBlock, z]))
  simp only [World.setCell, Array.getElem?_modify, this, if_false]; exact h3

/-! ### A region that draws its order -/
def sel (b : Bool) (x y : Value) : Value := match b with | true => x | false => y
def tick (b : Nat → Bool) (i : Nat) : Nat → Bool := fun j => if j = i then true else b j

theorem all_cons {p : Nat → Prop} {n k : Nat} (h : p k) (hs : ∀ i, k + 1 ≤ i → i < n → p i) : ∀ i, k ≤ i → i < n → p i := fun i h1 h2 => by
  rcases Nat.lt_or_ge k i with z | z
  · exact hs i z h2
  · have : i = k := Nat.le_antisymm z h1
    subst this; exact h
theorem all_nil {p : Nat → Prop} {n : Nat} : ∀ i, n ≤ i → i < n → p i := fun i h1 h2 => absurd h2 (Nat.not_lt.2 h1)

def depsOk (ops : Array Oper) (Dp : List (List Nat)) : Bool :=
  (List.range ops.size).all fun i => match ops[i]? with
    | some o => o.after.toList.all (fun e => !Region.binds .any e || decide (e.on < i)) && (Dp.getD i []).all (fun j => o.after.toList.any fun e => decide (e.on = j) && Region.binds .any e)
    | none => false

theorem Fut.drawf {P : Program} {main : Bool} {D : World → World → Array Event → Prop} {Ψ : Goroutine → World → Prop} {fr : Frame} {k : List Item} {cs : List Frame} {ops : Array Oper} {id : Nat} {a : Act} {w : World} (F : Fut P main D Ψ) (hm : P.follows .mixedOrders = true)
    {n : Nat} (Dp : List (List Nat)) (hn : ops.size = n) (hD : depsOk ops Dp = true)
    (I : (Nat → Bool) → Act → World → Prop) (h0 : I (fun _ => false) a w)
    (hstep : ∀ i, 0 ≤ i → i < n → ∀ (b : Nat → Bool) (a : Act) (w : World), I b a w → (∀ x, x < n → b x = true → ∀ j ∈ Dp.getD x [], b j = true) → b i = false → (∀ j ∈ Dp.getD i [], b j = true) → ∀ rest, ((∀ x, x < n → x ≠ i → b x = true) → rest = []) →
      (∀ a' w', I (tick b i) a' w' → Ψ (G (fr.at a' (.inRegion ops rest :: k)) cs) w') → Ψ (G (fr.at a (.inRegion ops (i :: rest) :: k)) cs) w)
    (hend : ∀ b a w, I b a w → (∀ i, i < n → b i = true) → Ψ (G (fr.at a (.inRegion ops [] :: k)) cs) w) :
    Ψ (G (fr.at a (.code (.region id ops true) :: k)) cs) w := by
  subst hn
  have hall : ∀ i o, ops[i]? = some o → (∀ e ∈ o.after, Region.binds .any e = true → e.on < i) ∧ ∀ j ∈ Dp.getD i [], ∃ e ∈ o.after, e.on = j ∧ Region.binds .any e = true := by
    intro i o ho; have hi : i < ops.size := (Array.getElem?_eq_some_iff.1 ho).1; have := List.all_eq_true.1 hD i (List.mem_range.2 hi); rw [ho] at this; simp only [Bool.and_eq_true, decide_eq_true_eq, List.all_eq_true, List.any_eq_true, Array.mem_toList_iff] at this; exact ⟨fun e he hb => (by have := this.1 e he; simpa [hb] using this), this.2⟩
  let m : Array Bool → Nat → Bool := fun l j => l.getD j false
  refine F.draw hm (fun l a w => l.size = ops.size ∧ I (m l) a w ∧ ∀ x, x < ops.size → m l x = true → ∀ j ∈ Dp.getD x [], m l j = true) (fun i o ho => (hall i o ho).1) (fun l a w h => h.1) ⟨by simp, ?_, fun x hx h => ?_⟩ (fun l a w i o hI ho hl hd rest hre hk => ?_) (fun l a w hI hf => ?_)
  · have : m (Array.replicate ops.size false) = fun _ => false := by
      funext j
      simp only [m, Array.getD]
      split <;> simp
    rw [this]; exact h0
  · have : m (Array.replicate ops.size false) x = false := by
      simp only [m, Array.getD]
      split <;> simp
    rw [this] at h; cases h
  · have hi : i < ops.size := (Array.getElem?_eq_some_iff.1 ho).1
    have hil : i < l.size := by rw [hI.1]; exact hi
    have hmk : m (l.setIfInBounds i true) = tick (m l) i := by
      funext j
      simp only [m, tick, Array.getD, Array.size_setIfInBounds]
      by_cases hj : j = i
      · subst hj; simp [hil]
      · by_cases hjl : j < l.size
        · simp [hjl, hj, Array.getElem_setIfInBounds]
          exact fun z => absurd z.symm hj
        · simp [hjl, hj]
    have hb : m l i = false := by
      simp only [m, Array.getD, hil, dif_pos] at hl ⊢; exact hl
    have hdd : ∀ j ∈ Dp.getD i [], m l j = true := fun j hj => by
      obtain ⟨e, he, rfl, hbn⟩ := (hall i o ho).2 j hj; exact hd e he hbn
    refine hstep i (Nat.zero_le _) hi (m l) a w hI.2.1 hI.2.2 hb hdd rest (fun h => hre fun j hj hji => by
      have := h j hj hji; have hjl : j < l.size := by rw [hI.1]; exact hj
      simp only [m, Array.getD, hjl, dif_pos] at this ⊢; exact this) fun a' w' hI' => hk a' w' ⟨by simp [hI.1], by rw [hmk]; exact hI', ?_⟩
    rw [hmk]; intro x hx h j hj
    by_cases hxi : x = i
    · subst hxi
      by_cases hji : j = x
      · simp [tick, hji]
      · have := hdd j hj
        simp [tick, this]
    · have h' : m l x = true := by simpa [tick, hxi] using h
      have := hI.2.2 x hx h' j hj; simp [tick, this]
  · refine hend (m l) a w hI.2.1 fun i hi => ?_
    have := hf i hi; have hil : i < l.size := by rw [hI.1]; exact hi
    simp only [m, Array.getD, hil, dif_pos] at this ⊢; exact this

def puts (a : Act) (l : List (Nat × Value)) : Act := ⟨l.foldl (fun t x => t.setIfInBounds x.1 x.2) a.tmps, a.defers⟩
theorem pu : (∀ (a : Act) (l : List (Nat × Value)), puts a l = ⟨l.foldl (fun t x => t.setIfInBounds x.1 x.2) a.tmps, a.defers⟩) ∧
    (∀ (f : Array Value → Nat × Value → Array Value) (t : Array Value), [].foldl f t = t) ∧ (∀ (f : Array Value → Nat × Value → Array Value) (t : Array Value) (x : Nat × Value) (l : List (Nat × Value)), (x :: l).foldl f t = l.foldl f (f t x)) ∧
    (∀ (b : Nat → Bool) (i j : Nat), tick b i j = if j = i then true else b j) ∧ (∀ n : Nat, 0 + n = n) ∧ (∀ x y : Value, sel true x y = x) ∧ (∀ x y : Value, sel false x y = y) ∧
    (∀ (l : List Value) (i : Nat) (v : Value), l.toArray.setIfInBounds i v = (l.set i v).toArray) ∧ (∀ (x : Value) (l : List Value) (i : Nat) (v : Value), (x :: l).set (i + 1) v = x :: l.set i v) ∧ (∀ (x : Value) (l : List Value) (v : Value), (x :: l).set 0 v = v :: l) ∧
    ((0 = 1) = False) ∧ ((1 = 0) = False) :=
  ⟨fun _ _ => rfl, fun _ _ => rfl, fun _ _ _ _ => rfl, fun _ _ _ => rfl, Nat.zero_add, fun _ _ => rfl, fun _ _ => rfl, fun _ _ _ => by simp, fun _ _ _ _ => rfl, fun _ _ _ => rfl, by simp, by simp⟩

theorem Fut.drawA {P : Program} {main : Bool} {D : World → World → Array Event → Prop} {Ψ : Goroutine → World → Prop} {fr : Frame} {k : List Item} {cs : List Frame} {ops : Array Oper} {id : Nat} {a : Act} {w : World} {γ : Type} (F : Fut P main D Ψ) (hm : P.follows .mixedOrders = true)
    {n : Nat} (Dp : List (List Nat)) (hn : ops.size = n) (hD : depsOk ops Dp = true) (vals : (Nat → Bool) → γ → List (Nat × Value)) (J : (Nat → Bool) → γ → World → Prop) (g0 : γ) (h0 : puts a (vals (fun _ => false) g0) = a) (hJ : J (fun _ => false) g0 w)
    (hstep : ∀ i, 0 ≤ i → i < n → ∀ (b : Nat → Bool) (g : γ) (w : World), J b g w → (∀ x, x < n → b x = true → ∀ j ∈ Dp.getD x [], b j = true) → b i = false → (∀ j ∈ Dp.getD i [], b j = true) → ∀ rest, ((∀ x, x < n → x ≠ i → b x = true) → rest = []) →
      (∀ g' w', J (tick b i) g' w' → Ψ (G (fr.at (puts a (vals (tick b i) g')) (.inRegion ops rest :: k)) cs) w') → Ψ (G (fr.at (puts a (vals b g)) (.inRegion ops (i :: rest) :: k)) cs) w)
    (hend : ∀ b g w, J b g w → (∀ i, i < n → b i = true) → Ψ (G (fr.at (puts a (vals b g)) (.inRegion ops [] :: k)) cs) w) :
    Ψ (G (fr.at a (.code (.region id ops true) :: k)) cs) w := by
  refine F.drawf hm Dp hn hD (fun b a' w => ∃ g, a' = puts a (vals b g) ∧ J b g w) ⟨g0, h0.symm, hJ⟩ (fun i h1 h2 b a' w hI hcl hb hd rest hre hk => ?_) (fun b a' w hI hall => ?_)
  · obtain ⟨g, rfl, hJ⟩ := hI
    exact hstep i h1 h2 b g w hJ hcl hb hd rest hre fun g' w' hJ' => hk _ _ ⟨g', rfl, hJ'⟩
  · obtain ⟨g, rfl, hJ⟩ := hI
    exact hend b g w hJ hall

theorem Fut.drawB {P : Program} {main : Bool} {D : World → World → Array Event → Prop} {Ψ : Goroutine → World → Prop} {fr : Frame} {k : List Item} {cs : List Frame} {ops : Array Oper} {id : Nat} {a : Act} {w : World} {γ : Type} (F : Fut P main D Ψ) (hm : P.follows .mixedOrders = true)
    {n : Nat} (Dp : List (List Nat)) (hn : ops.size = n) (hD : depsOk ops Dp = true) (vals : (Nat → Bool) → γ → List (Nat × Value)) (J : (Nat → Bool) → γ → World → Prop) (g0 : γ) (h0 : puts a (vals (fun _ => false) g0) = a) (hJ : J (fun _ => false) g0 w)
    (hstep : ∀ i, 0 ≤ i → i < n → ∀ (b : Nat → Bool) (g : γ) (w : World), J b g w → (∀ x j, (decide (x < n) && (Dp.getD x []).contains j) = true → b x = true → b j = true) → b i = false → (∀ j, (Dp.getD i []).contains j = true → b j = true) → ∀ rest, ((∀ x, x < n → x ≠ i → b x = true) → rest = []) →
      (∀ g' w', J (tick b i) g' w' → Ψ (G (fr.at (puts a (vals (tick b i) g')) (.inRegion ops rest :: k)) cs) w') → Ψ (G (fr.at (puts a (vals b g)) (.inRegion ops (i :: rest) :: k)) cs) w)
    (hend : ∀ b g w, J b g w → (∀ i, i < n → b i = true) → Ψ (G (fr.at (puts a (vals b g)) (.inRegion ops [] :: k)) cs) w) :
    Ψ (G (fr.at a (.code (.region id ops true) :: k)) cs) w :=
  F.drawA hm Dp hn hD vals J g0 h0 hJ (fun i h1 h2 b g w hI hcl hbi hdp => hstep i h1 h2 b g w hI (fun x j hx hb => by
    simp only [Bool.and_eq_true, decide_eq_true_eq, List.contains_iff_mem] at hx; exact hcl x hx.1 hb j hx.2) hbi (fun j hj => hdp j (by simpa using hj))) hend
end
section
open Go.Conc Go.RowKit
variable {main : Bool} {Ok : Addr → Bool → Prop}

theorem und33 : Tryz.prog.underlying 33 = some (.slice 55) := by kernel_rfl
theorem und100 : Tryz.prog.underlying 100 = some (.slice 128) := by kernel_rfl
theorem und44 : Tryz.prog.underlying 44 = some (.slice 48) := by kernel_rfl
theorem inf55 : ∃ inf z, Tryz.prog.info? 55 = some inf ∧ inf.zero = some z ∧ inf.size = 5 ∧ inf.bytes = 40 ∧ z.cells.size = 5 := ⟨_, _, rfl, rfl, rfl, rfl, rfl⟩
theorem inf128 : ∃ inf z, Tryz.prog.info? 128 = some inf ∧ inf.zero = some z ∧ inf.size = 2 ∧ inf.bytes = 16 ∧ z.cells.size = 2 := ⟨_, _, rfl, rfl, rfl, rfl, rfl⟩
theorem inf48 : ∃ inf z, Tryz.prog.info? 48 = some inf ∧ inf.zero = some z ∧ inf.size = 3 ∧ inf.bytes = 24 ∧ z.cells.size = 3 := ⟨_, _, rfl, rfl, rfl, rfl, rfl⟩
end
section
open Go.Conc Go.RowKit
variable {main : Bool} {Ok : Addr → Bool → Prop}

abbrev evc (now cl num what nn : Int) : List Value := [.int .i64 now, .int .i64 cl, .int .i64 num, .int .i64 what, .int .i64 nn]

theorem row_ge {w : World} {N m size : Nat} {t : TypeId} {ev : Value} {xs : List Value} (h : w.ownsRow N t size ev m xs) {g : Nat} (hg : g ∈ rowL ev) : N ≤ g ∧ g < w.heap.size := by
  rw [mem_rowL] at hg; rcases h.2 with ⟨rfl, _⟩ | ⟨g', cap, cur, rfl, h1, h2, _⟩
  · cases hg
  · simp [Value.ownBlock] at hg
    subst hg; exact ⟨h1, (Array.getElem?_eq_some_iff.1 h2).1⟩
theorem not_row {w : World} {N m size B : Nat} {t : TypeId} {ev : Value} {xs : List Value} (h : w.ownsRow N t size ev m xs) (hB : B < N) : B ∉ rowL ev := fun z => by have := (row_ge h z).1; omega
end
end Go.Proofs.YtobagnjnbmgidaaGreatDoor
