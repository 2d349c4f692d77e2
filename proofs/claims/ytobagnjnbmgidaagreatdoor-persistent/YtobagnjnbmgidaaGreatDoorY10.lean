/- A call through the layers, as an outcome: whatever comes out. -/
import Derived.Test.YtobagnjnbmgidaaGreatDoorY8
import Derived.Test.YtobagnjnbmgidaaGreatDoorX30
set_option linter.unusedSimpArgs false
set_option linter.unusedVariables false
namespace Go.Proofs.YtobagnjnbmgidaaGreatDoor
open Go.Conc Go.RowKit Go.Extern
variable {Ok : Addr → Bool → Prop}

theorem evNN20 (w : World) : (binOp .eql 20 .nilIface .nilIface).events Tryz.prog w #[] = #[] := by kernel_rfl
theorem evNe20 (w : World) : (binOp .neq 20 .nilIface .nilIface).events Tryz.prog w #[] = #[] := by kernel_rfl
theorem evNe20i (t : TypeId) (p : Value) (w : World) : (binOp .neq 20 (.iface t p) .nilIface).events Tryz.prog w #[] = #[] := by kernel_rfl
theorem evNe121n (w : World) : (binOp .neq 121 .nilIface .nilIface).events Tryz.prog w #[] = #[] := by kernel_rfl
theorem evNe121 (t : TypeId) (p : Value) (w : World) : (binOp .neq 121 (.iface t p) .nilIface).events Tryz.prog w #[] = #[] := by kernel_rfl
theorem taBl (p : Value) (w : World) : (Instr.typeAssert (.iface 166 p) 20 166 true).run Tryz.prog w = .ok (.tuple #[p, .bool true]) w := by kernel_rfl
theorem taBle (p : Value) (w : World) : (Instr.typeAssert (.iface 166 p) 20 166 true).events Tryz.prog w #[] = #[] := by kernel_rfl

set_option maxRecDepth 100000 in
theorem numberOf_x {main : Bool} (x : Int) (w0 : World) : CallsX Tryz.prog main (DX Ok) 54 #[.iface 166 (.int .i64 x)] w0 fun v w' => v = .int .i64 x ∧ w' = w0 := by
  intro Ψ F c cs hc
  have t1 := taBl
  have t2 := taBle
  rw [enter_at _ Tryz.func54 rfl]
  simp only [Tryz.ntmps54, List.size_toArray, List.length_cons, List.length_nil, Nat.reduceAdd, Nat.reduceSub, Array.replicate_succ, Array.replicate_zero, List.push_toArray, List.append_toArray, List.nil_append, List.cons_append]
  refine F.sr ?_
  simp only [rg, Nat.reduceAdd]
  refine F.oq rfl rfl rfl (by simp [go_sem]) fun d K h => ?_; go_simp; refine h _ ?_; clear h K d; try walk_nrm
  refine F.esr ?_
  simp only [rg, Nat.reduceAdd]
  iterate 7 (refine F.oq rfl rfl rfl (fun _ => by first | (simp [go_sem]; done) | simp [go_sem, Instr.makeInterface, Instr.makeFunc, *]) fun d K hK => ?_; go_simp; refine hK _ ?_; clear hK K d; try walk_nrm)
  refine F.esr ?_
  simp only [rg, Nat.reduceAdd]
  iterate 2 (refine F.oq rfl rfl rfl (by simp [go_sem]) fun d K h => ?_; go_simp; refine h _ ?_; clear h K d; try walk_nrm)
  refine F.re ?_
  refine F.ctl (fun _ => stepG_ret') ?_
  refine F.leave rfl rfl Tryz.func54 (resultsC_tmp (by rfl) _) ?_
  exact hc _ _ ⟨rfl, rfl⟩

/-- A row's cells. -/
def ChAt (w : World) (g : Nat) (xs : List Value) : Prop := ∀ j u, xs[j]? = some u → w.cell? ⟨g, j, none⟩ = some u
theorem ChAt.kp {L : List Nat} {C : List Addr} {w w' : World} {g : Nat} {xs : List Value} (h : ChAt w g xs) (k : Kp L w w' C) (hL : g ∉ L) (hC : ∀ x ∈ C, x.block ≠ g) : ChAt w' g xs :=
  fun j u hj => k.cellC _ _ hL (fun z => hC _ z rfl) (h j u hj)
theorem chAt_of {w : World} {base t sz n : Nat} {v : Value} {xs : List Value} (hn : 0 < n) (h : w.ownsRow base t sz v n xs) : ∃ g cap, v = .slice (some ⟨g, 0, none⟩) n cap ∧ base ≤ g ∧ g < w.heap.size ∧ ChAt w g xs := by
  have hcl := fun g hg => h.cells (g := g) hg
  have hlt := h.lt
  rcases h.2 with ⟨_, h2⟩ | ⟨g, cap, cur, rfl, _⟩
  · omega
  · have hb : (Value.slice (some ⟨g, 0, none⟩) n cap).ownBlock = some g := rfl
    exact ⟨g, cap, rfl, (hlt g hb).1, (hlt g hb).2, fun j u hj => by
      have e : (⟨g, 0, none⟩ : Addr).add j = ⟨g, j, none⟩ := by unfold Addr.add; split <;> simp_all
      have := hcl g hb j u hj
      rw [e] at this
      exact this⟩

/-- The outcome that a call is told as. -/
def Out (XS : Nat → List Value → Prop) (r : Value ⊕ Value) (now : Int) (w0 : World) (v : Value) (w : World) : Prop :=
  (∃ x, r = .inl (.tuple #[.int .i64 x, .nilIface]) ∧ v = .agg #[.int .i64 now, .int .i64 1, .int .i64 x, .slice none 0 0]) ∨
  (∃ x q nl xs g cap, r = .inl (.tuple #[.int .i64 x, .iface 168 (.pointer (some ⟨q, 0, none⟩))]) ∧ XS nl xs ∧ v = .agg #[.int .i64 now, .int .i64 2, .int .i64 0, .slice (some ⟨g, 0, none⟩) nl cap] ∧ w0.heap.size ≤ g ∧ g < w.heap.size ∧ ChAt w g xs) ∨
  (∃ x, r = .inr (.iface 166 (.int .i64 x)) ∧ v = .agg #[.int .i64 now, .int .i64 3, .int .i64 x, .slice none 0 0])

set_option maxRecDepth 100000 in
set_option maxHeartbeats 8000000 in
theorem call_o (e : Env) (K : EnvOk e Ok) (en ev : Value) (now : Int) (m : List Value) (X HD : Nat) (hH : HD < e.N) {t : TypeId} {f : FuncId} {fn : Func} (hme : ∀ (p : Value) (W : World), (Go.method (Tryz.prog.types.size + Made.depth) t p "Enter").run Tryz.prog W = .ok (f, p) W) (hmv : ∀ (p : Value) (W : World) (es : Array Event), (Go.method (Tryz.prog.types.size + Made.depth) t p "Enter").events Tryz.prog W es = es) (hf : Tryz.prog.funcs[f]? = some fn) (hname : (fn.name == "runtime.NumGoroutine") = false) (hb : fn.body.isNone = false) (w0 : World) (hN0 : 0 < e.N) (oG : Ok ⟨0, 0, none⟩ false) (d1 : 0 ≠ e.J ∧ 0 ≠ HD ∧ 0 ≠ e.A ∧ 0 ≠ e.T) (hg : w0.cell? ⟨0, 0, none⟩ = some (.iface 217 (.agg #[.pointer (some ⟨1, 121, none⟩)]))) (H : CW e w0 now en ev m)
    (PR : (Value ⊕ Value) → World → World → Value → Value → Int → List Value → Prop) (XS : Nat → List Value → Prop) (hsh : ∀ {r w w' en ev now m}, PR r w w' en ev now m → Shape r) (hPR : ∀ {r w w1 w2 en ev now m x}, PR r w w1 en ev now m → Kp [x] w1 w2 → x < w.heap.size → PR r w w2 en ev now m)
    (hcx : ∀ {x q wi w en ev now m}, PR (.inl (.tuple #[.int .i64 x, .iface 168 (.pointer (some ⟨q, 0, none⟩))])) wi w en ev now m → e.X + 1 ≤ wi.heap.size → wi.heap.size ≤ w.heap.size → w.cell? ⟨0, 0, none⟩ = some (.iface 217 (.agg #[.pointer (some ⟨1, 121, none⟩)])) → ∃ nl xs, 0 < nl ∧ XS nl xs ∧ CallsX Tryz.prog false (DX Ok) 55 #[.iface 168 (.pointer (some ⟨q, 0, none⟩))] w fun v w' => Kp [] w w' ∧ w'.ownsRow w.heap.size 48 3 v nl xs)
    (hin : ∀ w1, Kp [] w0 w1 → CW e w1 now en ev m → CallsO e Ok f #[.pointer (some ⟨X, 0, none⟩), .pointer (some ⟨e.T, 0, none⟩)] w1 fun r w' => ∃ en' ev' m' now', CW e w' now' en' ev' m' ∧ Ru e HD w1 en ev w' en' ev' ∧ PR r w1 w' en' ev' now' m') :
    CallsW e Ok 38 #[.iface t (.pointer (some ⟨X, 0, none⟩)), .pointer (some ⟨e.T, 0, none⟩)] w0 fun v w' => ∃ r wi en' ev' m' now', Out XS r now' w0 v w' ∧ CW e w' now' en' ev' m' ∧ Ru e HD w0 en ev w' en' ev' ∧ PR r wi w' en' ev' now' m' := by
  intro Ψ0 Ψ1 W c cs hc
  have F := W.f0
  have l1 := K.lA
  have l2 := K.lT
  have l3 := K.lJ
  have hsz := H.size
  have hsX := H.sX
  have hnX := H.nX
  have hfr : ∀ (a : Addr) (wr : Bool), e.X + 1 ≤ a.block → Ok a wr := fun a wr h => K.fr a wr (by omega) (by omega)
  have t5 := evNN20
  have t6 := evNe20
  have t9 := evNe20i
  have t7 := evNe121n
  have t8 := evNe121
  rw [enter_at _ Tryz.func38 rfl]
  simp only [Tryz.ntmps38, List.size_toArray, List.length_cons, List.length_nil, Nat.reduceAdd, Nat.reduceSub, Array.replicate_succ, Array.replicate_zero, List.push_toArray, List.append_toArray, List.nil_append, List.cons_append]
  refine F.sr ?_
  simp only [rg, Nat.reduceAdd]
  refine F.op rfl rfl (by decide) (fun d K hK => ?_)
  go_simp
  rw [alloc_at']
  refine hK _ _ ⟨DX.alloc _ _ (fun e he => ?_), ?_⟩
  · have hm := mem_listed he
    simp [go_sem] at hm
  clear hK K d
  try walk_nrm
  generalize ew1 : World.alloc w0 _ = w1
  generalize hn1 : (World.heap w0).size = n1
  have sz1 := sz_al2 ew1 hn1
  have ho0 := cl_new (i := 0) ew1 hn1 rfl
  have zo0 := fz_new ew1 hn1 0
  have ho1 := cl_new (i := 1) ew1 hn1 rfl
  have zo1 := fz_new ew1 hn1 1
  have ho2 := cl_new (i := 2) ew1 hn1 rfl
  have zo2 := fz_new ew1 hn1 2
  have ho3 := cl_new (i := 3) ew1 hn1 rfl
  have zo3 := fz_new ew1 hn1 3
  try simp only [List.getElem_toArray, List.getElem_cons_zero, List.getElem_cons_succ] at ho0 ho1 ho2 ho3
  have kp : Kp [] w0 w0 [] := Kp.refl _
  replace kp := kp.alN ew1
  refine F.esr ?_
  simp only [rg, Nat.reduceAdd]
  iterate 2 (refine F.oq rfl rfl rfl (by simp [go_sem]) fun d K h => ?_; go_simp; refine h _ ?_; clear h K d; try walk_nrm)
  have k1 : Kp [] w0 w1 := Kp.alloc ew1
  have r1 : Ru e HD w0 en ev w1 en ev := Ru.own k1 (by simp)
  have H1 : CW e w1 _ en ev _ := H.keep k1 (by simp) l1 l2 l3 (by simp)
  have b1 : n1 ∉ rowL ev := fun z => by have := (H.rowN z).2; omega
  have b2 : n1 ∉ rowL en := fun z => by have := (H.entN z).2; omega
  have hg1 := k1.cell _ _ (by simp) hg
  refine F.enter rfl rfl (by decide) (fun _ => run_call_body rfl Tryz.func52 (by rfl) (by rfl)) (fun _ => events_call_body rfl Tryz.func52 (by rfl) (by rfl) _) ?_
  walk_nrm
  refine ans_o e K en ev now m X HD hH hme hmv hf hname hb w1 H1 PR hsh hPR (fun w' k' H' => hin w' (k1.callM k' (by simp)) H') Ψ0 Ψ1 W _ _ (fun v w2 hp => ?_)
  obtain ⟨r, wi, en2, ev2, m2, now2, rfl, hwi, hwx, H2, r2, hpr⟩ := hp
  clear hg
  have hg := r2.stat H1 hN0 d1.1 d1.2.1 d1.2.2.1 d1.2.2.2 hg1
  have hs2 := r2.kp.size
  obtain ⟨ho0, z0, b1', b2'⟩ := r2.temp K hH (by omega) b1 b2 ho0
  obtain ⟨ho1, z1, _⟩ := r2.temp K hH (by omega) b1 b2 ho1
  obtain ⟨ho2, z2, _⟩ := r2.temp K hH (by omega) b1 b2 ho2
  obtain ⟨ho3, z3, _⟩ := r2.temp K hH (by omega) b1 b2 ho3
  replace zo0 := z0.trans zo0
  replace zo1 := z1.trans zo1
  replace zo2 := z2.trans zo2
  replace zo3 := z3.trans zo3
  clear z0 z1 z2 z3 kp
  have r12 := r1.trans r2
  have hnn : n1 < wi.heap.size ∧ e.X + 1 ≤ wi.heap.size := by omega
  have hn1' : w0.heap.size ≤ n1 ∧ n1 ≤ w0.heap.size ∧ n1 < w2.heap.size := ⟨Nat.le_of_eq hn1, Nat.le_of_eq hn1.symm, lt_of_cell ho0⟩
  clear hn1 sz1 ew1
  have kp : Kp [n1] w2 w2 := Kp.refl _
  have hT0 := H2.t0
  have hA0 := H2.a0
  rcases hsh hpr with ⟨x, rfl⟩ | ⟨x, q, rfl⟩ | ⟨x, rfl⟩
  · simp only [ansOf, List.push_toArray, List.cons_append, List.nil_append]
    rw [Frame.finish_at]
    try walk_nrm
    refine F.op rfl rfl (by decide) (fun d K hK => ?_)
    go_simp
    rw [alloc_at']
    refine hK _ _ ⟨DX.alloc _ _ (fun e he => ?_), ?_⟩
    · have hm := mem_listed he
      simp [go_sem] at hm
    clear hK K d
    try walk_nrm
    generalize ew3 : World.alloc w2 _ = w3
    generalize hn3 : (World.heap w2).size = n3
    have sz3 := sz_al2 ew3 hn3
    replace zo0 := fz_al zo0 ho0 ew3
    replace zo1 := fz_al zo1 ho1 ew3
    replace zo2 := fz_al zo2 ho2 ew3
    replace zo3 := fz_al zo3 ho3 ew3
    replace ho0 := cl_al ho0 ew3
    replace ho1 := cl_al ho1 ew3
    replace ho2 := cl_al ho2 ew3
    replace ho3 := cl_al ho3 ew3
    replace hT0 := cl_al hT0 ew3
    replace hA0 := cl_al hA0 ew3
    replace hg := cl_al hg ew3
    have hu0 := cl_new (i := 0) ew3 hn3 rfl
    have zu0 := fz_new ew3 hn3 0
    have hu1 := cl_new (i := 1) ew3 hn3 rfl
    have zu1 := fz_new ew3 hn3 1
    have hu2 := cl_new (i := 2) ew3 hn3 rfl
    have zu2 := fz_new ew3 hn3 2
    try simp only [List.getElem_toArray, List.getElem_cons_zero, List.getElem_cons_succ] at hu0 hu1 hu2
    replace kp := kp.alN ew3
    refine F.op rfl rfl (by decide) (fun d K hK => ?_)
    go_simp
    repeat rw [setCell_at']
    refine hK _ _ ⟨DX.set3 _ (by (first | assumption | (apply hfr <;> dsimp only <;> omega))) (by (first | assumption | (apply hfr <;> dsimp only <;> omega))) (by (first | assumption | (apply hfr <;> dsimp only <;> omega))) (fun e he => ?_), ?_⟩
    · have hm := mem_listed he
      simp [go_sem, storedEv, evst_slice, evst_ptr, evst_iface, evst_nil, evst_bool, *] at hm
      rcases hm with rfl | rfl | rfl <;> exact .inl ⟨_, rfl, rfl, by (first | assumption | (apply hfr <;> dsimp only <;> omega)), by simp only [size_at, size_set]; first | omega | exact lt_of_cell (by assumption)⟩
    clear hK K d
    try walk_nrm
    generalize ew4 : World.setCell w3 _ _ = w4
    have sz4 := sz_st2 ew4
    replace zo0 := fz_st zo0 ew4
    replace zo1 := fz_st zo1 ew4
    replace zo2 := fz_st zo2 ew4
    replace zo3 := fz_st zo3 ew4
    replace zu0 := fz_st zu0 ew4
    replace zu1 := fz_st zu1 ew4
    replace zu2 := fz_st zu2 ew4
    replace ho0 := cl_st ho0 ew4 (by intro e; simp at e <;> omega)
    replace ho1 := cl_st ho1 ew4 (by intro e; simp at e <;> omega)
    replace ho2 := cl_st ho2 ew4 (by intro e; simp at e <;> omega)
    replace ho3 := cl_st ho3 ew4 (by intro e; simp at e <;> omega)
    replace hT0 := cl_st hT0 ew4 (by intro e; simp at e <;> omega)
    replace hA0 := cl_st hA0 ew4 (by intro e; simp at e <;> omega)
    replace hg := cl_st hg ew4 (by intro e; simp at e <;> omega)
    replace hu0 := cl_st' hu0 ew4
    replace hu1 := cl_st hu1 ew4 (by intro e; simp at e <;> omega)
    replace hu2 := cl_st hu2 ew4 (by intro e; simp at e <;> omega)
    replace kp := kp.stN ew4 (by first | (left; simp; done) | (right; left; simp; done) | (right; right; dsimp only; omega))
    generalize ew5 : World.setCell w4 _ _ = w5
    have sz5 := sz_st2 ew5
    replace zo0 := fz_st zo0 ew5
    replace zo1 := fz_st zo1 ew5
    replace zo2 := fz_st zo2 ew5
    replace zo3 := fz_st zo3 ew5
    replace zu0 := fz_st zu0 ew5
    replace zu1 := fz_st zu1 ew5
    replace zu2 := fz_st zu2 ew5
    replace ho0 := cl_st ho0 ew5 (by intro e; simp at e <;> omega)
    replace ho1 := cl_st ho1 ew5 (by intro e; simp at e <;> omega)
    replace ho2 := cl_st ho2 ew5 (by intro e; simp at e <;> omega)
    replace ho3 := cl_st ho3 ew5 (by intro e; simp at e <;> omega)
    replace hT0 := cl_st hT0 ew5 (by intro e; simp at e <;> omega)
    replace hA0 := cl_st hA0 ew5 (by intro e; simp at e <;> omega)
    replace hg := cl_st hg ew5 (by intro e; simp at e <;> omega)
    replace hu0 := cl_st hu0 ew5 (by intro e; simp at e <;> omega)
    replace hu1 := cl_st' hu1 ew5
    replace hu2 := cl_st hu2 ew5 (by intro e; simp at e <;> omega)
    replace kp := kp.stN ew5 (by first | (left; simp; done) | (right; left; simp; done) | (right; right; dsimp only; omega))
    generalize ew6 : World.setCell w5 _ _ = w6
    have sz6 := sz_st2 ew6
    replace zo0 := fz_st zo0 ew6
    replace zo1 := fz_st zo1 ew6
    replace zo2 := fz_st zo2 ew6
    replace zo3 := fz_st zo3 ew6
    replace zu0 := fz_st zu0 ew6
    replace zu1 := fz_st zu1 ew6
    replace zu2 := fz_st zu2 ew6
    replace ho0 := cl_st ho0 ew6 (by intro e; simp at e <;> omega)
    replace ho1 := cl_st ho1 ew6 (by intro e; simp at e <;> omega)
    replace ho2 := cl_st ho2 ew6 (by intro e; simp at e <;> omega)
    replace ho3 := cl_st ho3 ew6 (by intro e; simp at e <;> omega)
    replace hT0 := cl_st hT0 ew6 (by intro e; simp at e <;> omega)
    replace hA0 := cl_st hA0 ew6 (by intro e; simp at e <;> omega)
    replace hg := cl_st hg ew6 (by intro e; simp at e <;> omega)
    replace hu0 := cl_st hu0 ew6 (by intro e; simp at e <;> omega)
    replace hu1 := cl_st hu1 ew6 (by intro e; simp at e <;> omega)
    replace hu2 := cl_st' hu2 ew6
    replace kp := kp.stN ew6 (by first | (left; simp; done) | (right; left; simp; done) | (right; right; dsimp only; omega))
    refine F.es ?_
    refine F.bl ?_
    refine F.sr ?_
    simp only [rg, Nat.reduceAdd]
    refine F.oq rfl rfl rfl (by simp [go_sem]) fun d K h => ?_; go_simp; refine h _ ?_; clear h K d; try walk_nrm
    refine F.ol rfl rfl rfl fun d K h => ?_; go_simp; refine h _ (fun e m => ?_) ?_; simp [go_sem, *] at m; subst m; exact evr (w := w6) (by assumption) (by first | assumption | (apply hfr <;> dsimp only <;> omega)); clear h K d; try walk_nrm
    iterate 2 (refine F.oq rfl rfl rfl (fun _ => by first | (simp [go_sem]; done) | simp [go_sem, Instr.makeInterface, Instr.makeFunc, *]) fun d K hK => ?_; go_simp; refine hK _ ?_; clear hK K d; try walk_nrm)
    refine F.re ?_
    refine F.cf rfl ?_
    refine F.sr ?_
    simp only [rg, Nat.reduceAdd]
    refine F.oq rfl rfl rfl (by simp [go_sem]) fun d K h => ?_; go_simp; refine h _ ?_; clear h K d; try walk_nrm
    refine F.ol rfl rfl rfl fun d K h => ?_; go_simp; refine h _ (fun e m => ?_) ?_; simp [go_sem, *] at m; subst m; exact evr (w := w6) (by assumption) (by first | assumption | (apply hfr <;> dsimp only <;> omega)); clear h K d; try walk_nrm
    iterate 2 (refine F.oq rfl rfl rfl (fun _ => by first | (simp [go_sem]; done) | simp [go_sem, Instr.makeInterface, Instr.makeFunc, *]) fun d K hK => ?_; go_simp; refine hK _ ?_; clear hK K d; try walk_nrm)
    refine F.re ?_
    refine F.cf rfl ?_
    refine F.sk ?_
    refine F.ib ?_
    refine F.sq ?_
    refine F.drawB (γ := Unit) (n := 6) mixed [[], [0], [], [2], [1, 3], [0, 1, 2, 3, 4]] rfl (by kernel_rfl) (fun b g => [(29, sel (b 0) (.pointer (some ⟨e.T, 0, none⟩)) (undef)), (30, sel (b 1) (.int .i64 now2) (undef)), (31, sel (b 2) (.pointer (some ⟨n3, 0, none⟩)) (undef)), (32, sel (b 3) (.int .i64 x) (undef)), (33, sel (b 4) (.agg #[.int .i64 now2, .int .i64 1, .int .i64 x, .slice none 0 0]) (undef))]) (fun b g w => (b 5 = false → w = w6) ∧ (b 5 = true → ( Kp [n1] w2 w ∧ w.cell? ⟨n1, 0, none⟩ = some (.int .i64 now2) ∧ w.cell? ⟨n1, 1, none⟩ = some (.int .i64 1) ∧ w.cell? ⟨n1, 2, none⟩ = some (.int .i64 x) ∧ w.cell? ⟨n1, 3, none⟩ = some (.slice none 0 0)))) (()) (by simp only [pu, Nat.reduceAdd, Nat.reduceEqDiff, reduceIte]) (⟨fun _ => rfl, fun h => by cases h⟩) (all_cons ?_ (all_cons ?_ (all_cons ?_ (all_cons ?_ (all_cons ?_ (all_cons ?_ (all_nil))))))) ?_
    · intro b g w hI hcl hbi hdp rest hre hkk
      obtain ⟨hwf, hwt⟩ := hI
      replace hbi : b 0 = false := hbi
      have nb1 := nbf (hcl 1 0 rfl) hbi
      have nb5 := nbf (hcl 5 0 rfl) hbi
      have ewc := (hwf nb5).symm
      subst ewc
      simp only [nb1, nb5, hbi, pu, Nat.reduceAdd, Nat.reduceEqDiff, reduceIte]
      refine F.oq rfl rfl rfl (by simp [go_sem]) fun d K h => ?_; go_simp; refine h _ ?_; clear h K d; try walk_nrm
      have hk2 := hkk g _ ⟨fun _ => rfl, fun h => no nb5 h⟩
      simp only [nb1, nb5, hbi, pu, Nat.reduceAdd, Nat.reduceEqDiff, reduceIte] at hk2
      exact hk2
    · intro b g w hI hcl hbi hdp rest hre hkk
      obtain ⟨hwf, hwt⟩ := hI
      replace hbi : b 1 = false := hbi
      have d0 := hdp 0 rfl
      have nb4 := nbf (hcl 4 1 rfl) hbi
      have nb5 := nbf (hcl 5 1 rfl) hbi
      have ewc := (hwf nb5).symm
      subst ewc
      simp only [d0, nb4, nb5, hbi, pu, Nat.reduceAdd, Nat.reduceEqDiff, reduceIte]
      refine F.enter rfl rfl (by decide) (fun _ => run_call_body rfl Tryz.func53 (by rfl) (by rfl)) (fun _ => events_call_body rfl Tryz.func53 (by rfl) (by rfl) _) ?_
      walk_nrm
      refine now_x e.T e.A _ w6 hT0 hA0 K.t0 K.a0 _ F _ _ (fun v wq hp => ?_)
      obtain ⟨rfl, hq⟩ := hp
      have hq := hq.symm
      subst hq
      rw [Frame.finish_at]
      try walk_nrm
      have hk2 := hkk g _ ⟨fun _ => rfl, fun h => no nb5 h⟩
      simp only [d0, nb4, nb5, hbi, pu, Nat.reduceAdd, Nat.reduceEqDiff, reduceIte] at hk2
      exact hk2
    · intro b g w hI hcl hbi hdp rest hre hkk
      obtain ⟨hwf, hwt⟩ := hI
      replace hbi : b 2 = false := hbi
      have nb3 := nbf (hcl 3 2 rfl) hbi
      have nb5 := nbf (hcl 5 2 rfl) hbi
      have ewc := (hwf nb5).symm
      subst ewc
      simp only [nb3, nb5, hbi, pu, Nat.reduceAdd, Nat.reduceEqDiff, reduceIte]
      refine F.oq rfl rfl rfl (by simp [go_sem]) fun d K h => ?_; go_simp; refine h _ ?_; clear h K d; try walk_nrm
      have hk2 := hkk g _ ⟨fun _ => rfl, fun h => no nb5 h⟩
      simp only [nb3, nb5, hbi, pu, Nat.reduceAdd, Nat.reduceEqDiff, reduceIte] at hk2
      exact hk2
    · intro b g w hI hcl hbi hdp rest hre hkk
      obtain ⟨hwf, hwt⟩ := hI
      replace hbi : b 3 = false := hbi
      have d2 := hdp 2 rfl
      have nb4 := nbf (hcl 4 3 rfl) hbi
      have nb5 := nbf (hcl 5 3 rfl) hbi
      have ewc := (hwf nb5).symm
      subst ewc
      simp only [d2, nb4, nb5, hbi, pu, Nat.reduceAdd, Nat.reduceEqDiff, reduceIte]
      refine F.ol rfl rfl rfl fun d K h => ?_; go_simp; refine h _ (fun e m => ?_) ?_; simp [go_sem, *] at m; subst m; exact evr (w := w6) (by assumption) (by first | assumption | (apply hfr <;> dsimp only <;> omega)); clear h K d; try walk_nrm
      have hk2 := hkk g _ ⟨fun _ => rfl, fun h => no nb5 h⟩
      simp only [d2, nb4, nb5, hbi, pu, Nat.reduceAdd, Nat.reduceEqDiff, reduceIte] at hk2
      exact hk2
    · intro b g w hI hcl hbi hdp rest hre hkk
      obtain ⟨hwf, hwt⟩ := hI
      replace hbi : b 4 = false := hbi
      have d1 := hdp 1 rfl
      have d3 := hdp 3 rfl
      have d2 := hcl 3 2 rfl d3
      have d0 := hcl 1 0 rfl d1
      have nb5 := nbf (hcl 5 4 rfl) hbi
      have ewc := (hwf nb5).symm
      subst ewc
      simp only [d1, d3, d2, d0, nb5, hbi, pu, Nat.reduceAdd, Nat.reduceEqDiff, reduceIte]
      refine F.oq rfl rfl rfl (by simp [go_sem]) fun d K h => ?_; go_simp; refine h _ ?_; clear h K d; try walk_nrm
      have hk2 := hkk g _ ⟨fun _ => rfl, fun h => no nb5 h⟩
      simp only [d1, d3, d2, d0, nb5, hbi, pu, Nat.reduceAdd, Nat.reduceEqDiff, reduceIte] at hk2
      exact hk2
    · intro b g w hI hcl hbi hdp rest hre hkk
      obtain ⟨hwf, hwt⟩ := hI
      replace hbi : b 5 = false := hbi
      have d0 := hdp 0 rfl
      have d1 := hdp 1 rfl
      have d2 := hdp 2 rfl
      have d3 := hdp 3 rfl
      have d4 := hdp 4 rfl
      have ewc := (hwf hbi).symm
      subst ewc
      simp only [d0, d1, d2, d3, d4, hbi, pu, Nat.reduceAdd, Nat.reduceEqDiff, reduceIte]
      refine F.op rfl rfl (by decide) (fun d K hK => ?_)
      go_simp
      repeat rw [setCell_at']
      refine hK _ _ ⟨DX.set4 _ (by (first | assumption | (apply hfr <;> dsimp only <;> omega))) (by (first | assumption | (apply hfr <;> dsimp only <;> omega))) (by (first | assumption | (apply hfr <;> dsimp only <;> omega))) (by (first | assumption | (apply hfr <;> dsimp only <;> omega))) (fun e he => ?_), ?_⟩
      · have hm := mem_listed he
        simp [go_sem, storedEv, evst_slice, evst_ptr, evst_iface, evst_nil, evst_bool, *] at hm
        rcases hm with rfl | rfl | rfl | rfl <;> exact .inl ⟨_, rfl, rfl, by (first | assumption | (apply hfr <;> dsimp only <;> omega)), by simp only [size_at, size_set]; first | omega | exact lt_of_cell (by assumption)⟩
      clear hK K d
      try walk_nrm
      generalize ew7 : World.setCell w6 _ _ = w7
      have sz7 := sz_st2 ew7
      replace zo0 := fz_st zo0 ew7
      replace zo1 := fz_st zo1 ew7
      replace zo2 := fz_st zo2 ew7
      replace zo3 := fz_st zo3 ew7
      replace zu0 := fz_st zu0 ew7
      replace zu1 := fz_st zu1 ew7
      replace zu2 := fz_st zu2 ew7
      replace ho0 := cl_st' ho0 ew7
      replace ho1 := cl_st ho1 ew7 (by intro e; simp at e <;> omega)
      replace ho2 := cl_st ho2 ew7 (by intro e; simp at e <;> omega)
      replace ho3 := cl_st ho3 ew7 (by intro e; simp at e <;> omega)
      replace hT0 := cl_st hT0 ew7 (by intro e; simp at e <;> omega)
      replace hA0 := cl_st hA0 ew7 (by intro e; simp at e <;> omega)
      replace hg := cl_st hg ew7 (by intro e; simp at e <;> omega)
      replace hu0 := cl_st hu0 ew7 (by intro e; simp at e <;> omega)
      replace hu1 := cl_st hu1 ew7 (by intro e; simp at e <;> omega)
      replace hu2 := cl_st hu2 ew7 (by intro e; simp at e <;> omega)
      replace kp := kp.stN ew7 (by first | (left; simp; done) | (right; left; simp; done) | (right; right; dsimp only; omega))
      generalize ew8 : World.setCell w7 _ _ = w8
      have sz8 := sz_st2 ew8
      replace zo0 := fz_st zo0 ew8
      replace zo1 := fz_st zo1 ew8
      replace zo2 := fz_st zo2 ew8
      replace zo3 := fz_st zo3 ew8
      replace zu0 := fz_st zu0 ew8
      replace zu1 := fz_st zu1 ew8
      replace zu2 := fz_st zu2 ew8
      replace ho0 := cl_st ho0 ew8 (by intro e; simp at e <;> omega)
      replace ho1 := cl_st' ho1 ew8
      replace ho2 := cl_st ho2 ew8 (by intro e; simp at e <;> omega)
      replace ho3 := cl_st ho3 ew8 (by intro e; simp at e <;> omega)
      replace hT0 := cl_st hT0 ew8 (by intro e; simp at e <;> omega)
      replace hA0 := cl_st hA0 ew8 (by intro e; simp at e <;> omega)
      replace hg := cl_st hg ew8 (by intro e; simp at e <;> omega)
      replace hu0 := cl_st hu0 ew8 (by intro e; simp at e <;> omega)
      replace hu1 := cl_st hu1 ew8 (by intro e; simp at e <;> omega)
      replace hu2 := cl_st hu2 ew8 (by intro e; simp at e <;> omega)
      replace kp := kp.stN ew8 (by first | (left; simp; done) | (right; left; simp; done) | (right; right; dsimp only; omega))
      generalize ew9 : World.setCell w8 _ _ = w9
      have sz9 := sz_st2 ew9
      replace zo0 := fz_st zo0 ew9
      replace zo1 := fz_st zo1 ew9
      replace zo2 := fz_st zo2 ew9
      replace zo3 := fz_st zo3 ew9
      replace zu0 := fz_st zu0 ew9
      replace zu1 := fz_st zu1 ew9
      replace zu2 := fz_st zu2 ew9
      replace ho0 := cl_st ho0 ew9 (by intro e; simp at e <;> omega)
      replace ho1 := cl_st ho1 ew9 (by intro e; simp at e <;> omega)
      replace ho2 := cl_st' ho2 ew9
      replace ho3 := cl_st ho3 ew9 (by intro e; simp at e <;> omega)
      replace hT0 := cl_st hT0 ew9 (by intro e; simp at e <;> omega)
      replace hA0 := cl_st hA0 ew9 (by intro e; simp at e <;> omega)
      replace hg := cl_st hg ew9 (by intro e; simp at e <;> omega)
      replace hu0 := cl_st hu0 ew9 (by intro e; simp at e <;> omega)
      replace hu1 := cl_st hu1 ew9 (by intro e; simp at e <;> omega)
      replace hu2 := cl_st hu2 ew9 (by intro e; simp at e <;> omega)
      replace kp := kp.stN ew9 (by first | (left; simp; done) | (right; left; simp; done) | (right; right; dsimp only; omega))
      generalize ew10 : World.setCell w9 _ _ = w10
      have sz10 := sz_st2 ew10
      replace zo0 := fz_st zo0 ew10
      replace zo1 := fz_st zo1 ew10
      replace zo2 := fz_st zo2 ew10
      replace zo3 := fz_st zo3 ew10
      replace zu0 := fz_st zu0 ew10
      replace zu1 := fz_st zu1 ew10
      replace zu2 := fz_st zu2 ew10
      replace ho0 := cl_st ho0 ew10 (by intro e; simp at e <;> omega)
      replace ho1 := cl_st ho1 ew10 (by intro e; simp at e <;> omega)
      replace ho2 := cl_st ho2 ew10 (by intro e; simp at e <;> omega)
      replace ho3 := cl_st' ho3 ew10
      replace hT0 := cl_st hT0 ew10 (by intro e; simp at e <;> omega)
      replace hA0 := cl_st hA0 ew10 (by intro e; simp at e <;> omega)
      replace hg := cl_st hg ew10 (by intro e; simp at e <;> omega)
      replace hu0 := cl_st hu0 ew10 (by intro e; simp at e <;> omega)
      replace hu1 := cl_st hu1 ew10 (by intro e; simp at e <;> omega)
      replace hu2 := cl_st hu2 ew10 (by intro e; simp at e <;> omega)
      replace kp := kp.stN ew10 (by first | (left; simp; done) | (right; left; simp; done) | (right; right; dsimp only; omega))
      have hk2 := hkk g _ ⟨fun h => by simp [tick] at h, fun _ => ⟨kp, ho0, ho1, ho2, ho3⟩⟩
      simp only [d0, d1, d2, d3, d4, hbi, pu, Nat.reduceAdd, Nat.reduceEqDiff, reduceIte] at hk2
      exact hk2
    intro b g w hI hall
    obtain ⟨hwf, hwt⟩ := hI
    simp only [hall 0 (by decide), hall 1 (by decide), hall 2 (by decide), hall 3 (by decide), hall 4 (by decide), hall 5 (by decide), pu, Nat.reduceAdd, Nat.reduceEqDiff, reduceIte]
    obtain ⟨kp', ho0', ho1', ho2', ho3'⟩ := hwt (hall 5 (by decide))
    clear hwf hwt hall
    refine F.re ?_
    refine F.ctl (fun _ => stepG_ret') ?_
    refine F.leaveE (v := .agg #[.int .i64 now2, .int .i64 1, .int .i64 x, .slice none 0 0]) rfl rfl Tryz.func38 (fun d => ?_) (fun d es hes => DX.still _ (fun e he => ?_)) ?_
    · simp [results, go_sem, *]
    · have hm := hes e he
      simp [results, go_sem, *] at hm
      rcases hm with rfl | rfl | rfl | rfl <;> exact evr (w := w) (by assumption) (by first | assumption | (refine hfr _ _ ?_; dsimp only; omega))
    have r := r12.fresh kp' (by omega)
    have H8 : CW e w _ _ _ _ := H2.keep kp' (by intro x hx; simp at hx; subst hx; right; right; exact ⟨by omega, b2', b1'⟩) l1 l2 l3 (by simp)
    exact hc _ _ ⟨_, wi, en2, ev2, m2, now2, .inl ⟨x, rfl, rfl⟩, H8, r, hPR hpr kp' hnn.1⟩
  · simp only [ansOf, List.push_toArray, List.cons_append, List.nil_append]
    rw [Frame.finish_at]
    try walk_nrm
    refine F.op rfl rfl (by decide) (fun d K hK => ?_)
    go_simp
    rw [alloc_at']
    refine hK _ _ ⟨DX.alloc _ _ (fun e he => ?_), ?_⟩
    · have hm := mem_listed he
      simp [go_sem] at hm
    clear hK K d
    try walk_nrm
    generalize ew3 : World.alloc w2 _ = w3
    generalize hn3 : (World.heap w2).size = n3
    have sz3 := sz_al2 ew3 hn3
    replace zo0 := fz_al zo0 ho0 ew3
    replace zo1 := fz_al zo1 ho1 ew3
    replace zo2 := fz_al zo2 ho2 ew3
    replace zo3 := fz_al zo3 ho3 ew3
    replace ho0 := cl_al ho0 ew3
    replace ho1 := cl_al ho1 ew3
    replace ho2 := cl_al ho2 ew3
    replace ho3 := cl_al ho3 ew3
    replace hT0 := cl_al hT0 ew3
    replace hA0 := cl_al hA0 ew3
    replace hg := cl_al hg ew3
    have hu0 := cl_new (i := 0) ew3 hn3 rfl
    have zu0 := fz_new ew3 hn3 0
    have hu1 := cl_new (i := 1) ew3 hn3 rfl
    have zu1 := fz_new ew3 hn3 1
    have hu2 := cl_new (i := 2) ew3 hn3 rfl
    have zu2 := fz_new ew3 hn3 2
    try simp only [List.getElem_toArray, List.getElem_cons_zero, List.getElem_cons_succ] at hu0 hu1 hu2
    replace kp := kp.alN ew3
    refine F.op rfl rfl (by decide) (fun d K hK => ?_)
    go_simp
    repeat rw [setCell_at']
    refine hK _ _ ⟨DX.set3 _ (by (first | assumption | (apply hfr <;> dsimp only <;> omega))) (by (first | assumption | (apply hfr <;> dsimp only <;> omega))) (by (first | assumption | (apply hfr <;> dsimp only <;> omega))) (fun e he => ?_), ?_⟩
    · have hm := mem_listed he
      simp [go_sem, storedEv, evst_slice, evst_ptr, evst_iface, evst_nil, evst_bool, *] at hm
      rcases hm with rfl | rfl | rfl <;> exact .inl ⟨_, rfl, rfl, by (first | assumption | (apply hfr <;> dsimp only <;> omega)), by simp only [size_at, size_set]; first | omega | exact lt_of_cell (by assumption)⟩
    clear hK K d
    try walk_nrm
    generalize ew4 : World.setCell w3 _ _ = w4
    have sz4 := sz_st2 ew4
    replace zo0 := fz_st zo0 ew4
    replace zo1 := fz_st zo1 ew4
    replace zo2 := fz_st zo2 ew4
    replace zo3 := fz_st zo3 ew4
    replace zu0 := fz_st zu0 ew4
    replace zu1 := fz_st zu1 ew4
    replace zu2 := fz_st zu2 ew4
    replace ho0 := cl_st ho0 ew4 (by intro e; simp at e <;> omega)
    replace ho1 := cl_st ho1 ew4 (by intro e; simp at e <;> omega)
    replace ho2 := cl_st ho2 ew4 (by intro e; simp at e <;> omega)
    replace ho3 := cl_st ho3 ew4 (by intro e; simp at e <;> omega)
    replace hT0 := cl_st hT0 ew4 (by intro e; simp at e <;> omega)
    replace hA0 := cl_st hA0 ew4 (by intro e; simp at e <;> omega)
    replace hg := cl_st hg ew4 (by intro e; simp at e <;> omega)
    replace hu0 := cl_st' hu0 ew4
    replace hu1 := cl_st hu1 ew4 (by intro e; simp at e <;> omega)
    replace hu2 := cl_st hu2 ew4 (by intro e; simp at e <;> omega)
    replace kp := kp.stN ew4 (by first | (left; simp; done) | (right; left; simp; done) | (right; right; dsimp only; omega))
    generalize ew5 : World.setCell w4 _ _ = w5
    have sz5 := sz_st2 ew5
    replace zo0 := fz_st zo0 ew5
    replace zo1 := fz_st zo1 ew5
    replace zo2 := fz_st zo2 ew5
    replace zo3 := fz_st zo3 ew5
    replace zu0 := fz_st zu0 ew5
    replace zu1 := fz_st zu1 ew5
    replace zu2 := fz_st zu2 ew5
    replace ho0 := cl_st ho0 ew5 (by intro e; simp at e <;> omega)
    replace ho1 := cl_st ho1 ew5 (by intro e; simp at e <;> omega)
    replace ho2 := cl_st ho2 ew5 (by intro e; simp at e <;> omega)
    replace ho3 := cl_st ho3 ew5 (by intro e; simp at e <;> omega)
    replace hT0 := cl_st hT0 ew5 (by intro e; simp at e <;> omega)
    replace hA0 := cl_st hA0 ew5 (by intro e; simp at e <;> omega)
    replace hg := cl_st hg ew5 (by intro e; simp at e <;> omega)
    replace hu0 := cl_st hu0 ew5 (by intro e; simp at e <;> omega)
    replace hu1 := cl_st' hu1 ew5
    replace hu2 := cl_st hu2 ew5 (by intro e; simp at e <;> omega)
    replace kp := kp.stN ew5 (by first | (left; simp; done) | (right; left; simp; done) | (right; right; dsimp only; omega))
    generalize ew6 : World.setCell w5 _ _ = w6
    have sz6 := sz_st2 ew6
    replace zo0 := fz_st zo0 ew6
    replace zo1 := fz_st zo1 ew6
    replace zo2 := fz_st zo2 ew6
    replace zo3 := fz_st zo3 ew6
    replace zu0 := fz_st zu0 ew6
    replace zu1 := fz_st zu1 ew6
    replace zu2 := fz_st zu2 ew6
    replace ho0 := cl_st ho0 ew6 (by intro e; simp at e <;> omega)
    replace ho1 := cl_st ho1 ew6 (by intro e; simp at e <;> omega)
    replace ho2 := cl_st ho2 ew6 (by intro e; simp at e <;> omega)
    replace ho3 := cl_st ho3 ew6 (by intro e; simp at e <;> omega)
    replace hT0 := cl_st hT0 ew6 (by intro e; simp at e <;> omega)
    replace hA0 := cl_st hA0 ew6 (by intro e; simp at e <;> omega)
    replace hg := cl_st hg ew6 (by intro e; simp at e <;> omega)
    replace hu0 := cl_st hu0 ew6 (by intro e; simp at e <;> omega)
    replace hu1 := cl_st hu1 ew6 (by intro e; simp at e <;> omega)
    replace hu2 := cl_st' hu2 ew6
    replace kp := kp.stN ew6 (by first | (left; simp; done) | (right; left; simp; done) | (right; right; dsimp only; omega))
    refine F.es ?_
    refine F.bl ?_
    refine F.sr ?_
    simp only [rg, Nat.reduceAdd]
    refine F.oq rfl rfl rfl (by simp [go_sem]) fun d K h => ?_; go_simp; refine h _ ?_; clear h K d; try walk_nrm
    refine F.ol rfl rfl rfl fun d K h => ?_; go_simp; refine h _ (fun e m => ?_) ?_; simp [go_sem, *] at m; subst m; exact evr (w := w6) (by assumption) (by first | assumption | (apply hfr <;> dsimp only <;> omega)); clear h K d; try walk_nrm
    iterate 2 (refine F.oq rfl rfl rfl (fun _ => by first | (simp [go_sem]; done) | simp [go_sem, Instr.makeInterface, Instr.makeFunc, *]) fun d K hK => ?_; go_simp; refine hK _ ?_; clear hK K d; try walk_nrm)
    refine F.re ?_
    refine F.cf rfl ?_
    refine F.sr ?_
    simp only [rg, Nat.reduceAdd]
    refine F.oq rfl rfl rfl (by simp [go_sem]) fun d K h => ?_; go_simp; refine h _ ?_; clear h K d; try walk_nrm
    refine F.ol rfl rfl rfl fun d K h => ?_; go_simp; refine h _ (fun e m => ?_) ?_; simp [go_sem, *] at m; subst m; exact evr (w := w6) (by assumption) (by first | assumption | (apply hfr <;> dsimp only <;> omega)); clear h K d; try walk_nrm
    iterate 2 (refine F.oq rfl rfl rfl (fun _ => by first | (simp [go_sem]; done) | simp [go_sem, Instr.makeInterface, Instr.makeFunc, *]) fun d K hK => ?_; go_simp; refine hK _ ?_; clear hK K d; try walk_nrm)
    refine F.re ?_
    refine F.ct rfl ?_
    refine F.sq ?_
    have hn3' : w2.heap.size ≤ n3 ∧ n3 ≤ w2.heap.size ∧ n3 < w6.heap.size := ⟨Nat.le_of_eq hn3, Nat.le_of_eq hn3.symm, lt_of_cell hu0⟩
    clear hu0 hu2 zu0 zu1 zu2 hn3 sz3 sz4 sz5 sz6 ew3 ew4 ew5 ew6
    refine F.drawB (γ := Nat × Nat × Nat × List Value) (n := 7) mixed [[], [0], [], [2], [1, 3], [1, 4], [0, 1, 2, 3, 4, 5]] rfl (by kernel_rfl) (fun b g => [(23, sel (b 0) (.pointer (some ⟨e.T, 0, none⟩)) (undef)), (24, sel (b 1) (.int .i64 now2) (undef)), (25, sel (b 2) (.pointer (some ⟨n3, 1, none⟩)) (undef)), (26, sel (b 3) (.iface 168 (.pointer (some ⟨q, 0, none⟩))) (undef)), (27, sel (b 4) (.slice (some ⟨g.1, 0, none⟩) g.2.2.1 g.2.1) (undef)), (28, sel (b 5) (.agg #[.int .i64 now2, .int .i64 2, .int .i64 0, .slice (some ⟨g.1, 0, none⟩) g.2.2.1 g.2.1]) (undef))]) (fun b g w => (b 6 = false → ((Kp [n1] w2 w) ∧ (w.cell? ⟨n1, 0, none⟩ = some (.int .i64 0)) ∧ (w.cell? ⟨n1, 1, none⟩ = some (.int .i64 0)) ∧ (w.cell? ⟨n1, 2, none⟩ = some (.int .i64 0)) ∧ (w.cell? ⟨n1, 3, none⟩ = some (.slice none 0 0)) ∧ (w.cell? ⟨n3, 1, none⟩ = some (.iface 168 (.pointer (some ⟨q, 0, none⟩)))) ∧ (w.cell? ⟨e.T, 0, none⟩ = some (.pointer (some ⟨e.A, 0, none⟩))) ∧ (w.cell? ⟨e.A, 0, none⟩ = some (.int .i64 now2)) ∧ (w.cell? ⟨0, 0, none⟩ = some (.iface 217 (.agg #[.pointer (some ⟨1, 121, none⟩)]))) ∧ (w.frozen? ⟨n1, 0, none⟩ = false) ∧ (w.frozen? ⟨n1, 1, none⟩ = false) ∧ (w.frozen? ⟨n1, 2, none⟩ = false) ∧ (w.frozen? ⟨n1, 3, none⟩ = false) ∧ (b 4 = true → 0 < g.2.2.1 ∧ XS g.2.2.1 g.2.2.2 ∧ n3 < g.1 ∧ g.1 < w.heap.size ∧ ChAt w g.1 g.2.2.2))) ∧ (b 6 = true → ( Kp [n1] w2 w ∧ w.cell? ⟨n1, 0, none⟩ = some (.int .i64 now2) ∧ w.cell? ⟨n1, 1, none⟩ = some (.int .i64 2) ∧ w.cell? ⟨n1, 2, none⟩ = some (.int .i64 0) ∧ w.cell? ⟨n1, 3, none⟩ = some (.slice (some ⟨g.1, 0, none⟩) g.2.2.1 g.2.1) ∧ XS g.2.2.1 g.2.2.2 ∧ n3 < g.1 ∧ g.1 < w.heap.size ∧ ChAt w g.1 g.2.2.2))) ((0, 0, 0, [])) (by simp only [pu, Nat.reduceAdd, Nat.reduceEqDiff, reduceIte]) (⟨fun _ => ⟨kp, ho0, ho1, ho2, ho3, hu1, hT0, hA0, hg, zo0, zo1, zo2, zo3, fun h => (by cases h)⟩, fun h => by cases h⟩) (all_cons ?_ (all_cons ?_ (all_cons ?_ (all_cons ?_ (all_cons ?_ (all_cons ?_ (all_cons ?_ (all_nil)))))))) ?_
    · intro b g w hI hcl hbi hdp rest hre hkk
      obtain ⟨hwf, hwt⟩ := hI
      replace hbi : b 0 = false := hbi
      have nb1 := nbf (hcl 1 0 rfl) hbi
      have nb6 := nbf (hcl 6 0 rfl) hbi
      obtain ⟨kp, ho0, ho1, ho2, ho3, hu1, hT0, hA0, hg, zo0, zo1, zo2, zo3, hch⟩ := hwf nb6
      clear hwf hwt
      simp only [nb1, nb6, hbi, pu, Nat.reduceAdd, Nat.reduceEqDiff, reduceIte]
      refine F.oq rfl rfl rfl (by simp [go_sem]) fun d K h => ?_; go_simp; refine h _ ?_; clear h K d; try walk_nrm
      have hk2 := hkk g _ ⟨fun _ => ⟨kp, ho0, ho1, ho2, ho3, hu1, hT0, hA0, hg, zo0, zo1, zo2, zo3, hch⟩, fun h => no nb6 h⟩
      simp only [nb1, nb6, hbi, pu, Nat.reduceAdd, Nat.reduceEqDiff, reduceIte] at hk2
      exact hk2
    · intro b g w hI hcl hbi hdp rest hre hkk
      obtain ⟨hwf, hwt⟩ := hI
      replace hbi : b 1 = false := hbi
      have d0 := hdp 0 rfl
      have nb4 := nbf (hcl 4 1 rfl) hbi
      have nb5 := nbf (hcl 5 1 rfl) hbi
      have nb6 := nbf (hcl 6 1 rfl) hbi
      obtain ⟨kp, ho0, ho1, ho2, ho3, hu1, hT0, hA0, hg, zo0, zo1, zo2, zo3, hch⟩ := hwf nb6
      clear hwf hwt
      simp only [d0, nb4, nb5, nb6, hbi, pu, Nat.reduceAdd, Nat.reduceEqDiff, reduceIte]
      refine F.enter rfl rfl (by decide) (fun _ => run_call_body rfl Tryz.func53 (by rfl) (by rfl)) (fun _ => events_call_body rfl Tryz.func53 (by rfl) (by rfl) _) ?_
      walk_nrm
      refine now_x e.T e.A _ w hT0 hA0 K.t0 K.a0 _ F _ _ (fun v wq hp => ?_)
      obtain ⟨rfl, hq⟩ := hp
      have hq := hq.symm
      subst hq
      rw [Frame.finish_at]
      try walk_nrm
      have hk2 := hkk g _ ⟨fun _ => ⟨kp, ho0, ho1, ho2, ho3, hu1, hT0, hA0, hg, zo0, zo1, zo2, zo3, hch⟩, fun h => no nb6 h⟩
      simp only [d0, nb4, nb5, nb6, hbi, pu, Nat.reduceAdd, Nat.reduceEqDiff, reduceIte] at hk2
      exact hk2
    · intro b g w hI hcl hbi hdp rest hre hkk
      obtain ⟨hwf, hwt⟩ := hI
      replace hbi : b 2 = false := hbi
      have nb3 := nbf (hcl 3 2 rfl) hbi
      have nb6 := nbf (hcl 6 2 rfl) hbi
      obtain ⟨kp, ho0, ho1, ho2, ho3, hu1, hT0, hA0, hg, zo0, zo1, zo2, zo3, hch⟩ := hwf nb6
      clear hwf hwt
      simp only [nb3, nb6, hbi, pu, Nat.reduceAdd, Nat.reduceEqDiff, reduceIte]
      refine F.oq rfl rfl rfl (by simp [go_sem]) fun d K h => ?_; go_simp; refine h _ ?_; clear h K d; try walk_nrm
      have hk2 := hkk g _ ⟨fun _ => ⟨kp, ho0, ho1, ho2, ho3, hu1, hT0, hA0, hg, zo0, zo1, zo2, zo3, hch⟩, fun h => no nb6 h⟩
      simp only [nb3, nb6, hbi, pu, Nat.reduceAdd, Nat.reduceEqDiff, reduceIte] at hk2
      exact hk2
    · intro b g w hI hcl hbi hdp rest hre hkk
      obtain ⟨hwf, hwt⟩ := hI
      replace hbi : b 3 = false := hbi
      have d2 := hdp 2 rfl
      have nb4 := nbf (hcl 4 3 rfl) hbi
      have nb6 := nbf (hcl 6 3 rfl) hbi
      obtain ⟨kp, ho0, ho1, ho2, ho3, hu1, hT0, hA0, hg, zo0, zo1, zo2, zo3, hch⟩ := hwf nb6
      clear hwf hwt
      simp only [d2, nb4, nb6, hbi, pu, Nat.reduceAdd, Nat.reduceEqDiff, reduceIte]
      refine F.ol rfl rfl rfl fun d K h => ?_; go_simp; refine h _ (fun e m => ?_) ?_; simp [go_sem, *] at m; subst m; exact evr (w := w) (by assumption) (by first | assumption | (apply hfr <;> dsimp only <;> omega)); clear h K d; try walk_nrm
      have hk2 := hkk g _ ⟨fun _ => ⟨kp, ho0, ho1, ho2, ho3, hu1, hT0, hA0, hg, zo0, zo1, zo2, zo3, hch⟩, fun h => no nb6 h⟩
      simp only [d2, nb4, nb6, hbi, pu, Nat.reduceAdd, Nat.reduceEqDiff, reduceIte] at hk2
      exact hk2
    · intro b g w hI hcl hbi hdp rest hre hkk
      obtain ⟨hwf, hwt⟩ := hI
      replace hbi : b 4 = false := hbi
      have d1 := hdp 1 rfl
      have d3 := hdp 3 rfl
      have d2 := hcl 3 2 rfl d3
      have d0 := hcl 1 0 rfl d1
      have nb5 := nbf (hcl 5 4 rfl) hbi
      have nb6 := nbf (hcl 6 4 rfl) hbi
      obtain ⟨kp, ho0, ho1, ho2, ho3, hu1, hT0, hA0, hg, zo0, zo1, zo2, zo3, hch⟩ := hwf nb6
      clear hwf hwt
      simp only [d1, d3, d2, d0, nb5, nb6, hbi, pu, Nat.reduceAdd, Nat.reduceEqDiff, reduceIte]
      have hsw := kp.size
      refine F.enter rfl rfl (by decide) (fun _ => run_call_body rfl Tryz.func55 (by rfl) (by rfl)) (fun _ => events_call_body rfl Tryz.func55 (by rfl) (by rfl) _) ?_
      walk_nrm
      obtain ⟨nl, xs, hnl, hxs, hcc⟩ := hcx (hPR hpr kp hnn.1) hnn.2 (Nat.le_trans (hwx) hsw) hg
      refine hcc _ F _ _ (fun v wq hp => ?_)
      obtain ⟨kq, hrow⟩ := hp
      obtain ⟨gg, cap, rfl, f1, f2, f3⟩ := chAt_of hnl hrow
      have hun : n3 < w.heap.size := lt_of_cell hu1
      rw [Frame.finish_at]
      try walk_nrm
      have hk2 := hkk (gg, cap, nl, xs) _ ⟨fun _ => ⟨kp.callM kq (by simp), kq.cell _ _ (by simp) ho0, kq.cell _ _ (by simp) ho1, kq.cell _ _ (by simp) ho2, kq.cell _ _ (by simp) ho3, kq.cell _ _ (by simp) hu1, kq.cell _ _ (by simp) hT0, kq.cell _ _ (by simp) hA0, kq.cell _ _ (by simp) hg, (kq.froz _ _ (by simp) ho0).trans zo0, (kq.froz _ _ (by simp) ho1).trans zo1, (kq.froz _ _ (by simp) ho2).trans zo2, (kq.froz _ _ (by simp) ho3).trans zo3, fun _ => ⟨hnl, hxs, by dsimp only; omega, f2, f3⟩⟩, fun h => no nb6 h⟩
      simp only [d1, d3, d2, d0, nb5, nb6, hbi, pu, Nat.reduceAdd, Nat.reduceEqDiff, reduceIte] at hk2
      exact hk2
    · intro b g w hI hcl hbi hdp rest hre hkk
      obtain ⟨hwf, hwt⟩ := hI
      replace hbi : b 5 = false := hbi
      have d1 := hdp 1 rfl
      have d4 := hdp 4 rfl
      have d3 := hcl 4 3 rfl d4
      have d2 := hcl 3 2 rfl d3
      have d0 := hcl 1 0 rfl d1
      have nb6 := nbf (hcl 6 5 rfl) hbi
      obtain ⟨kp, ho0, ho1, ho2, ho3, hu1, hT0, hA0, hg, zo0, zo1, zo2, zo3, hch⟩ := hwf nb6
      clear hwf hwt
      simp only [d1, d4, d3, d2, d0, nb6, hbi, pu, Nat.reduceAdd, Nat.reduceEqDiff, reduceIte]
      refine F.oq rfl rfl rfl (by simp [go_sem]) fun d K h => ?_; go_simp; refine h _ ?_; clear h K d; try walk_nrm
      have hk2 := hkk g _ ⟨fun _ => ⟨kp, ho0, ho1, ho2, ho3, hu1, hT0, hA0, hg, zo0, zo1, zo2, zo3, hch⟩, fun h => no nb6 h⟩
      simp only [d1, d4, d3, d2, d0, nb6, hbi, pu, Nat.reduceAdd, Nat.reduceEqDiff, reduceIte] at hk2
      exact hk2
    · intro b g w hI hcl hbi hdp rest hre hkk
      obtain ⟨hwf, hwt⟩ := hI
      replace hbi : b 6 = false := hbi
      have d0 := hdp 0 rfl
      have d1 := hdp 1 rfl
      have d2 := hdp 2 rfl
      have d3 := hdp 3 rfl
      have d4 := hdp 4 rfl
      have d5 := hdp 5 rfl
      obtain ⟨kp, ho0, ho1, ho2, ho3, hu1, hT0, hA0, hg, zo0, zo1, zo2, zo3, hch⟩ := hwf hbi
      clear hwf hwt
      simp only [d0, d1, d2, d3, d4, d5, hbi, pu, Nat.reduceAdd, Nat.reduceEqDiff, reduceIte]
      obtain ⟨f0, fx, f1, f2, f3⟩ := hch d4
      have kb : Kp [n1] w w := Kp.refl _
      clear hch
      refine F.op rfl rfl (by decide) (fun d K hK => ?_)
      go_simp
      repeat rw [setCell_at']
      refine hK _ _ ⟨DX.set4 _ (by (first | assumption | (apply hfr <;> dsimp only <;> omega))) (by (first | assumption | (apply hfr <;> dsimp only <;> omega))) (by (first | assumption | (apply hfr <;> dsimp only <;> omega))) (by (first | assumption | (apply hfr <;> dsimp only <;> omega))) (fun e he => ?_), ?_⟩
      · have hm := mem_listed he
        simp [go_sem, storedEv, evst_slice, evst_ptr, evst_iface, evst_nil, evst_bool, *] at hm
        rcases hm with rfl | rfl | rfl | rfl <;> exact .inl ⟨_, rfl, rfl, by (first | assumption | (apply hfr <;> dsimp only <;> omega)), by simp only [size_at, size_set]; first | omega | exact lt_of_cell (by assumption)⟩
      clear hK K d
      try walk_nrm
      generalize ew7 : World.setCell w _ _ = w7
      have sz7 := sz_st2 ew7
      replace zo0 := fz_st zo0 ew7
      replace zo1 := fz_st zo1 ew7
      replace zo2 := fz_st zo2 ew7
      replace zo3 := fz_st zo3 ew7
      replace ho0 := cl_st' ho0 ew7
      replace ho1 := cl_st ho1 ew7 (by intro e; simp at e <;> omega)
      replace ho2 := cl_st ho2 ew7 (by intro e; simp at e <;> omega)
      replace ho3 := cl_st ho3 ew7 (by intro e; simp at e <;> omega)
      replace hu1 := cl_st hu1 ew7 (by intro e; simp at e <;> omega)
      replace hT0 := cl_st hT0 ew7 (by intro e; simp at e <;> omega)
      replace hA0 := cl_st hA0 ew7 (by intro e; simp at e <;> omega)
      replace hg := cl_st hg ew7 (by intro e; simp at e <;> omega)
      replace kp := kp.stN ew7 (by first | (left; simp; done) | (right; left; simp; done) | (right; right; dsimp only; omega))
      generalize ew8 : World.setCell w7 _ _ = w8
      have sz8 := sz_st2 ew8
      replace zo0 := fz_st zo0 ew8
      replace zo1 := fz_st zo1 ew8
      replace zo2 := fz_st zo2 ew8
      replace zo3 := fz_st zo3 ew8
      replace ho0 := cl_st ho0 ew8 (by intro e; simp at e <;> omega)
      replace ho1 := cl_st' ho1 ew8
      replace ho2 := cl_st ho2 ew8 (by intro e; simp at e <;> omega)
      replace ho3 := cl_st ho3 ew8 (by intro e; simp at e <;> omega)
      replace hu1 := cl_st hu1 ew8 (by intro e; simp at e <;> omega)
      replace hT0 := cl_st hT0 ew8 (by intro e; simp at e <;> omega)
      replace hA0 := cl_st hA0 ew8 (by intro e; simp at e <;> omega)
      replace hg := cl_st hg ew8 (by intro e; simp at e <;> omega)
      replace kp := kp.stN ew8 (by first | (left; simp; done) | (right; left; simp; done) | (right; right; dsimp only; omega))
      generalize ew9 : World.setCell w8 _ _ = w9
      have sz9 := sz_st2 ew9
      replace zo0 := fz_st zo0 ew9
      replace zo1 := fz_st zo1 ew9
      replace zo2 := fz_st zo2 ew9
      replace zo3 := fz_st zo3 ew9
      replace ho0 := cl_st ho0 ew9 (by intro e; simp at e <;> omega)
      replace ho1 := cl_st ho1 ew9 (by intro e; simp at e <;> omega)
      replace ho2 := cl_st' ho2 ew9
      replace ho3 := cl_st ho3 ew9 (by intro e; simp at e <;> omega)
      replace hu1 := cl_st hu1 ew9 (by intro e; simp at e <;> omega)
      replace hT0 := cl_st hT0 ew9 (by intro e; simp at e <;> omega)
      replace hA0 := cl_st hA0 ew9 (by intro e; simp at e <;> omega)
      replace hg := cl_st hg ew9 (by intro e; simp at e <;> omega)
      replace kp := kp.stN ew9 (by first | (left; simp; done) | (right; left; simp; done) | (right; right; dsimp only; omega))
      generalize ew10 : World.setCell w9 _ _ = w10
      have sz10 := sz_st2 ew10
      replace zo0 := fz_st zo0 ew10
      replace zo1 := fz_st zo1 ew10
      replace zo2 := fz_st zo2 ew10
      replace zo3 := fz_st zo3 ew10
      replace ho0 := cl_st ho0 ew10 (by intro e; simp at e <;> omega)
      replace ho1 := cl_st ho1 ew10 (by intro e; simp at e <;> omega)
      replace ho2 := cl_st ho2 ew10 (by intro e; simp at e <;> omega)
      replace ho3 := cl_st' ho3 ew10
      replace hu1 := cl_st hu1 ew10 (by intro e; simp at e <;> omega)
      replace hT0 := cl_st hT0 ew10 (by intro e; simp at e <;> omega)
      replace hA0 := cl_st hA0 ew10 (by intro e; simp at e <;> omega)
      replace hg := cl_st hg ew10 (by intro e; simp at e <;> omega)
      replace kp := kp.stN ew10 (by first | (left; simp; done) | (right; left; simp; done) | (right; right; dsimp only; omega))
      have kq : Kp [n1] w w10 := (((Kp.refl w).stN ew7 (by left; simp)).stN ew8 (by left; simp) |>.stN ew9 (by left; simp)).stN ew10 (by left; simp)
      have hk2 := hkk g _ ⟨fun h => by simp [tick] at h, fun _ => ⟨kp, ho0, ho1, ho2, ho3, fx, f1, Nat.lt_of_lt_of_le f2 kq.size, f3.kp kq (by simp; omega) (by simp)⟩⟩
      simp only [d0, d1, d2, d3, d4, d5, hbi, pu, Nat.reduceAdd, Nat.reduceEqDiff, reduceIte] at hk2
      exact hk2
    intro b g w hI hall
    obtain ⟨hwf, hwt⟩ := hI
    simp only [hall 0 (by decide), hall 1 (by decide), hall 2 (by decide), hall 3 (by decide), hall 4 (by decide), hall 5 (by decide), hall 6 (by decide), pu, Nat.reduceAdd, Nat.reduceEqDiff, reduceIte]
    obtain ⟨kp', ho0', ho1', ho2', ho3', fx, f1, f2, f3⟩ := hwt (hall 6 (by decide))
    clear hwf hwt hall
    obtain ⟨gg, cap, nl, xs⟩ := g
    dsimp only at ho3' f1 f2 f3 fx ⊢
    clear ho0 ho1 ho2 ho3 hu1 hT0 hA0 hg zo0 zo1 zo2 zo3 kp
    refine F.re ?_
    refine F.ctl (fun _ => stepG_ret') ?_
    refine F.leaveE (v := .agg #[.int .i64 now2, .int .i64 2, .int .i64 0, .slice (some ⟨gg, 0, none⟩) nl cap]) rfl rfl Tryz.func38 (fun d => ?_) (fun d es hes => DX.still _ (fun e he => ?_)) ?_
    · simp [results, go_sem, *]
    · have hm := hes e he
      simp [results, go_sem, *] at hm
      rcases hm with rfl | rfl | rfl | rfl <;> exact evr (w := w) (by assumption) (by first | assumption | (refine hfr _ _ ?_; dsimp only; omega))
    have r := r12.fresh kp' (by omega)
    have H8 : CW e w _ _ _ _ := H2.keep kp' (by intro x hx; simp at hx; subst hx; right; right; exact ⟨by omega, b2', b1'⟩) l1 l2 l3 (by simp)
    exact hc _ _ ⟨_, wi, en2, ev2, m2, now2, .inr (.inl ⟨x, q, nl, xs, gg, cap, rfl, fx, rfl, by omega, f2, f3⟩), H8, r, hPR hpr kp' hnn.1⟩
  · simp only [ansOf, List.push_toArray, List.cons_append, List.nil_append]
    rw [Frame.finish_at]
    try walk_nrm
    refine F.op rfl rfl (by decide) (fun d K hK => ?_)
    go_simp
    rw [alloc_at']
    refine hK _ _ ⟨DX.alloc _ _ (fun e he => ?_), ?_⟩
    · have hm := mem_listed he
      simp [go_sem] at hm
    clear hK K d
    try walk_nrm
    generalize ew3 : World.alloc w2 _ = w3
    generalize hn3 : (World.heap w2).size = n3
    have sz3 := sz_al2 ew3 hn3
    replace zo0 := fz_al zo0 ho0 ew3
    replace zo1 := fz_al zo1 ho1 ew3
    replace zo2 := fz_al zo2 ho2 ew3
    replace zo3 := fz_al zo3 ho3 ew3
    replace ho0 := cl_al ho0 ew3
    replace ho1 := cl_al ho1 ew3
    replace ho2 := cl_al ho2 ew3
    replace ho3 := cl_al ho3 ew3
    replace hT0 := cl_al hT0 ew3
    replace hA0 := cl_al hA0 ew3
    replace hg := cl_al hg ew3
    have hu0 := cl_new (i := 0) ew3 hn3 rfl
    have zu0 := fz_new ew3 hn3 0
    have hu1 := cl_new (i := 1) ew3 hn3 rfl
    have zu1 := fz_new ew3 hn3 1
    have hu2 := cl_new (i := 2) ew3 hn3 rfl
    have zu2 := fz_new ew3 hn3 2
    try simp only [List.getElem_toArray, List.getElem_cons_zero, List.getElem_cons_succ] at hu0 hu1 hu2
    replace kp := kp.alN ew3
    refine F.op rfl rfl (by decide) (fun d K hK => ?_)
    go_simp
    repeat rw [setCell_at']
    refine hK _ _ ⟨DX.set3 _ (by (first | assumption | (apply hfr <;> dsimp only <;> omega))) (by (first | assumption | (apply hfr <;> dsimp only <;> omega))) (by (first | assumption | (apply hfr <;> dsimp only <;> omega))) (fun e he => ?_), ?_⟩
    · have hm := mem_listed he
      simp [go_sem, storedEv, evst_slice, evst_ptr, evst_iface, evst_nil, evst_bool, *] at hm
      rcases hm with rfl | rfl | rfl <;> exact .inl ⟨_, rfl, rfl, by (first | assumption | (apply hfr <;> dsimp only <;> omega)), by simp only [size_at, size_set]; first | omega | exact lt_of_cell (by assumption)⟩
    clear hK K d
    try walk_nrm
    generalize ew4 : World.setCell w3 _ _ = w4
    have sz4 := sz_st2 ew4
    replace zo0 := fz_st zo0 ew4
    replace zo1 := fz_st zo1 ew4
    replace zo2 := fz_st zo2 ew4
    replace zo3 := fz_st zo3 ew4
    replace zu0 := fz_st zu0 ew4
    replace zu1 := fz_st zu1 ew4
    replace zu2 := fz_st zu2 ew4
    replace ho0 := cl_st ho0 ew4 (by intro e; simp at e <;> omega)
    replace ho1 := cl_st ho1 ew4 (by intro e; simp at e <;> omega)
    replace ho2 := cl_st ho2 ew4 (by intro e; simp at e <;> omega)
    replace ho3 := cl_st ho3 ew4 (by intro e; simp at e <;> omega)
    replace hT0 := cl_st hT0 ew4 (by intro e; simp at e <;> omega)
    replace hA0 := cl_st hA0 ew4 (by intro e; simp at e <;> omega)
    replace hg := cl_st hg ew4 (by intro e; simp at e <;> omega)
    replace hu0 := cl_st' hu0 ew4
    replace hu1 := cl_st hu1 ew4 (by intro e; simp at e <;> omega)
    replace hu2 := cl_st hu2 ew4 (by intro e; simp at e <;> omega)
    replace kp := kp.stN ew4 (by first | (left; simp; done) | (right; left; simp; done) | (right; right; dsimp only; omega))
    generalize ew5 : World.setCell w4 _ _ = w5
    have sz5 := sz_st2 ew5
    replace zo0 := fz_st zo0 ew5
    replace zo1 := fz_st zo1 ew5
    replace zo2 := fz_st zo2 ew5
    replace zo3 := fz_st zo3 ew5
    replace zu0 := fz_st zu0 ew5
    replace zu1 := fz_st zu1 ew5
    replace zu2 := fz_st zu2 ew5
    replace ho0 := cl_st ho0 ew5 (by intro e; simp at e <;> omega)
    replace ho1 := cl_st ho1 ew5 (by intro e; simp at e <;> omega)
    replace ho2 := cl_st ho2 ew5 (by intro e; simp at e <;> omega)
    replace ho3 := cl_st ho3 ew5 (by intro e; simp at e <;> omega)
    replace hT0 := cl_st hT0 ew5 (by intro e; simp at e <;> omega)
    replace hA0 := cl_st hA0 ew5 (by intro e; simp at e <;> omega)
    replace hg := cl_st hg ew5 (by intro e; simp at e <;> omega)
    replace hu0 := cl_st hu0 ew5 (by intro e; simp at e <;> omega)
    replace hu1 := cl_st' hu1 ew5
    replace hu2 := cl_st hu2 ew5 (by intro e; simp at e <;> omega)
    replace kp := kp.stN ew5 (by first | (left; simp; done) | (right; left; simp; done) | (right; right; dsimp only; omega))
    generalize ew6 : World.setCell w5 _ _ = w6
    have sz6 := sz_st2 ew6
    replace zo0 := fz_st zo0 ew6
    replace zo1 := fz_st zo1 ew6
    replace zo2 := fz_st zo2 ew6
    replace zo3 := fz_st zo3 ew6
    replace zu0 := fz_st zu0 ew6
    replace zu1 := fz_st zu1 ew6
    replace zu2 := fz_st zu2 ew6
    replace ho0 := cl_st ho0 ew6 (by intro e; simp at e <;> omega)
    replace ho1 := cl_st ho1 ew6 (by intro e; simp at e <;> omega)
    replace ho2 := cl_st ho2 ew6 (by intro e; simp at e <;> omega)
    replace ho3 := cl_st ho3 ew6 (by intro e; simp at e <;> omega)
    replace hT0 := cl_st hT0 ew6 (by intro e; simp at e <;> omega)
    replace hA0 := cl_st hA0 ew6 (by intro e; simp at e <;> omega)
    replace hg := cl_st hg ew6 (by intro e; simp at e <;> omega)
    replace hu0 := cl_st hu0 ew6 (by intro e; simp at e <;> omega)
    replace hu1 := cl_st hu1 ew6 (by intro e; simp at e <;> omega)
    replace hu2 := cl_st' hu2 ew6
    replace kp := kp.stN ew6 (by first | (left; simp; done) | (right; left; simp; done) | (right; right; dsimp only; omega))
    refine F.es ?_
    refine F.bl ?_
    refine F.sr ?_
    simp only [rg, Nat.reduceAdd]
    refine F.oq rfl rfl rfl (by simp [go_sem]) fun d K h => ?_; go_simp; refine h _ ?_; clear h K d; try walk_nrm
    refine F.ol rfl rfl rfl fun d K h => ?_; go_simp; refine h _ (fun e m => ?_) ?_; simp [go_sem, *] at m; subst m; exact evr (w := w6) (by assumption) (by first | assumption | (apply hfr <;> dsimp only <;> omega)); clear h K d; try walk_nrm
    iterate 2 (refine F.oq rfl rfl rfl (fun _ => by first | (simp [go_sem]; done) | simp [go_sem, Instr.makeInterface, Instr.makeFunc, *]) fun d K hK => ?_; go_simp; refine hK _ ?_; clear hK K d; try walk_nrm)
    refine F.re ?_
    refine F.ct rfl ?_
    refine F.sq ?_
    refine F.drawB (γ := Unit) (n := 7) mixed [[], [0], [], [2], [1, 3], [1, 4], [0, 1, 2, 3, 4, 5]] rfl (by kernel_rfl) (fun b g => [(13, sel (b 0) (.pointer (some ⟨e.T, 0, none⟩)) (undef)), (14, sel (b 1) (.int .i64 now2) (undef)), (15, sel (b 2) (.pointer (some ⟨n3, 2, none⟩)) (undef)), (16, sel (b 3) (.iface 166 (.int .i64 x)) (undef)), (17, sel (b 4) (.int .i64 x) (undef)), (18, sel (b 5) (.agg #[.int .i64 now2, .int .i64 3, .int .i64 x, .slice none 0 0]) (undef))]) (fun b g w => (b 6 = false → w = w6) ∧ (b 6 = true → ( Kp [n1] w2 w ∧ w.cell? ⟨n1, 0, none⟩ = some (.int .i64 now2) ∧ w.cell? ⟨n1, 1, none⟩ = some (.int .i64 3) ∧ w.cell? ⟨n1, 2, none⟩ = some (.int .i64 x) ∧ w.cell? ⟨n1, 3, none⟩ = some (.slice none 0 0)))) (()) (by simp only [pu, Nat.reduceAdd, Nat.reduceEqDiff, reduceIte]) (⟨fun _ => rfl, fun h => by cases h⟩) (all_cons ?_ (all_cons ?_ (all_cons ?_ (all_cons ?_ (all_cons ?_ (all_cons ?_ (all_cons ?_ (all_nil)))))))) ?_
    · intro b g w hI hcl hbi hdp rest hre hkk
      obtain ⟨hwf, hwt⟩ := hI
      replace hbi : b 0 = false := hbi
      have nb1 := nbf (hcl 1 0 rfl) hbi
      have nb6 := nbf (hcl 6 0 rfl) hbi
      have ewc := (hwf nb6).symm
      subst ewc
      simp only [nb1, nb6, hbi, pu, Nat.reduceAdd, Nat.reduceEqDiff, reduceIte]
      refine F.oq rfl rfl rfl (by simp [go_sem]) fun d K h => ?_; go_simp; refine h _ ?_; clear h K d; try walk_nrm
      have hk2 := hkk g _ ⟨fun _ => rfl, fun h => no nb6 h⟩
      simp only [nb1, nb6, hbi, pu, Nat.reduceAdd, Nat.reduceEqDiff, reduceIte] at hk2
      exact hk2
    · intro b g w hI hcl hbi hdp rest hre hkk
      obtain ⟨hwf, hwt⟩ := hI
      replace hbi : b 1 = false := hbi
      have d0 := hdp 0 rfl
      have nb4 := nbf (hcl 4 1 rfl) hbi
      have nb5 := nbf (hcl 5 1 rfl) hbi
      have nb6 := nbf (hcl 6 1 rfl) hbi
      have ewc := (hwf nb6).symm
      subst ewc
      simp only [d0, nb4, nb5, nb6, hbi, pu, Nat.reduceAdd, Nat.reduceEqDiff, reduceIte]
      refine F.enter rfl rfl (by decide) (fun _ => run_call_body rfl Tryz.func53 (by rfl) (by rfl)) (fun _ => events_call_body rfl Tryz.func53 (by rfl) (by rfl) _) ?_
      walk_nrm
      refine now_x e.T e.A _ w6 hT0 hA0 K.t0 K.a0 _ F _ _ (fun v wq hp => ?_)
      obtain ⟨rfl, hq⟩ := hp
      have hq := hq.symm
      subst hq
      rw [Frame.finish_at]
      try walk_nrm
      have hk2 := hkk g _ ⟨fun _ => rfl, fun h => no nb6 h⟩
      simp only [d0, nb4, nb5, nb6, hbi, pu, Nat.reduceAdd, Nat.reduceEqDiff, reduceIte] at hk2
      exact hk2
    · intro b g w hI hcl hbi hdp rest hre hkk
      obtain ⟨hwf, hwt⟩ := hI
      replace hbi : b 2 = false := hbi
      have nb3 := nbf (hcl 3 2 rfl) hbi
      have nb6 := nbf (hcl 6 2 rfl) hbi
      have ewc := (hwf nb6).symm
      subst ewc
      simp only [nb3, nb6, hbi, pu, Nat.reduceAdd, Nat.reduceEqDiff, reduceIte]
      refine F.oq rfl rfl rfl (by simp [go_sem]) fun d K h => ?_; go_simp; refine h _ ?_; clear h K d; try walk_nrm
      have hk2 := hkk g _ ⟨fun _ => rfl, fun h => no nb6 h⟩
      simp only [nb3, nb6, hbi, pu, Nat.reduceAdd, Nat.reduceEqDiff, reduceIte] at hk2
      exact hk2
    · intro b g w hI hcl hbi hdp rest hre hkk
      obtain ⟨hwf, hwt⟩ := hI
      replace hbi : b 3 = false := hbi
      have d2 := hdp 2 rfl
      have nb4 := nbf (hcl 4 3 rfl) hbi
      have nb6 := nbf (hcl 6 3 rfl) hbi
      have ewc := (hwf nb6).symm
      subst ewc
      simp only [d2, nb4, nb6, hbi, pu, Nat.reduceAdd, Nat.reduceEqDiff, reduceIte]
      refine F.ol rfl rfl rfl fun d K h => ?_; go_simp; refine h _ (fun e m => ?_) ?_; simp [go_sem, *] at m; subst m; exact evr (w := w6) (by assumption) (by first | assumption | (apply hfr <;> dsimp only <;> omega)); clear h K d; try walk_nrm
      have hk2 := hkk g _ ⟨fun _ => rfl, fun h => no nb6 h⟩
      simp only [d2, nb4, nb6, hbi, pu, Nat.reduceAdd, Nat.reduceEqDiff, reduceIte] at hk2
      exact hk2
    · intro b g w hI hcl hbi hdp rest hre hkk
      obtain ⟨hwf, hwt⟩ := hI
      replace hbi : b 4 = false := hbi
      have d1 := hdp 1 rfl
      have d3 := hdp 3 rfl
      have d2 := hcl 3 2 rfl d3
      have d0 := hcl 1 0 rfl d1
      have nb5 := nbf (hcl 5 4 rfl) hbi
      have nb6 := nbf (hcl 6 4 rfl) hbi
      have ewc := (hwf nb6).symm
      subst ewc
      simp only [d1, d3, d2, d0, nb5, nb6, hbi, pu, Nat.reduceAdd, Nat.reduceEqDiff, reduceIte]
      refine F.enter rfl rfl (by decide) (fun _ => run_call_body rfl Tryz.func54 (by rfl) (by rfl)) (fun _ => events_call_body rfl Tryz.func54 (by rfl) (by rfl) _) ?_
      walk_nrm
      refine numberOf_x x w6 _ F _ _ (fun v wq hp => ?_)
      obtain ⟨rfl, hq⟩ := hp
      have hq := hq.symm
      subst hq
      rw [Frame.finish_at]
      try walk_nrm
      have hk2 := hkk g _ ⟨fun _ => rfl, fun h => no nb6 h⟩
      simp only [d1, d3, d2, d0, nb5, nb6, hbi, pu, Nat.reduceAdd, Nat.reduceEqDiff, reduceIte] at hk2
      exact hk2
    · intro b g w hI hcl hbi hdp rest hre hkk
      obtain ⟨hwf, hwt⟩ := hI
      replace hbi : b 5 = false := hbi
      have d1 := hdp 1 rfl
      have d4 := hdp 4 rfl
      have d3 := hcl 4 3 rfl d4
      have d2 := hcl 3 2 rfl d3
      have d0 := hcl 1 0 rfl d1
      have nb6 := nbf (hcl 6 5 rfl) hbi
      have ewc := (hwf nb6).symm
      subst ewc
      simp only [d1, d4, d3, d2, d0, nb6, hbi, pu, Nat.reduceAdd, Nat.reduceEqDiff, reduceIte]
      refine F.oq rfl rfl rfl (by simp [go_sem]) fun d K h => ?_; go_simp; refine h _ ?_; clear h K d; try walk_nrm
      have hk2 := hkk g _ ⟨fun _ => rfl, fun h => no nb6 h⟩
      simp only [d1, d4, d3, d2, d0, nb6, hbi, pu, Nat.reduceAdd, Nat.reduceEqDiff, reduceIte] at hk2
      exact hk2
    · intro b g w hI hcl hbi hdp rest hre hkk
      obtain ⟨hwf, hwt⟩ := hI
      replace hbi : b 6 = false := hbi
      have d0 := hdp 0 rfl
      have d1 := hdp 1 rfl
      have d2 := hdp 2 rfl
      have d3 := hdp 3 rfl
      have d4 := hdp 4 rfl
      have d5 := hdp 5 rfl
      have ewc := (hwf hbi).symm
      subst ewc
      simp only [d0, d1, d2, d3, d4, d5, hbi, pu, Nat.reduceAdd, Nat.reduceEqDiff, reduceIte]
      refine F.op rfl rfl (by decide) (fun d K hK => ?_)
      go_simp
      repeat rw [setCell_at']
      refine hK _ _ ⟨DX.set4 _ (by (first | assumption | (apply hfr <;> dsimp only <;> omega))) (by (first | assumption | (apply hfr <;> dsimp only <;> omega))) (by (first | assumption | (apply hfr <;> dsimp only <;> omega))) (by (first | assumption | (apply hfr <;> dsimp only <;> omega))) (fun e he => ?_), ?_⟩
      · have hm := mem_listed he
        simp [go_sem, storedEv, evst_slice, evst_ptr, evst_iface, evst_nil, evst_bool, *] at hm
        rcases hm with rfl | rfl | rfl | rfl <;> exact .inl ⟨_, rfl, rfl, by (first | assumption | (apply hfr <;> dsimp only <;> omega)), by simp only [size_at, size_set]; first | omega | exact lt_of_cell (by assumption)⟩
      clear hK K d
      try walk_nrm
      generalize ew7 : World.setCell w6 _ _ = w7
      have sz7 := sz_st2 ew7
      replace zo0 := fz_st zo0 ew7
      replace zo1 := fz_st zo1 ew7
      replace zo2 := fz_st zo2 ew7
      replace zo3 := fz_st zo3 ew7
      replace zu0 := fz_st zu0 ew7
      replace zu1 := fz_st zu1 ew7
      replace zu2 := fz_st zu2 ew7
      replace ho0 := cl_st' ho0 ew7
      replace ho1 := cl_st ho1 ew7 (by intro e; simp at e <;> omega)
      replace ho2 := cl_st ho2 ew7 (by intro e; simp at e <;> omega)
      replace ho3 := cl_st ho3 ew7 (by intro e; simp at e <;> omega)
      replace hT0 := cl_st hT0 ew7 (by intro e; simp at e <;> omega)
      replace hA0 := cl_st hA0 ew7 (by intro e; simp at e <;> omega)
      replace hg := cl_st hg ew7 (by intro e; simp at e <;> omega)
      replace hu0 := cl_st hu0 ew7 (by intro e; simp at e <;> omega)
      replace hu1 := cl_st hu1 ew7 (by intro e; simp at e <;> omega)
      replace hu2 := cl_st hu2 ew7 (by intro e; simp at e <;> omega)
      replace kp := kp.stN ew7 (by first | (left; simp; done) | (right; left; simp; done) | (right; right; dsimp only; omega))
      generalize ew8 : World.setCell w7 _ _ = w8
      have sz8 := sz_st2 ew8
      replace zo0 := fz_st zo0 ew8
      replace zo1 := fz_st zo1 ew8
      replace zo2 := fz_st zo2 ew8
      replace zo3 := fz_st zo3 ew8
      replace zu0 := fz_st zu0 ew8
      replace zu1 := fz_st zu1 ew8
      replace zu2 := fz_st zu2 ew8
      replace ho0 := cl_st ho0 ew8 (by intro e; simp at e <;> omega)
      replace ho1 := cl_st' ho1 ew8
      replace ho2 := cl_st ho2 ew8 (by intro e; simp at e <;> omega)
      replace ho3 := cl_st ho3 ew8 (by intro e; simp at e <;> omega)
      replace hT0 := cl_st hT0 ew8 (by intro e; simp at e <;> omega)
      replace hA0 := cl_st hA0 ew8 (by intro e; simp at e <;> omega)
      replace hg := cl_st hg ew8 (by intro e; simp at e <;> omega)
      replace hu0 := cl_st hu0 ew8 (by intro e; simp at e <;> omega)
      replace hu1 := cl_st hu1 ew8 (by intro e; simp at e <;> omega)
      replace hu2 := cl_st hu2 ew8 (by intro e; simp at e <;> omega)
      replace kp := kp.stN ew8 (by first | (left; simp; done) | (right; left; simp; done) | (right; right; dsimp only; omega))
      generalize ew9 : World.setCell w8 _ _ = w9
      have sz9 := sz_st2 ew9
      replace zo0 := fz_st zo0 ew9
      replace zo1 := fz_st zo1 ew9
      replace zo2 := fz_st zo2 ew9
      replace zo3 := fz_st zo3 ew9
      replace zu0 := fz_st zu0 ew9
      replace zu1 := fz_st zu1 ew9
      replace zu2 := fz_st zu2 ew9
      replace ho0 := cl_st ho0 ew9 (by intro e; simp at e <;> omega)
      replace ho1 := cl_st ho1 ew9 (by intro e; simp at e <;> omega)
      replace ho2 := cl_st' ho2 ew9
      replace ho3 := cl_st ho3 ew9 (by intro e; simp at e <;> omega)
      replace hT0 := cl_st hT0 ew9 (by intro e; simp at e <;> omega)
      replace hA0 := cl_st hA0 ew9 (by intro e; simp at e <;> omega)
      replace hg := cl_st hg ew9 (by intro e; simp at e <;> omega)
      replace hu0 := cl_st hu0 ew9 (by intro e; simp at e <;> omega)
      replace hu1 := cl_st hu1 ew9 (by intro e; simp at e <;> omega)
      replace hu2 := cl_st hu2 ew9 (by intro e; simp at e <;> omega)
      replace kp := kp.stN ew9 (by first | (left; simp; done) | (right; left; simp; done) | (right; right; dsimp only; omega))
      generalize ew10 : World.setCell w9 _ _ = w10
      have sz10 := sz_st2 ew10
      replace zo0 := fz_st zo0 ew10
      replace zo1 := fz_st zo1 ew10
      replace zo2 := fz_st zo2 ew10
      replace zo3 := fz_st zo3 ew10
      replace zu0 := fz_st zu0 ew10
      replace zu1 := fz_st zu1 ew10
      replace zu2 := fz_st zu2 ew10
      replace ho0 := cl_st ho0 ew10 (by intro e; simp at e <;> omega)
      replace ho1 := cl_st ho1 ew10 (by intro e; simp at e <;> omega)
      replace ho2 := cl_st ho2 ew10 (by intro e; simp at e <;> omega)
      replace ho3 := cl_st' ho3 ew10
      replace hT0 := cl_st hT0 ew10 (by intro e; simp at e <;> omega)
      replace hA0 := cl_st hA0 ew10 (by intro e; simp at e <;> omega)
      replace hg := cl_st hg ew10 (by intro e; simp at e <;> omega)
      replace hu0 := cl_st hu0 ew10 (by intro e; simp at e <;> omega)
      replace hu1 := cl_st hu1 ew10 (by intro e; simp at e <;> omega)
      replace hu2 := cl_st hu2 ew10 (by intro e; simp at e <;> omega)
      replace kp := kp.stN ew10 (by first | (left; simp; done) | (right; left; simp; done) | (right; right; dsimp only; omega))
      have hk2 := hkk g _ ⟨fun h => by simp [tick] at h, fun _ => ⟨kp, ho0, ho1, ho2, ho3⟩⟩
      simp only [d0, d1, d2, d3, d4, d5, hbi, pu, Nat.reduceAdd, Nat.reduceEqDiff, reduceIte] at hk2
      exact hk2
    intro b g w hI hall
    obtain ⟨hwf, hwt⟩ := hI
    simp only [hall 0 (by decide), hall 1 (by decide), hall 2 (by decide), hall 3 (by decide), hall 4 (by decide), hall 5 (by decide), hall 6 (by decide), pu, Nat.reduceAdd, Nat.reduceEqDiff, reduceIte]
    obtain ⟨kp', ho0', ho1', ho2', ho3'⟩ := hwt (hall 6 (by decide))
    clear hwf hwt hall
    refine F.re ?_
    refine F.ctl (fun _ => stepG_ret') ?_
    refine F.leaveE (v := .agg #[.int .i64 now2, .int .i64 3, .int .i64 x, .slice none 0 0]) rfl rfl Tryz.func38 (fun d => ?_) (fun d es hes => DX.still _ (fun e he => ?_)) ?_
    · simp [results, go_sem, *]
    · have hm := hes e he
      simp [results, go_sem, *] at hm
      rcases hm with rfl | rfl | rfl | rfl <;> exact evr (w := w) (by assumption) (by first | assumption | (refine hfr _ _ ?_; dsimp only; omega))
    have r := r12.fresh kp' (by omega)
    have H8 : CW e w _ _ _ _ := H2.keep kp' (by intro x hx; simp at hx; subst hx; right; right; exact ⟨by omega, b2', b1'⟩) l1 l2 l3 (by simp)
    exact hc _ _ ⟨_, wi, en2, ev2, m2, now2, .inr (.inr ⟨x, rfl, rfl⟩), H8, r, hPR hpr kp' hnn.1⟩

end Go.Proofs.YtobagnjnbmgidaaGreatDoor
