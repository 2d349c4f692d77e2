/- The answer of a stack, whatever comes out of it. -/
import Derived.Test.YtobagnjnbmgidaaGreatDoorY6
import Derived.Test.YtobagnjnbmgidaaGreatDoorX23
set_option linter.unusedSimpArgs false
set_option linter.unusedVariables false
namespace Go.Proofs.YtobagnjnbmgidaaGreatDoor
open Go.Conc Go.RowKit Go.Extern
variable {Ok : Addr → Bool → Prop}

theorem Ru.fresh {e : Env} {HD x : Nat} {w w1 w2 : World} {en ev en1 ev1 : Value} (r : Ru e HD w en ev w1 en1 ev1) (k : Kp [x] w1 w2) (hx : w.heap.size ≤ x) : Ru e HD w en ev w2 en1 ev1 :=
  ⟨r.kp.callM k (fun y hy => .inr (by simp at hy; omega)), r.rev, r.ren⟩

section
variable {P : Program} {main : Bool} {D : World → World → Array Event → Prop} {Ψ : Goroutine → World → Prop} {b b' : Frame} {a a' : Act} {k todo todo' : List Item} {cs : List Frame} {w : World} {ops : Array Oper} {i : Nat} {rest : List Nat} {o : Oper} {fn : Func} {v : Value}
theorem Fut.recoverAt (F : Fut P main D Ψ) (ho : ops[i]? = some o) (hw : Region.wanted o (yielded ops a.tmps) = true) (hk : b.kind = .deferred) (hro : b.roundOf = none) {ats : Array TypeId} (hop : o.op = .call { callee := .builtin .recover, args := #[], argTypes := ats })
    (h : Ψ (G (b.at (a.put o.dst v) (.inRegion ops rest :: k)) ({ b'.at a' todo' with mode := .panicking (caught v) } :: cs)) w) : Ψ (G (b.at a (.inRegion ops (i :: rest) :: k)) ({ b'.at a' todo' with mode := .panicking (blown v) } :: cs)) w :=
  F.recover ho hw hk hro hop rfl h
theorem Fut.leaveRat (F : Fut P main D Ψ) {r : Value} (hn : b.kind = .deferred) (hd : a.defers = []) (hf : P.funcs[b.fn]? = some fn) (hr : ResultsC P fn a.tmps r) (h : Ψ (G { b'.at a' todo' with mode := .returning } cs) w) : Ψ (G { b.at a todo with mode := .returning } ({ b'.at a' todo' with mode := .panicking (caught v) } :: cs)) w :=
  F.leaveR hn hd hf hr rfl h
end

/-- How an answer holds what came out. -/
def ansOf : Value ⊕ Value → Value
  | .inl (.tuple xs) => .agg (xs.push .nilIface)
  | .inl v => v
  | .inr v => .agg #[.int .i64 0, .nilIface, v]
/-- What may come out. -/
def Shape (r : Value ⊕ Value) : Prop := (∃ x, r = .inl (.tuple #[.int .i64 x, .nilIface])) ∨ (∃ x q, r = .inl (.tuple #[.int .i64 x, .iface 168 (.pointer (some ⟨q, 0, none⟩))])) ∨ ∃ x, r = .inr (.iface 166 (.int .i64 x))

set_option maxRecDepth 100000 in
set_option maxHeartbeats 8000000 in
theorem ans_o (e : Env) (K : EnvOk e Ok) (en ev : Value) (now : Int) (m : List Value) (X HD : Nat) (hH : HD < e.N) {t : TypeId} {f : FuncId} {fn : Func} (hme : ∀ (p : Value) (W : World), (Go.method (Tryz.prog.types.size + Made.depth) t p "Enter").run Tryz.prog W = .ok (f, p) W) (hmv : ∀ (p : Value) (W : World) (es : Array Event), (Go.method (Tryz.prog.types.size + Made.depth) t p "Enter").events Tryz.prog W es = es) (hf : Tryz.prog.funcs[f]? = some fn) (hname : (fn.name == "runtime.NumGoroutine") = false) (hb : fn.body.isNone = false) (w0 : World) (H : CW e w0 now en ev m)
    (PR : (Value ⊕ Value) → World → World → Value → Value → Int → List Value → Prop) (hsh : ∀ {r w w' en ev now m}, PR r w w' en ev now m → Shape r) (hPR : ∀ {r w w1 w2 en ev now m x}, PR r w w1 en ev now m → Kp [x] w1 w2 → x < w.heap.size → PR r w w2 en ev now m)
    (hin : ∀ w1, Kp [] w0 w1 → CW e w1 now en ev m → CallsO e Ok f #[.pointer (some ⟨X, 0, none⟩), .pointer (some ⟨e.T, 0, none⟩)] w1 fun r w' => ∃ en' ev' m' now', CW e w' now' en' ev' m' ∧ Ru e HD w1 en ev w' en' ev' ∧ PR r w1 w' en' ev' now' m') :
    CallsW e Ok 52 #[.iface t (.pointer (some ⟨X, 0, none⟩)), .pointer (some ⟨e.T, 0, none⟩)] w0 fun v w' => ∃ r w1 en' ev' m' now', v = ansOf r ∧ w0.heap.size ≤ w1.heap.size ∧ w1.heap.size ≤ w'.heap.size ∧ CW e w' now' en' ev' m' ∧ Ru e HD w0 en ev w' en' ev' ∧ PR r w1 w' en' ev' now' m' := by
  intro Ψ0 Ψ1 W c cs hc
  have F := W.f0
  have l1 := K.lA
  have l2 := K.lT
  have l3 := K.lJ
  have hsz := H.size
  have hsX := H.sX
  have hnX := H.nX
  have hfr : ∀ (a : Addr) (wr : Bool), e.X + 1 ≤ a.block → Ok a wr := fun a wr h => K.fr a wr (by omega) (by omega)
  rw [enter_at _ Tryz.func52 rfl]
  simp only [Tryz.ntmps52, List.size_toArray, List.length_cons, List.length_nil, Nat.reduceAdd, Nat.reduceSub, Array.replicate_succ, Array.replicate_zero, List.push_toArray, List.append_toArray, List.nil_append, List.cons_append]
  refine F.sr ?_
  simp only [rg, Nat.reduceAdd]
  refine F.op rfl rfl (by decide) (fun d K hK => ?_)
  go_simp
  rw [alloc_at']
  refine hK _ _ ⟨DX.alloc _ _ (fun e he => ?_), ?_⟩
  · have hm := mem_listed he
    simp [go_sem] at hm
  clear hK K d
  try walk_nrm
  generalize ew1 : World.alloc w0 _ = w1
  generalize hn1 : (World.heap w0).size = n1
  have sz1 := sz_al2 ew1 hn1
  have hu0 := cl_new (i := 0) ew1 hn1 rfl
  have zu0 := fz_new ew1 hn1 0
  have hu1 := cl_new (i := 1) ew1 hn1 rfl
  have zu1 := fz_new ew1 hn1 1
  have hu2 := cl_new (i := 2) ew1 hn1 rfl
  have zu2 := fz_new ew1 hn1 2
  try simp only [List.getElem_toArray, List.getElem_cons_zero, List.getElem_cons_succ] at hu0 hu1 hu2
  have kp : Kp [] w0 w0 [] := Kp.refl _
  replace kp := kp.alN ew1
  refine F.esr ?_
  simp only [rg, Nat.reduceAdd]
  refine F.oq rfl rfl rfl (by simp [go_sem]) fun d K h => ?_; go_simp; refine h _ ?_; clear h K d; try walk_nrm
  refine F.deferC rfl rfl (by decide) rfl rfl rfl ?_
  walk_nrm
  have k1 : Kp [] w0 w1 := Kp.alloc ew1
  have r1 : Ru e HD w0 en ev w1 en ev := Ru.own k1 (by simp)
  have H1 : CW e w1 _ en ev _ := H.keep k1 (by simp) l1 l2 l3 (by simp)
  have b1 : n1 ∉ rowL ev := fun z => by have := (H.rowN z).2; omega
  have b2 : n1 ∉ rowL en := fun z => by have := (H.entN z).2; omega
  refine F.esr ?_
  simp only [rg, Nat.reduceAdd]
  iterate 2 (refine F.oq rfl rfl rfl (by simp [go_sem]) fun d K h => ?_; go_simp; refine h _ ?_; clear h K d; try walk_nrm)
  refine F.invoke rfl rfl (by decide) rfl rfl (hme _) (hmv _) hf hname hb ?_
  walk_nrm
  refine hin w1 k1 H1 Ψ0 Ψ1 W _ _ (fun r w2 hp => ?_)
  obtain ⟨en2, ev2, m2, now2, H2, r2, hpr⟩ := hp
  have hs2 := r2.kp.size
  obtain ⟨hu0, z0, b1', b2'⟩ := r2.temp K hH (by omega) b1 b2 hu0
  obtain ⟨hu1, z1, _⟩ := r2.temp K hH (by omega) b1 b2 hu1
  obtain ⟨hu2, z2, _⟩ := r2.temp K hH (by omega) b1 b2 hu2
  replace zu0 := z0.trans zu0
  replace zu1 := z1.trans zu1
  replace zu2 := z2.trans zu2
  clear z0 z1 z2 kp
  have r12 := r1.trans r2
  have kp : Kp [n1] w2 w2 := Kp.refl _
  have hnn : n1 < w1.heap.size ∧ w0.heap.size ≤ w1.heap.size := by omega
  rcases hsh hpr with ⟨x, rfl⟩ | ⟨x, q, rfl⟩ | ⟨x, rfl⟩
  · simp only [ends]
    rw [Frame.finish_at]
    try walk_nrm
    iterate 4 (refine F.oq rfl rfl rfl (by simp [go_sem]) fun d K h => ?_; go_simp; refine h _ ?_; clear h K d; try walk_nrm)
    refine F.op rfl rfl (by decide) (fun d K hK => ?_)
    go_simp
    rw [setCell_at']
    refine hK _ _ ⟨DX.set _ (by (first | assumption | (apply hfr <;> dsimp only <;> omega))) (fun e he => ?_), ?_⟩
    · have hm := mem_listed he
      simp [go_sem, storedEv, evst_slice, evst_ptr, evst_iface, evst_nil, evst_bool, *] at hm
      subst hm
      exact .inl ⟨_, rfl, rfl, by (first | assumption | (apply hfr <;> dsimp only <;> omega)), by simp only [size_at, size_set]; first | omega | exact lt_of_cell (by assumption)⟩
    clear hK K d
    try walk_nrm
    generalize ew3 : World.setCell w2 _ _ = w3
    have sz3 := sz_st2 ew3
    replace zu0 := fz_st zu0 ew3
    replace zu1 := fz_st zu1 ew3
    replace zu2 := fz_st zu2 ew3
    replace hu0 := cl_st' hu0 ew3
    replace hu1 := cl_st hu1 ew3 (by intro e; simp at e <;> omega)
    replace hu2 := cl_st hu2 ew3 (by intro e; simp at e <;> omega)
    replace kp := kp.stN ew3 (by first | (left; simp; done) | (right; left; simp; done) | (right; right; dsimp only; omega))
    refine F.oq rfl rfl rfl (by simp [go_sem]) fun d K h => ?_; go_simp; refine h _ ?_; clear h K d; try walk_nrm
    refine F.op rfl rfl (by decide) (fun d K hK => ?_)
    go_simp
    rw [setCell_at']
    refine hK _ _ ⟨DX.set _ (by (first | assumption | (apply hfr <;> dsimp only <;> omega))) (fun e he => ?_), ?_⟩
    · have hm := mem_listed he
      simp [go_sem, storedEv, evst_slice, evst_ptr, evst_iface, evst_nil, evst_bool, *] at hm
      subst hm
      exact .inl ⟨_, rfl, rfl, by (first | assumption | (apply hfr <;> dsimp only <;> omega)), by simp only [size_at, size_set]; first | omega | exact lt_of_cell (by assumption)⟩
    clear hK K d
    try walk_nrm
    generalize ew4 : World.setCell w3 _ _ = w4
    have sz4 := sz_st2 ew4
    replace zu0 := fz_st zu0 ew4
    replace zu1 := fz_st zu1 ew4
    replace zu2 := fz_st zu2 ew4
    replace hu0 := cl_st hu0 ew4 (by intro e; simp at e <;> omega)
    replace hu1 := cl_st' hu1 ew4
    replace hu2 := cl_st hu2 ew4 (by intro e; simp at e <;> omega)
    replace kp := kp.stN ew4 (by first | (left; simp; done) | (right; left; simp; done) | (right; right; dsimp only; omega))
    refine F.esr ?_
    simp only [rg, Nat.reduceAdd]
    refine F.ol rfl rfl rfl fun d K hK => ?_
    go_simp
    refine hK _ (fun e hm => ?_) ?_
    · simp [go_sem, *] at hm
      rcases hm with rfl | rfl | rfl <;> exact evr (w := w4) (by assumption) (by first | assumption | (apply hfr <;> dsimp only <;> omega))
    clear hK K d
    try walk_nrm
    refine F.op rfl rfl (by decide) (fun d K hK => ?_)
    go_simp
    repeat rw [setCell_at']
    refine hK _ _ ⟨DX.set3 _ (by (first | assumption | (apply hfr <;> dsimp only <;> omega))) (by (first | assumption | (apply hfr <;> dsimp only <;> omega))) (by (first | assumption | (apply hfr <;> dsimp only <;> omega))) (fun e he => ?_), ?_⟩
    · have hm := mem_listed he
      simp [go_sem, storedEv, evst_slice, evst_ptr, evst_iface, evst_nil, evst_bool, *] at hm
      rcases hm with rfl | rfl | rfl <;> exact .inl ⟨_, rfl, rfl, by (first | assumption | (apply hfr <;> dsimp only <;> omega)), by simp only [size_at, size_set]; first | omega | exact lt_of_cell (by assumption)⟩
    clear hK K d
    try walk_nrm
    generalize ew5 : World.setCell w4 _ _ = w5
    have sz5 := sz_st2 ew5
    replace zu0 := fz_st zu0 ew5
    replace zu1 := fz_st zu1 ew5
    replace zu2 := fz_st zu2 ew5
    replace hu0 := cl_st' hu0 ew5
    replace hu1 := cl_st hu1 ew5 (by intro e; simp at e <;> omega)
    replace hu2 := cl_st hu2 ew5 (by intro e; simp at e <;> omega)
    replace kp := kp.stN ew5 (by first | (left; simp; done) | (right; left; simp; done) | (right; right; dsimp only; omega))
    generalize ew6 : World.setCell w5 _ _ = w6
    have sz6 := sz_st2 ew6
    replace zu0 := fz_st zu0 ew6
    replace zu1 := fz_st zu1 ew6
    replace zu2 := fz_st zu2 ew6
    replace hu0 := cl_st hu0 ew6 (by intro e; simp at e <;> omega)
    replace hu1 := cl_st' hu1 ew6
    replace hu2 := cl_st hu2 ew6 (by intro e; simp at e <;> omega)
    replace kp := kp.stN ew6 (by first | (left; simp; done) | (right; left; simp; done) | (right; right; dsimp only; omega))
    generalize ew7 : World.setCell w6 _ _ = w7
    have sz7 := sz_st2 ew7
    replace zu0 := fz_st zu0 ew7
    replace zu1 := fz_st zu1 ew7
    replace zu2 := fz_st zu2 ew7
    replace hu0 := cl_st hu0 ew7 (by intro e; simp at e <;> omega)
    replace hu1 := cl_st hu1 ew7 (by intro e; simp at e <;> omega)
    replace hu2 := cl_st' hu2 ew7
    replace kp := kp.stN ew7 (by first | (left; simp; done) | (right; left; simp; done) | (right; right; dsimp only; omega))
    refine F.re ?_
    refine F.ctl (fun _ => stepG_ret') ?_
    refine F.unwindC rfl Tryz.func64 (by rfl) rfl ?_
    simp only [Tryz.ntmps64, List.size_toArray, List.length_cons, List.length_nil, Nat.reduceAdd, Nat.reduceSub, Array.replicate_succ, Array.replicate_zero, List.push_toArray, List.append_toArray, List.nil_append, List.cons_append]
    refine F.rr ?_
    simp only [rg, Nat.reduceAdd]
    refine F.recoverNil rfl rfl rfl rfl rfl rfl ?_
    walk_nrm
    refine F.oq rfl rfl rfl (by simp [go_sem]) fun d K h => ?_; go_simp; refine h _ ?_; clear h K d; try walk_nrm
    refine F.op rfl rfl (by decide) (fun d K hK => ?_)
    go_simp
    rw [setCell_at']
    refine hK _ _ ⟨DX.set _ (by (first | assumption | (apply hfr <;> dsimp only <;> omega))) (fun e he => ?_), ?_⟩
    · have hm := mem_listed he
      simp [go_sem, storedEv, evst_slice, evst_ptr, evst_iface, evst_nil, evst_bool, *] at hm
      subst hm
      exact .inl ⟨_, rfl, rfl, by (first | assumption | (apply hfr <;> dsimp only <;> omega)), by simp only [size_at, size_set]; first | omega | exact lt_of_cell (by assumption)⟩
    clear hK K d
    try walk_nrm
    generalize ew8 : World.setCell w7 _ _ = w8
    have sz8 := sz_st2 ew8
    replace zu0 := fz_st zu0 ew8
    replace zu1 := fz_st zu1 ew8
    replace zu2 := fz_st zu2 ew8
    replace hu0 := cl_st hu0 ew8 (by intro e; simp at e <;> omega)
    replace hu1 := cl_st hu1 ew8 (by intro e; simp at e <;> omega)
    replace hu2 := cl_st' hu2 ew8
    replace kp := kp.stN ew8 (by first | (left; simp; done) | (right; left; simp; done) | (right; right; dsimp only; omega))
    refine F.re ?_
    refine F.ctl (fun _ => stepG_end) ?_
    refine F.leaveD rfl rfl Tryz.func64 (resultsC_none (by rfl) _) rfl ?_
    refine F.leaveE (v := .agg #[.int .i64 x, .nilIface, .nilIface]) rfl rfl Tryz.func52 (fun d => ?_) (fun d es hes => DX.still _ (fun e he => ?_)) ?_
    · simp [results, go_sem, *]
    · have hm := hes e he
      simp [results, go_sem, *] at hm
      rcases hm with rfl | rfl | rfl <;> exact evr (w := w8) (by assumption) (by first | assumption | (refine hfr _ _ ?_; dsimp only; omega))
    have r := r12.fresh kp (by omega)
    have H8 : CW e w8 _ _ _ _ := H2.keep kp (by intro x hx; simp at hx; subst hx; right; right; exact ⟨by omega, b2', b1'⟩) l1 l2 l3 (by simp)
    exact hc _ _ ⟨_, w1, en2, ev2, m2, now2, rfl, hnn.2, Nat.le_trans hs2 kp.size, H8, r, hPR hpr kp hnn.1⟩
  · simp only [ends]
    rw [Frame.finish_at]
    try walk_nrm
    iterate 4 (refine F.oq rfl rfl rfl (by simp [go_sem]) fun d K h => ?_; go_simp; refine h _ ?_; clear h K d; try walk_nrm)
    refine F.op rfl rfl (by decide) (fun d K hK => ?_)
    go_simp
    rw [setCell_at']
    refine hK _ _ ⟨DX.set _ (by (first | assumption | (apply hfr <;> dsimp only <;> omega))) (fun e he => ?_), ?_⟩
    · have hm := mem_listed he
      simp [go_sem, storedEv, evst_slice, evst_ptr, evst_iface, evst_nil, evst_bool, *] at hm
      subst hm
      exact .inl ⟨_, rfl, rfl, by (first | assumption | (apply hfr <;> dsimp only <;> omega)), by simp only [size_at, size_set]; first | omega | exact lt_of_cell (by assumption)⟩
    clear hK K d
    try walk_nrm
    generalize ew3 : World.setCell w2 _ _ = w3
    have sz3 := sz_st2 ew3
    replace zu0 := fz_st zu0 ew3
    replace zu1 := fz_st zu1 ew3
    replace zu2 := fz_st zu2 ew3
    replace hu0 := cl_st' hu0 ew3
    replace hu1 := cl_st hu1 ew3 (by intro e; simp at e <;> omega)
    replace hu2 := cl_st hu2 ew3 (by intro e; simp at e <;> omega)
    replace kp := kp.stN ew3 (by first | (left; simp; done) | (right; left; simp; done) | (right; right; dsimp only; omega))
    refine F.oq rfl rfl rfl (by simp [go_sem]) fun d K h => ?_; go_simp; refine h _ ?_; clear h K d; try walk_nrm
    refine F.op rfl rfl (by decide) (fun d K hK => ?_)
    go_simp
    rw [setCell_at']
    refine hK _ _ ⟨DX.set _ (by (first | assumption | (apply hfr <;> dsimp only <;> omega))) (fun e he => ?_), ?_⟩
    · have hm := mem_listed he
      simp [go_sem, storedEv, evst_slice, evst_ptr, evst_iface, evst_nil, evst_bool, *] at hm
      subst hm
      exact .inl ⟨_, rfl, rfl, by (first | assumption | (apply hfr <;> dsimp only <;> omega)), by simp only [size_at, size_set]; first | omega | exact lt_of_cell (by assumption)⟩
    clear hK K d
    try walk_nrm
    generalize ew4 : World.setCell w3 _ _ = w4
    have sz4 := sz_st2 ew4
    replace zu0 := fz_st zu0 ew4
    replace zu1 := fz_st zu1 ew4
    replace zu2 := fz_st zu2 ew4
    replace hu0 := cl_st hu0 ew4 (by intro e; simp at e <;> omega)
    replace hu1 := cl_st' hu1 ew4
    replace hu2 := cl_st hu2 ew4 (by intro e; simp at e <;> omega)
    replace kp := kp.stN ew4 (by first | (left; simp; done) | (right; left; simp; done) | (right; right; dsimp only; omega))
    refine F.esr ?_
    simp only [rg, Nat.reduceAdd]
    refine F.ol rfl rfl rfl fun d K hK => ?_
    go_simp
    refine hK _ (fun e hm => ?_) ?_
    · simp [go_sem, *] at hm
      rcases hm with rfl | rfl | rfl <;> exact evr (w := w4) (by assumption) (by first | assumption | (apply hfr <;> dsimp only <;> omega))
    clear hK K d
    try walk_nrm
    refine F.op rfl rfl (by decide) (fun d K hK => ?_)
    go_simp
    repeat rw [setCell_at']
    refine hK _ _ ⟨DX.set3 _ (by (first | assumption | (apply hfr <;> dsimp only <;> omega))) (by (first | assumption | (apply hfr <;> dsimp only <;> omega))) (by (first | assumption | (apply hfr <;> dsimp only <;> omega))) (fun e he => ?_), ?_⟩
    · have hm := mem_listed he
      simp [go_sem, storedEv, evst_slice, evst_ptr, evst_iface, evst_nil, evst_bool, *] at hm
      rcases hm with rfl | rfl | rfl <;> exact .inl ⟨_, rfl, rfl, by (first | assumption | (apply hfr <;> dsimp only <;> omega)), by simp only [size_at, size_set]; first | omega | exact lt_of_cell (by assumption)⟩
    clear hK K d
    try walk_nrm
    generalize ew5 : World.setCell w4 _ _ = w5
    have sz5 := sz_st2 ew5
    replace zu0 := fz_st zu0 ew5
    replace zu1 := fz_st zu1 ew5
    replace zu2 := fz_st zu2 ew5
    replace hu0 := cl_st' hu0 ew5
    replace hu1 := cl_st hu1 ew5 (by intro e; simp at e <;> omega)
    replace hu2 := cl_st hu2 ew5 (by intro e; simp at e <;> omega)
    replace kp := kp.stN ew5 (by first | (left; simp; done) | (right; left; simp; done) | (right; right; dsimp only; omega))
    generalize ew6 : World.setCell w5 _ _ = w6
    have sz6 := sz_st2 ew6
    replace zu0 := fz_st zu0 ew6
    replace zu1 := fz_st zu1 ew6
    replace zu2 := fz_st zu2 ew6
    replace hu0 := cl_st hu0 ew6 (by intro e; simp at e <;> omega)
    replace hu1 := cl_st' hu1 ew6
    replace hu2 := cl_st hu2 ew6 (by intro e; simp at e <;> omega)
    replace kp := kp.stN ew6 (by first | (left; simp; done) | (right; left; simp; done) | (right; right; dsimp only; omega))
    generalize ew7 : World.setCell w6 _ _ = w7
    have sz7 := sz_st2 ew7
    replace zu0 := fz_st zu0 ew7
    replace zu1 := fz_st zu1 ew7
    replace zu2 := fz_st zu2 ew7
    replace hu0 := cl_st hu0 ew7 (by intro e; simp at e <;> omega)
    replace hu1 := cl_st hu1 ew7 (by intro e; simp at e <;> omega)
    replace hu2 := cl_st' hu2 ew7
    replace kp := kp.stN ew7 (by first | (left; simp; done) | (right; left; simp; done) | (right; right; dsimp only; omega))
    refine F.re ?_
    refine F.ctl (fun _ => stepG_ret') ?_
    refine F.unwindC rfl Tryz.func64 (by rfl) rfl ?_
    simp only [Tryz.ntmps64, List.size_toArray, List.length_cons, List.length_nil, Nat.reduceAdd, Nat.reduceSub, Array.replicate_succ, Array.replicate_zero, List.push_toArray, List.append_toArray, List.nil_append, List.cons_append]
    refine F.rr ?_
    simp only [rg, Nat.reduceAdd]
    refine F.recoverNil rfl rfl rfl rfl rfl rfl ?_
    walk_nrm
    refine F.oq rfl rfl rfl (by simp [go_sem]) fun d K h => ?_; go_simp; refine h _ ?_; clear h K d; try walk_nrm
    refine F.op rfl rfl (by decide) (fun d K hK => ?_)
    go_simp
    rw [setCell_at']
    refine hK _ _ ⟨DX.set _ (by (first | assumption | (apply hfr <;> dsimp only <;> omega))) (fun e he => ?_), ?_⟩
    · have hm := mem_listed he
      simp [go_sem, storedEv, evst_slice, evst_ptr, evst_iface, evst_nil, evst_bool, *] at hm
      subst hm
      exact .inl ⟨_, rfl, rfl, by (first | assumption | (apply hfr <;> dsimp only <;> omega)), by simp only [size_at, size_set]; first | omega | exact lt_of_cell (by assumption)⟩
    clear hK K d
    try walk_nrm
    generalize ew8 : World.setCell w7 _ _ = w8
    have sz8 := sz_st2 ew8
    replace zu0 := fz_st zu0 ew8
    replace zu1 := fz_st zu1 ew8
    replace zu2 := fz_st zu2 ew8
    replace hu0 := cl_st hu0 ew8 (by intro e; simp at e <;> omega)
    replace hu1 := cl_st hu1 ew8 (by intro e; simp at e <;> omega)
    replace hu2 := cl_st' hu2 ew8
    replace kp := kp.stN ew8 (by first | (left; simp; done) | (right; left; simp; done) | (right; right; dsimp only; omega))
    refine F.re ?_
    refine F.ctl (fun _ => stepG_end) ?_
    refine F.leaveD rfl rfl Tryz.func64 (resultsC_none (by rfl) _) rfl ?_
    refine F.leaveE (v := .agg #[.int .i64 x, .iface 168 (.pointer (some ⟨q, 0, none⟩)), .nilIface]) rfl rfl Tryz.func52 (fun d => ?_) (fun d es hes => DX.still _ (fun e he => ?_)) ?_
    · simp [results, go_sem, *]
    · have hm := hes e he
      simp [results, go_sem, *] at hm
      rcases hm with rfl | rfl | rfl <;> exact evr (w := w8) (by assumption) (by first | assumption | (refine hfr _ _ ?_; dsimp only; omega))
    have r := r12.fresh kp (by omega)
    have H8 : CW e w8 _ _ _ _ := H2.keep kp (by intro x hx; simp at hx; subst hx; right; right; exact ⟨by omega, b2', b1'⟩) l1 l2 l3 (by simp)
    exact hc _ _ ⟨_, w1, en2, ev2, m2, now2, rfl, hnn.2, Nat.le_trans hs2 kp.size, H8, r, hPR hpr kp hnn.1⟩
  · simp only [ends]
    rw [raise_base]
    refine F.unwindP rfl Tryz.func64 (by rfl) rfl ?_
    simp only [Tryz.ntmps64, List.size_toArray, List.length_cons, List.length_nil, Nat.reduceAdd, Nat.reduceSub, Array.replicate_succ, Array.replicate_zero, List.push_toArray, List.append_toArray, List.nil_append, List.cons_append]
    refine F.rr ?_
    simp only [rg, Nat.reduceAdd]
    refine F.recoverAt rfl rfl rfl rfl rfl ?_
    walk_nrm
    refine F.oq rfl rfl rfl (by simp [go_sem]) fun d K h => ?_; go_simp; refine h _ ?_; clear h K d; try walk_nrm
    refine F.op rfl rfl (by decide) (fun d K hK => ?_)
    go_simp
    rw [setCell_at']
    refine hK _ _ ⟨DX.set _ (by (first | assumption | (apply hfr <;> dsimp only <;> omega))) (fun e he => ?_), ?_⟩
    · have hm := mem_listed he
      simp [go_sem, storedEv, evst_slice, evst_ptr, evst_iface, evst_nil, evst_bool, *] at hm
      subst hm
      exact .inl ⟨_, rfl, rfl, by (first | assumption | (apply hfr <;> dsimp only <;> omega)), by simp only [size_at, size_set]; first | omega | exact lt_of_cell (by assumption)⟩
    clear hK K d
    try walk_nrm
    generalize ew3 : World.setCell w2 _ _ = w3
    have sz3 := sz_st2 ew3
    replace zu0 := fz_st zu0 ew3
    replace zu1 := fz_st zu1 ew3
    replace zu2 := fz_st zu2 ew3
    replace hu0 := cl_st hu0 ew3 (by intro e; simp at e <;> omega)
    replace hu1 := cl_st hu1 ew3 (by intro e; simp at e <;> omega)
    replace hu2 := cl_st' hu2 ew3
    replace kp := kp.stN ew3 (by first | (left; simp; done) | (right; left; simp; done) | (right; right; dsimp only; omega))
    refine F.re ?_
    refine F.ctl (fun _ => stepG_end) ?_
    refine F.leaveRat rfl rfl Tryz.func64 (resultsC_none (by rfl) _) ?_
    refine F.leaveE (v := .agg #[.int .i64 0, .nilIface, .iface 166 (.int .i64 x)]) rfl rfl Tryz.func52 (fun d => ?_) (fun d es hes => DX.still _ (fun e he => ?_)) ?_
    · simp [results, go_sem, *]
    · have hm := hes e he
      simp [results, go_sem, *] at hm
      rcases hm with rfl | rfl | rfl <;> exact evr (w := w3) (by assumption) (by first | assumption | (refine hfr _ _ ?_; dsimp only; omega))
    have r := r12.fresh kp (by omega)
    have H8 : CW e w3 _ _ _ _ := H2.keep kp (by intro x hx; simp at hx; subst hx; right; right; exact ⟨by omega, b2', b1'⟩) l1 l2 l3 (by simp)
    exact hc _ _ ⟨_, w1, en2, ev2, m2, now2, rfl, hnn.2, Nat.le_trans hs2 kp.size, H8, r, hPR hpr kp hnn.1⟩

end Go.Proofs.YtobagnjnbmgidaaGreatDoor

/-! The links of an error, one after the other. -/
namespace Go.Proofs.YtobagnjnbmgidaaGreatDoor
open Go.Conc Go.RowKit Go.Extern
variable {Ok : Addr → Bool → Prop} {main : Bool}

def fstSeq : Code → Code
  | .seq c _ => c
  | c => c

set_option maxRecDepth 100000 in
set_option maxHeartbeats 8000000 in
theorem ch_step {Ψ : Goroutine → World → Prop} (F : Fut Tryz.prog main (DX Ok) Ψ) (c : Frame) (cs : List Frame) (wS : World) (hS0 : 0 < wS.heap.size) (hg : wS.cell? ⟨0, 0, none⟩ = some (.iface 217 (.agg #[.pointer (some ⟨1, 121, none⟩)]))) (oG : Ok ⟨0, 0, none⟩ false) (N : Nat) (hN : N ≤ wS.heap.size) (hfr : ∀ a wr, N ≤ a.block → Ok a wr)
    (p : Nat) (kd ly nn : Int) (nx : Value) (lp : N ≤ p) (L : LinkAt wS p kd ly nn nx) (n1 : Nat) (hB : wS.heap.size ≤ n1) (m : Nat) (hm : m ≤ 4) (xs : List Value) (v old : Value) {y1 y5 y6 y7 y8 y9 y10 y11 y12 y13 y14 y15 y16 y17 y18 y19 y20 y21 y22 y23 y24 y25 y26 y27 y28 : Value} (w0 : World) (kp : Kp [] wS w0) (hl0 : w0.cell? ⟨n1, 0, none⟩ = some old) (zl0 : w0.frozen? ⟨n1, 0, none⟩ = false) (hrow : w0.ownsRow wS.heap.size 48 3 v m xs) (hnr : n1 ∉ rowL v)
    (hk : ∀ {y1 y5 y6 y7 y8 y9 y10 y11 y12 y13 y14 y15 y16 y17 y18 y19 y20 y21 y22 y23 y24 y25 y26 y27 y28 : Value} (v' : Value) (w' : World), Kp [] wS w' → w'.cell? ⟨n1, 0, none⟩ = some (.pointer (some ⟨p, 0, none⟩)) → w'.frozen? ⟨n1, 0, none⟩ = false → w'.ownsRow wS.heap.size 48 3 v' (m + 1) (xs ++ [.int .i64 kd, .int .i64 ly, .int .i64 nn]) → n1 ∉ rowL v' → Ψ (G ((base 55).at ⟨#[nx, y1, .slice none 0 0, v', .pointer (some ⟨n1, 0, none⟩), y5, y6, y7, y8, y9, y10, y11, y12, y13, y14, y15, y16, y17, y18, y19, y20, y21, y22, y23, y24, y25, y26, y27, y28], []⟩ [.code (loopIn (fstSeq (dropSeq 3 (Tryz.f55.body.getD .skip)))), .inLoop (loopIn (fstSeq (dropSeq 3 (Tryz.f55.body.getD .skip)))), .inBlock 0, .code (dropSeq 4 (Tryz.f55.body.getD .skip))]) (c :: cs)) w') :
    Ψ (G ((base 55).at ⟨#[.iface 168 (.pointer (some ⟨p, 0, none⟩)), y1, .slice none 0 0, v, .pointer (some ⟨n1, 0, none⟩), y5, y6, y7, y8, y9, y10, y11, y12, y13, y14, y15, y16, y17, y18, y19, y20, y21, y22, y23, y24, y25, y26, y27, y28], []⟩ [.code (loopIn (fstSeq (dropSeq 3 (Tryz.f55.body.getD .skip)))), .inLoop (loopIn (fstSeq (dropSeq 3 (Tryz.f55.body.getD .skip)))), .inBlock 0, .code (dropSeq 4 (Tryz.f55.body.getD .skip))]) (c :: cs)) w0 := by
  have sp : p < wS.heap.size := lt_of_cell L.c0
  obtain ⟨inf, z, i1, i2, i3, i4, i5⟩ := inf48
  have hc0 := kp.cell _ _ (by simp) L.c0
  have hc1 := kp.cell _ _ (by simp) L.c1
  have hc2 := kp.cell _ _ (by simp) L.c2
  have hc3 := kp.cell _ _ (by simp) L.c3
  replace hg := kp.cell _ _ (by simp) hg
  have sw := kp.size
  unfold fstSeq dropSeq loopIn
  refine F.sq ?_
  refine F.sr ?_
  simp only [rg, Nat.reduceAdd]
  iterate 2 (refine F.oq rfl rfl rfl (fun _ => by first | (simp [go_sem]; done) | simp [go_sem, Instr.makeInterface, Instr.makeFunc, *]) fun d K hK => ?_; go_simp; refine hK _ ?_; clear hK K d; try walk_nrm)
  refine F.enter rfl rfl (by decide) (fun _ => run_call_body rfl Tryz.func65 (by rfl) (by rfl)) (fun _ => events_call_body rfl Tryz.func65 (by rfl) (by rfl) _) ?_
  walk_nrm
  refine errAs_x ⟨p, 0, none⟩ ⟨n1, 0, none⟩ _ w0 hg hl0 zl0 oG (hfr _ _ (by dsimp only; omega)) (fun a wr h => hfr a wr (by omega)) _ F _ _ (fun v w1 hp => ?_)
  obtain ⟨rfl, kq, hl', zl'⟩ := hp
  have hrn : ∀ g ∈ rowL v, g ∉ ([] : List Nat) ∧ ∀ x ∈ [(⟨n1, 0, none⟩ : Addr)], x.block ≠ g := fun g hg => ⟨by simp, fun x hx e => hnr (by simp at hx; subst hx; have e2 : n1 = g := e; rw [e2]; exact hg)⟩
  replace hrow := kq.row hrow hrn
  clear hl0 zl0
  replace hg := kq.cellC _ _ (by simp) (by first | (simp; done) | (simp; omega)) hg
  replace hc0 := kq.cellC _ _ (by simp) (by first | (simp; done) | (simp; omega)) hc0
  replace hc1 := kq.cellC _ _ (by simp) (by first | (simp; done) | (simp; omega)) hc1
  replace hc2 := kq.cellC _ _ (by simp) (by first | (simp; done) | (simp; omega)) hc2
  replace hc3 := kq.cellC _ _ (by simp) (by first | (simp; done) | (simp; omega)) hc3
  replace kp : Kp [] wS w1 := kp.callN kq (by simp) (by intro x hx; simp at hx; subst hx; right; right; exact hB)
  have hl0 := hl'
  have zl0 := zl'
  clear kq hl' zl' hrn
  rw [Frame.finish_at]
  try walk_nrm
  refine F.re ?_
  refine F.ct rfl ?_
  refine F.sk ?_
  refine F.bl ?_
  refine F.sq ?_
  have sz1' : n1 + 1 ≤ w1.heap.size := lt_of_cell hl0
  refine F.drawB (γ := Nat × Value) (n := 17) mixed [[], [], [1], [2], [3], [], [5], [6], [7], [], [9], [10], [11], [4, 8, 12], [13], [0, 14], [0, 1, 2, 3, 4, 5, 6, 7, 8, 9, 10, 11, 12, 13, 14, 15]] rfl (by kernel_rfl) (fun b g => [(8, sel (b 0) (v) (y8)), (9, sel (b 1) (.pointer (some ⟨p, 0, none⟩)) (y9)), (10, sel (b 2) (.pointer (some ⟨p, 0, none⟩)) (y10)), (11, sel (b 3) (.pointer (some ⟨p, 0, none⟩)) (y11)), (12, sel (b 4) (.int .i64 kd) (y12)), (13, sel (b 5) (.pointer (some ⟨p, 0, none⟩)) (y13)), (14, sel (b 6) (.pointer (some ⟨p, 0, none⟩)) (y14)), (15, sel (b 7) (.pointer (some ⟨p, 1, none⟩)) (y15)), (16, sel (b 8) (.int .i64 ly) (y16)), (17, sel (b 9) (.pointer (some ⟨p, 0, none⟩)) (y17)), (18, sel (b 10) (.pointer (some ⟨p, 0, none⟩)) (y18)), (19, sel (b 11) (.pointer (some ⟨p, 2, none⟩)) (y19)), (20, sel (b 12) (.int .i64 nn) (y20)), (21, sel (b 13) (.agg #[.int .i64 kd, .int .i64 ly, .int .i64 nn]) (y21)), (22, sel (b 14) (.slice (some ⟨g.1, 0, none⟩) 1 1) (y22)), (23, sel (b 15) (g.2) (y23)), (3, sel (b 16) (g.2) (v))]) (fun b g w => (b 16 = false → ((Kp [] wS w) ∧ (w.cell? ⟨0, 0, none⟩ = some (.iface 217 (.agg #[.pointer (some ⟨1, 121, none⟩)]))) ∧ (w.cell? ⟨p, 0, none⟩ = some (.int .i64 kd)) ∧ (w.cell? ⟨p, 1, none⟩ = some (.int .i64 ly)) ∧ (w.cell? ⟨p, 2, none⟩ = some (.int .i64 nn)) ∧ (w.cell? ⟨p, 3, none⟩ = some (nx)) ∧ (w.cell? ⟨n1, 0, none⟩ = some (.pointer (some ⟨p, 0, none⟩))) ∧ (w.frozen? ⟨n1, 0, none⟩ = false) ∧ (b 15 = false → w.ownsRow wS.heap.size 48 3 v m xs) ∧ (b 14 = true → b 15 = false → n1 < g.1 ∧ g.1 < w.heap.size ∧ w.cell? ⟨g.1, 0, none⟩ = some (.int .i64 kd) ∧ w.cell? ⟨g.1, 1, none⟩ = some (.int .i64 ly) ∧ w.cell? ⟨g.1, 2, none⟩ = some (.int .i64 nn)) ∧ (b 15 = true → w.ownsRow wS.heap.size 48 3 g.2 (m + 1) (xs ++ [.int .i64 kd, .int .i64 ly, .int .i64 nn]) ∧ n1 ∉ rowL g.2))) ∧ (b 16 = true → ( Kp [] wS w ∧ w.cell? ⟨n1, 0, none⟩ = some (.pointer (some ⟨p, 0, none⟩)) ∧ w.cell? ⟨p, 3, none⟩ = some nx ∧ w.frozen? ⟨n1, 0, none⟩ = false ∧ w.ownsRow wS.heap.size 48 3 g.2 (m + 1) (xs ++ [.int .i64 kd, .int .i64 ly, .int .i64 nn]) ∧ n1 ∉ rowL g.2))) ((0, undef)) (by simp only [pu, Nat.reduceAdd, Nat.reduceEqDiff, reduceIte]) (⟨fun _ => ⟨kp, hg, hc0, hc1, hc2, hc3, hl0, zl0, fun _ => hrow, fun h => (by cases h), fun h => (by cases h)⟩, fun h => by cases h⟩) (all_cons ?_ (all_cons ?_ (all_cons ?_ (all_cons ?_ (all_cons ?_ (all_cons ?_ (all_cons ?_ (all_cons ?_ (all_cons ?_ (all_cons ?_ (all_cons ?_ (all_cons ?_ (all_cons ?_ (all_cons ?_ (all_cons ?_ (all_cons ?_ (all_cons ?_ (all_nil)))))))))))))))))) ?_
  · intro b g w hI hcl hbi hdp rest hre hkk
    obtain ⟨hwf, hwt⟩ := hI
    replace hbi : b 0 = false := hbi
    have nb15 := nbf (hcl 15 0 rfl) hbi
    have nb16 := nbf (hcl 16 0 rfl) hbi
    obtain ⟨kp, hg, hc0, hc1, hc2, hc3, hl0, zl0, hro, hnb, hrr⟩ := hwf nb16
    clear hwf hwt
    simp only [nb15, nb16, hbi, pu, Nat.reduceAdd, Nat.reduceEqDiff, reduceIte]
    refine F.oq rfl rfl rfl (by simp [go_sem]) fun d K h => ?_; go_simp; refine h _ ?_; clear h K d; try walk_nrm
    have hk2 := hkk g _ ⟨fun _ => ⟨kp, hg, hc0, hc1, hc2, hc3, hl0, zl0, hro, hnb, hrr⟩, fun h => no nb16 h⟩
    simp only [nb15, nb16, hbi, pu, Nat.reduceAdd, Nat.reduceEqDiff, reduceIte] at hk2
    exact hk2
  · intro b g w hI hcl hbi hdp rest hre hkk
    obtain ⟨hwf, hwt⟩ := hI
    replace hbi : b 1 = false := hbi
    have nb2 := nbf (hcl 2 1 rfl) hbi
    have nb16 := nbf (hcl 16 1 rfl) hbi
    obtain ⟨kp, hg, hc0, hc1, hc2, hc3, hl0, zl0, hro, hnb, hrr⟩ := hwf nb16
    clear hwf hwt
    simp only [nb2, nb16, hbi, pu, Nat.reduceAdd, Nat.reduceEqDiff, reduceIte]
    refine F.ol rfl rfl rfl fun d K h => ?_; go_simp; refine h _ (fun e m => ?_) ?_; simp [go_sem, *] at m; subst m; exact evr (w := w) (by assumption) (by first | assumption | (apply hfr <;> dsimp only <;> omega)); clear h K d; try walk_nrm
    have hk2 := hkk g _ ⟨fun _ => ⟨kp, hg, hc0, hc1, hc2, hc3, hl0, zl0, hro, hnb, hrr⟩, fun h => no nb16 h⟩
    simp only [nb2, nb16, hbi, pu, Nat.reduceAdd, Nat.reduceEqDiff, reduceIte] at hk2
    exact hk2
  · intro b g w hI hcl hbi hdp rest hre hkk
    obtain ⟨hwf, hwt⟩ := hI
    replace hbi : b 2 = false := hbi
    have d1 := hdp 1 rfl
    have nb3 := nbf (hcl 3 2 rfl) hbi
    have nb16 := nbf (hcl 16 2 rfl) hbi
    obtain ⟨kp, hg, hc0, hc1, hc2, hc3, hl0, zl0, hro, hnb, hrr⟩ := hwf nb16
    clear hwf hwt
    simp only [d1, nb3, nb16, hbi, pu, Nat.reduceAdd, Nat.reduceEqDiff, reduceIte]
    refine F.oq rfl rfl rfl (by simp [go_sem]) fun d K h => ?_; go_simp; refine h _ ?_; clear h K d; try walk_nrm
    have hk2 := hkk g _ ⟨fun _ => ⟨kp, hg, hc0, hc1, hc2, hc3, hl0, zl0, hro, hnb, hrr⟩, fun h => no nb16 h⟩
    simp only [d1, nb3, nb16, hbi, pu, Nat.reduceAdd, Nat.reduceEqDiff, reduceIte] at hk2
    exact hk2
  · intro b g w hI hcl hbi hdp rest hre hkk
    obtain ⟨hwf, hwt⟩ := hI
    replace hbi : b 3 = false := hbi
    have d2 := hdp 2 rfl
    have d1 := hcl 2 1 rfl d2
    have nb4 := nbf (hcl 4 3 rfl) hbi
    have nb16 := nbf (hcl 16 3 rfl) hbi
    obtain ⟨kp, hg, hc0, hc1, hc2, hc3, hl0, zl0, hro, hnb, hrr⟩ := hwf nb16
    clear hwf hwt
    simp only [d2, d1, nb4, nb16, hbi, pu, Nat.reduceAdd, Nat.reduceEqDiff, reduceIte]
    refine F.oq rfl rfl rfl (by simp [go_sem]) fun d K h => ?_; go_simp; refine h _ ?_; clear h K d; try walk_nrm
    have hk2 := hkk g _ ⟨fun _ => ⟨kp, hg, hc0, hc1, hc2, hc3, hl0, zl0, hro, hnb, hrr⟩, fun h => no nb16 h⟩
    simp only [d2, d1, nb4, nb16, hbi, pu, Nat.reduceAdd, Nat.reduceEqDiff, reduceIte] at hk2
    exact hk2
  · intro b g w hI hcl hbi hdp rest hre hkk
    obtain ⟨hwf, hwt⟩ := hI
    replace hbi : b 4 = false := hbi
    have d3 := hdp 3 rfl
    have d2 := hcl 3 2 rfl d3
    have d1 := hcl 2 1 rfl d2
    have nb13 := nbf (hcl 13 4 rfl) hbi
    have nb16 := nbf (hcl 16 4 rfl) hbi
    obtain ⟨kp, hg, hc0, hc1, hc2, hc3, hl0, zl0, hro, hnb, hrr⟩ := hwf nb16
    clear hwf hwt
    simp only [d3, d2, d1, nb13, nb16, hbi, pu, Nat.reduceAdd, Nat.reduceEqDiff, reduceIte]
    refine F.ol rfl rfl rfl fun d K h => ?_; go_simp; refine h _ (fun e m => ?_) ?_; simp [go_sem, *] at m; subst m; exact evr (w := w) (by assumption) (by first | assumption | (apply hfr <;> dsimp only <;> omega)); clear h K d; try walk_nrm
    have hk2 := hkk g _ ⟨fun _ => ⟨kp, hg, hc0, hc1, hc2, hc3, hl0, zl0, hro, hnb, hrr⟩, fun h => no nb16 h⟩
    simp only [d3, d2, d1, nb13, nb16, hbi, pu, Nat.reduceAdd, Nat.reduceEqDiff, reduceIte] at hk2
    exact hk2
  · intro b g w hI hcl hbi hdp rest hre hkk
    obtain ⟨hwf, hwt⟩ := hI
    replace hbi : b 5 = false := hbi
    have nb6 := nbf (hcl 6 5 rfl) hbi
    have nb16 := nbf (hcl 16 5 rfl) hbi
    obtain ⟨kp, hg, hc0, hc1, hc2, hc3, hl0, zl0, hro, hnb, hrr⟩ := hwf nb16
    clear hwf hwt
    simp only [nb6, nb16, hbi, pu, Nat.reduceAdd, Nat.reduceEqDiff, reduceIte]
    refine F.ol rfl rfl rfl fun d K h => ?_; go_simp; refine h _ (fun e m => ?_) ?_; simp [go_sem, *] at m; subst m; exact evr (w := w) (by assumption) (by first | assumption | (apply hfr <;> dsimp only <;> omega)); clear h K d; try walk_nrm
    have hk2 := hkk g _ ⟨fun _ => ⟨kp, hg, hc0, hc1, hc2, hc3, hl0, zl0, hro, hnb, hrr⟩, fun h => no nb16 h⟩
    simp only [nb6, nb16, hbi, pu, Nat.reduceAdd, Nat.reduceEqDiff, reduceIte] at hk2
    exact hk2
  · intro b g w hI hcl hbi hdp rest hre hkk
    obtain ⟨hwf, hwt⟩ := hI
    replace hbi : b 6 = false := hbi
    have d5 := hdp 5 rfl
    have nb7 := nbf (hcl 7 6 rfl) hbi
    have nb16 := nbf (hcl 16 6 rfl) hbi
    obtain ⟨kp, hg, hc0, hc1, hc2, hc3, hl0, zl0, hro, hnb, hrr⟩ := hwf nb16
    clear hwf hwt
    simp only [d5, nb7, nb16, hbi, pu, Nat.reduceAdd, Nat.reduceEqDiff, reduceIte]
    refine F.oq rfl rfl rfl (by simp [go_sem]) fun d K h => ?_; go_simp; refine h _ ?_; clear h K d; try walk_nrm
    have hk2 := hkk g _ ⟨fun _ => ⟨kp, hg, hc0, hc1, hc2, hc3, hl0, zl0, hro, hnb, hrr⟩, fun h => no nb16 h⟩
    simp only [d5, nb7, nb16, hbi, pu, Nat.reduceAdd, Nat.reduceEqDiff, reduceIte] at hk2
    exact hk2
  · intro b g w hI hcl hbi hdp rest hre hkk
    obtain ⟨hwf, hwt⟩ := hI
    replace hbi : b 7 = false := hbi
    have d6 := hdp 6 rfl
    have d5 := hcl 6 5 rfl d6
    have nb8 := nbf (hcl 8 7 rfl) hbi
    have nb16 := nbf (hcl 16 7 rfl) hbi
    obtain ⟨kp, hg, hc0, hc1, hc2, hc3, hl0, zl0, hro, hnb, hrr⟩ := hwf nb16
    clear hwf hwt
    simp only [d6, d5, nb8, nb16, hbi, pu, Nat.reduceAdd, Nat.reduceEqDiff, reduceIte]
    refine F.oq rfl rfl rfl (by simp [go_sem]) fun d K h => ?_; go_simp; refine h _ ?_; clear h K d; try walk_nrm
    have hk2 := hkk g _ ⟨fun _ => ⟨kp, hg, hc0, hc1, hc2, hc3, hl0, zl0, hro, hnb, hrr⟩, fun h => no nb16 h⟩
    simp only [d6, d5, nb8, nb16, hbi, pu, Nat.reduceAdd, Nat.reduceEqDiff, reduceIte] at hk2
    exact hk2
  · intro b g w hI hcl hbi hdp rest hre hkk
    obtain ⟨hwf, hwt⟩ := hI
    replace hbi : b 8 = false := hbi
    have d7 := hdp 7 rfl
    have d6 := hcl 7 6 rfl d7
    have d5 := hcl 6 5 rfl d6
    have nb13 := nbf (hcl 13 8 rfl) hbi
    have nb16 := nbf (hcl 16 8 rfl) hbi
    obtain ⟨kp, hg, hc0, hc1, hc2, hc3, hl0, zl0, hro, hnb, hrr⟩ := hwf nb16
    clear hwf hwt
    simp only [d7, d6, d5, nb13, nb16, hbi, pu, Nat.reduceAdd, Nat.reduceEqDiff, reduceIte]
    refine F.ol rfl rfl rfl fun d K h => ?_; go_simp; refine h _ (fun e m => ?_) ?_; simp [go_sem, *] at m; subst m; exact evr (w := w) (by assumption) (by first | assumption | (apply hfr <;> dsimp only <;> omega)); clear h K d; try walk_nrm
    have hk2 := hkk g _ ⟨fun _ => ⟨kp, hg, hc0, hc1, hc2, hc3, hl0, zl0, hro, hnb, hrr⟩, fun h => no nb16 h⟩
    simp only [d7, d6, d5, nb13, nb16, hbi, pu, Nat.reduceAdd, Nat.reduceEqDiff, reduceIte] at hk2
    exact hk2
  · intro b g w hI hcl hbi hdp rest hre hkk
    obtain ⟨hwf, hwt⟩ := hI
    replace hbi : b 9 = false := hbi
    have nb10 := nbf (hcl 10 9 rfl) hbi
    have nb16 := nbf (hcl 16 9 rfl) hbi
    obtain ⟨kp, hg, hc0, hc1, hc2, hc3, hl0, zl0, hro, hnb, hrr⟩ := hwf nb16
    clear hwf hwt
    simp only [nb10, nb16, hbi, pu, Nat.reduceAdd, Nat.reduceEqDiff, reduceIte]
    refine F.ol rfl rfl rfl fun d K h => ?_; go_simp; refine h _ (fun e m => ?_) ?_; simp [go_sem, *] at m; subst m; exact evr (w := w) (by assumption) (by first | assumption | (apply hfr <;> dsimp only <;> omega)); clear h K d; try walk_nrm
    have hk2 := hkk g _ ⟨fun _ => ⟨kp, hg, hc0, hc1, hc2, hc3, hl0, zl0, hro, hnb, hrr⟩, fun h => no nb16 h⟩
    simp only [nb10, nb16, hbi, pu, Nat.reduceAdd, Nat.reduceEqDiff, reduceIte] at hk2
    exact hk2
  · intro b g w hI hcl hbi hdp rest hre hkk
    obtain ⟨hwf, hwt⟩ := hI
    replace hbi : b 10 = false := hbi
    have d9 := hdp 9 rfl
    have nb11 := nbf (hcl 11 10 rfl) hbi
    have nb16 := nbf (hcl 16 10 rfl) hbi
    obtain ⟨kp, hg, hc0, hc1, hc2, hc3, hl0, zl0, hro, hnb, hrr⟩ := hwf nb16
    clear hwf hwt
    simp only [d9, nb11, nb16, hbi, pu, Nat.reduceAdd, Nat.reduceEqDiff, reduceIte]
    refine F.oq rfl rfl rfl (by simp [go_sem]) fun d K h => ?_; go_simp; refine h _ ?_; clear h K d; try walk_nrm
    have hk2 := hkk g _ ⟨fun _ => ⟨kp, hg, hc0, hc1, hc2, hc3, hl0, zl0, hro, hnb, hrr⟩, fun h => no nb16 h⟩
    simp only [d9, nb11, nb16, hbi, pu, Nat.reduceAdd, Nat.reduceEqDiff, reduceIte] at hk2
    exact hk2
  · intro b g w hI hcl hbi hdp rest hre hkk
    obtain ⟨hwf, hwt⟩ := hI
    replace hbi : b 11 = false := hbi
    have d10 := hdp 10 rfl
    have d9 := hcl 10 9 rfl d10
    have nb12 := nbf (hcl 12 11 rfl) hbi
    have nb16 := nbf (hcl 16 11 rfl) hbi
    obtain ⟨kp, hg, hc0, hc1, hc2, hc3, hl0, zl0, hro, hnb, hrr⟩ := hwf nb16
    clear hwf hwt
    simp only [d10, d9, nb12, nb16, hbi, pu, Nat.reduceAdd, Nat.reduceEqDiff, reduceIte]
    refine F.oq rfl rfl rfl (by simp [go_sem]) fun d K h => ?_; go_simp; refine h _ ?_; clear h K d; try walk_nrm
    have hk2 := hkk g _ ⟨fun _ => ⟨kp, hg, hc0, hc1, hc2, hc3, hl0, zl0, hro, hnb, hrr⟩, fun h => no nb16 h⟩
    simp only [d10, d9, nb12, nb16, hbi, pu, Nat.reduceAdd, Nat.reduceEqDiff, reduceIte] at hk2
    exact hk2
  · intro b g w hI hcl hbi hdp rest hre hkk
    obtain ⟨hwf, hwt⟩ := hI
    replace hbi : b 12 = false := hbi
    have d11 := hdp 11 rfl
    have d10 := hcl 11 10 rfl d11
    have d9 := hcl 10 9 rfl d10
    have nb13 := nbf (hcl 13 12 rfl) hbi
    have nb16 := nbf (hcl 16 12 rfl) hbi
    obtain ⟨kp, hg, hc0, hc1, hc2, hc3, hl0, zl0, hro, hnb, hrr⟩ := hwf nb16
    clear hwf hwt
    simp only [d11, d10, d9, nb13, nb16, hbi, pu, Nat.reduceAdd, Nat.reduceEqDiff, reduceIte]
    refine F.ol rfl rfl rfl fun d K h => ?_; go_simp; refine h _ (fun e m => ?_) ?_; simp [go_sem, *] at m; subst m; exact evr (w := w) (by assumption) (by first | assumption | (apply hfr <;> dsimp only <;> omega)); clear h K d; try walk_nrm
    have hk2 := hkk g _ ⟨fun _ => ⟨kp, hg, hc0, hc1, hc2, hc3, hl0, zl0, hro, hnb, hrr⟩, fun h => no nb16 h⟩
    simp only [d11, d10, d9, nb13, nb16, hbi, pu, Nat.reduceAdd, Nat.reduceEqDiff, reduceIte] at hk2
    exact hk2
  · intro b g w hI hcl hbi hdp rest hre hkk
    obtain ⟨hwf, hwt⟩ := hI
    replace hbi : b 13 = false := hbi
    have d4 := hdp 4 rfl
    have d8 := hdp 8 rfl
    have d12 := hdp 12 rfl
    have d11 := hcl 12 11 rfl d12
    have d10 := hcl 11 10 rfl d11
    have d9 := hcl 10 9 rfl d10
    have d7 := hcl 8 7 rfl d8
    have d6 := hcl 7 6 rfl d7
    have d5 := hcl 6 5 rfl d6
    have d3 := hcl 4 3 rfl d4
    have d2 := hcl 3 2 rfl d3
    have d1 := hcl 2 1 rfl d2
    have nb14 := nbf (hcl 14 13 rfl) hbi
    have nb16 := nbf (hcl 16 13 rfl) hbi
    obtain ⟨kp, hg, hc0, hc1, hc2, hc3, hl0, zl0, hro, hnb, hrr⟩ := hwf nb16
    clear hwf hwt
    simp only [d4, d8, d12, d11, d10, d9, d7, d6, d5, d3, d2, d1, nb14, nb16, hbi, pu, Nat.reduceAdd, Nat.reduceEqDiff, reduceIte]
    refine F.oq rfl rfl rfl (by simp [go_sem]) fun d K h => ?_; go_simp; refine h _ ?_; clear h K d; try walk_nrm
    have hk2 := hkk g _ ⟨fun _ => ⟨kp, hg, hc0, hc1, hc2, hc3, hl0, zl0, hro, hnb, hrr⟩, fun h => no nb16 h⟩
    simp only [d4, d8, d12, d11, d10, d9, d7, d6, d5, d3, d2, d1, nb14, nb16, hbi, pu, Nat.reduceAdd, Nat.reduceEqDiff, reduceIte] at hk2
    exact hk2
  · intro b g w hI hcl hbi hdp rest hre hkk
    obtain ⟨hwf, hwt⟩ := hI
    replace hbi : b 14 = false := hbi
    have d13 := hdp 13 rfl
    have d4 := hcl 13 4 rfl d13
    have d8 := hcl 13 8 rfl d13
    have d12 := hcl 13 12 rfl d13
    have d11 := hcl 12 11 rfl d12
    have d10 := hcl 11 10 rfl d11
    have d9 := hcl 10 9 rfl d10
    have d7 := hcl 8 7 rfl d8
    have d6 := hcl 7 6 rfl d7
    have d5 := hcl 6 5 rfl d6
    have d3 := hcl 4 3 rfl d4
    have d2 := hcl 3 2 rfl d3
    have d1 := hcl 2 1 rfl d2
    have nb15 := nbf (hcl 15 14 rfl) hbi
    have nb16 := nbf (hcl 16 14 rfl) hbi
    obtain ⟨kp, hg, hc0, hc1, hc2, hc3, hl0, zl0, hro, hnb, hrr⟩ := hwf nb16
    clear hwf hwt
    simp only [d13, d4, d8, d12, d11, d10, d9, d7, d6, d5, d3, d2, d1, nb15, nb16, hbi, pu, Nat.reduceAdd, Nat.reduceEqDiff, reduceIte]
    have hge : n1 < w.heap.size := lt_of_cell hl0
    refine F.op rfl rfl (by decide) (fun d K hK => ?_)
    go_simp
    rw [alloc_at']
    refine hK _ _ ⟨DX.alloc _ _ (fun e he => ?_), ?_⟩
    · have hm := mem_listed he
      simp [go_sem] at hm
    clear hK K d
    try walk_nrm
    generalize ew2 : World.alloc w _ = w2
    generalize hn2 : (World.heap w).size = n2
    have sz2 := sz_al2 ew2 hn2
    replace zl0 := fz_al zl0 hl0 ew2
    replace hg := cl_al hg ew2
    replace hc0 := cl_al hc0 ew2
    replace hc1 := cl_al hc1 ew2
    replace hc2 := cl_al hc2 ew2
    replace hc3 := cl_al hc3 ew2
    replace hl0 := cl_al hl0 ew2
    have he0 := cl_new (i := 0) ew2 hn2 rfl
    have ze0 := fz_new ew2 hn2 0
    have he1 := cl_new (i := 1) ew2 hn2 rfl
    have ze1 := fz_new ew2 hn2 1
    have he2 := cl_new (i := 2) ew2 hn2 rfl
    have ze2 := fz_new ew2 hn2 2
    try simp only [List.getElem_toArray, List.getElem_cons_zero, List.getElem_cons_succ] at he0 he1 he2
    replace kp := kp.alN ew2
    have hk2 := hkk (n2, g.2) _ ⟨fun _ => ⟨kp, hg, hc0, hc1, hc2, hc3, hl0, zl0, fun h => ownsRow_al (hro h) ew2, fun _ _ => ⟨by omega, by omega, he0, he1, he2⟩, fun h => no nb15 h⟩, fun h => no nb16 h⟩
    simp only [d13, d4, d8, d12, d11, d10, d9, d7, d6, d5, d3, d2, d1, nb15, nb16, hbi, pu, Nat.reduceAdd, Nat.reduceEqDiff, reduceIte] at hk2
    exact hk2
  · intro b g w hI hcl hbi hdp rest hre hkk
    obtain ⟨hwf, hwt⟩ := hI
    replace hbi : b 15 = false := hbi
    have d0 := hdp 0 rfl
    have d14 := hdp 14 rfl
    have d13 := hcl 14 13 rfl d14
    have d4 := hcl 13 4 rfl d13
    have d8 := hcl 13 8 rfl d13
    have d12 := hcl 13 12 rfl d13
    have d11 := hcl 12 11 rfl d12
    have d10 := hcl 11 10 rfl d11
    have d9 := hcl 10 9 rfl d10
    have d7 := hcl 8 7 rfl d8
    have d6 := hcl 7 6 rfl d7
    have d5 := hcl 6 5 rfl d6
    have d3 := hcl 4 3 rfl d4
    have d2 := hcl 3 2 rfl d3
    have d1 := hcl 2 1 rfl d2
    have nb16 := nbf (hcl 16 15 rfl) hbi
    obtain ⟨kp, hg, hc0, hc1, hc2, hc3, hl0, zl0, hro, hnb, hrr⟩ := hwf nb16
    clear hwf hwt
    simp only [d0, d14, d13, d4, d8, d12, d11, d10, d9, d7, d6, d5, d3, d2, d1, nb16, hbi, pu, Nat.reduceAdd, Nat.reduceEqDiff, reduceIte]
    obtain ⟨f1, f2, f3, f4, f5⟩ := hnb d14 hbi
    have hge := kp.size
    refine F.append rfl rfl (by decide) (.tmp 8) (.tmp 22) 44 48 rfl inf z wS.heap.size 3 24 und44 i1 i2 i3 i4 i5 (by decide) (v := v) (n := m) (nb := g.1) (xs := xs) (news := [.int .i64 kd, .int .i64 ly, .int .i64 nn]) rfl rfl (hro hbi) rfl ?_ (by simp [Value.oneCell']) (by simp [maxLen]; omega) (by omega) (by omega) f2 (fun ad wr h => hfr ad wr (by have := (row_ge (hro hbi) (mem_rowL.2 h.symm)).1; omega)) (fun ad h => hfr ad false (by omega)) ?_
    · intro j u hu
      match j, hu with
      | 0, hu => simp at hu; subst hu; exact f3
      | 1, hu => simp at hu; subst hu; exact f4
      | 2, hu => simp at hu; subst hu; exact f5
      | j + 3, hu => simp at hu
    intro v' w' hr hgr hbk
    try walk_nrm
    have kg := Kp.grown hgr
    have hlt : n1 < w.heap.size := lt_of_cell hl0
    have hnot : ∀ x, x ∈ rowL v → wS.heap.size ≤ x ∧ x ≠ n1 := fun x hx => ⟨(row_ge (hro hbi) hx).1, fun e => by subst e; exact hnr hx⟩
    have r0 : (0 : Nat) ∉ rowL v := fun z => by have := (hnot _ z).1; omega
    have rp : p ∉ rowL v := fun z => by have := (hnot _ z).1; omega
    have rn : n1 ∉ rowL v := fun z => (hnot _ z).2 rfl
    have hk2 := hkk (g.1, v') _ ⟨fun _ => ⟨kp.callM kg (fun x hx => .inr (hnot x hx).1), kg.cell _ _ r0 hg, kg.cell _ _ rp hc0, kg.cell _ _ rp hc1, kg.cell _ _ rp hc2, kg.cell _ _ rp hc3, kg.cell _ _ rn hl0, (kg.froz _ _ rn hl0).trans zl0, fun h => (by simp [tick] at h), fun _ h => (by simp [tick] at h), fun _ => ⟨hr, fun hx => (by rw [mem_rowL] at hx; rcases hbk with y | y; exact rn (mem_rowL.2 (y ▸ hx)); rw [y] at hx; have := Option.some.inj hx; omega)⟩⟩, fun h => no nb16 h⟩
    simp only [d0, d14, d13, d4, d8, d12, d11, d10, d9, d7, d6, d5, d3, d2, d1, nb16, hbi, pu, Nat.reduceAdd, Nat.reduceEqDiff, reduceIte] at hk2
    exact hk2
  · intro b g w hI hcl hbi hdp rest hre hkk
    obtain ⟨hwf, hwt⟩ := hI
    replace hbi : b 16 = false := hbi
    have d0 := hdp 0 rfl
    have d1 := hdp 1 rfl
    have d2 := hdp 2 rfl
    have d3 := hdp 3 rfl
    have d4 := hdp 4 rfl
    have d5 := hdp 5 rfl
    have d6 := hdp 6 rfl
    have d7 := hdp 7 rfl
    have d8 := hdp 8 rfl
    have d9 := hdp 9 rfl
    have d10 := hdp 10 rfl
    have d11 := hdp 11 rfl
    have d12 := hdp 12 rfl
    have d13 := hdp 13 rfl
    have d14 := hdp 14 rfl
    have d15 := hdp 15 rfl
    obtain ⟨kp, hg, hc0, hc1, hc2, hc3, hl0, zl0, hro, hnb, hrr⟩ := hwf hbi
    clear hwf hwt
    simp only [d0, d1, d2, d3, d4, d5, d6, d7, d8, d9, d10, d11, d12, d13, d14, d15, hbi, pu, Nat.reduceAdd, Nat.reduceEqDiff, reduceIte]
    refine F.oq rfl rfl rfl (by simp [go_sem]) fun d K h => ?_; go_simp; refine h _ ?_; clear h K d; try walk_nrm
    have hk2 := hkk g _ ⟨fun h => by simp [tick] at h, fun _ => ⟨kp, hl0, hc3, zl0, hrr d15⟩⟩
    simp only [d0, d1, d2, d3, d4, d5, d6, d7, d8, d9, d10, d11, d12, d13, d14, d15, hbi, pu, Nat.reduceAdd, Nat.reduceEqDiff, reduceIte] at hk2
    exact hk2
  intro b g w hI hall
  obtain ⟨hwf, hwt⟩ := hI
  simp only [hall 0 (by decide), hall 1 (by decide), hall 2 (by decide), hall 3 (by decide), hall 4 (by decide), hall 5 (by decide), hall 6 (by decide), hall 7 (by decide), hall 8 (by decide), hall 9 (by decide), hall 10 (by decide), hall 11 (by decide), hall 12 (by decide), hall 13 (by decide), hall 14 (by decide), hall 15 (by decide), hall 16 (by decide), pu, Nat.reduceAdd, Nat.reduceEqDiff, reduceIte]
  obtain ⟨kp', hl0', hc3', zl0', hrow', hnr'⟩ := hwt (hall 16 (by decide))
  clear kp hg hc0 hc1 hc2 hc3 hl0 zl0 hrow hwf hwt hnr
  obtain ⟨x2, ex2⟩ : ∃ x, x = w := ⟨w, rfl⟩
  subst ex2
  obtain ⟨v2, ev2⟩ : ∃ y, y = g.2 := ⟨g.2, rfl⟩
  obtain ⟨m2, em2⟩ : ∃ y, y = g.1 := ⟨g.1, rfl⟩
  simp only [← ev2, ← em2] at hrow' hnr' ⊢
  clear ev2 em2 hall
  refine F.er ?_
  simp only [rg, Nat.reduceAdd]
  refine F.ol rfl rfl rfl fun d K h => ?_; go_simp; refine h _ (fun e m => ?_) ?_; simp [go_sem, *] at m; subst m; exact evr (w := x2) (by assumption) (by first | assumption | (apply hfr <;> dsimp only <;> omega)); clear h K d; try walk_nrm
  iterate 2 (refine F.oq rfl rfl rfl (by simp [go_sem]) fun d K h => ?_; go_simp; refine h _ ?_; clear h K d; try walk_nrm)
  refine F.ol rfl rfl rfl fun d K h => ?_; go_simp; refine h _ (fun e m => ?_) ?_; simp [go_sem, *] at m; subst m; exact evr (w := x2) (by assumption) (by first | assumption | (apply hfr <;> dsimp only <;> omega)); clear h K d; try walk_nrm
  refine F.oq rfl rfl rfl (by simp [go_sem]) fun d K h => ?_; go_simp; refine h _ ?_; clear h K d; try walk_nrm
  refine F.re ?_
  refine F.ib ?_
  refine F.ctl (fun _ => stepG_inLoop) ?_
  exact hk v2 x2 kp' hl0' zl0' hrow' hnr'

set_option maxRecDepth 100000 in
set_option maxHeartbeats 4000000 in
theorem ch_exit {Ψ : Goroutine → World → Prop} (F : Fut Tryz.prog main (DX Ok) Ψ) (c : Frame) (cs : List Frame) (n1 : Nat) (v : Value) {y1 y5 y6 y7 y8 y9 y10 y11 y12 y13 y14 y15 y16 y17 y18 y19 y20 y21 y22 y23 y24 y25 y26 y27 y28 : Value} (w0 : World) (hk : Ψ (G (c.finish v) cs) w0) : Ψ (G ((base 55).at ⟨#[.nilIface, y1, .slice none 0 0, v, .pointer (some ⟨n1, 0, none⟩), y5, y6, y7, y8, y9, y10, y11, y12, y13, y14, y15, y16, y17, y18, y19, y20, y21, y22, y23, y24, y25, y26, y27, y28], []⟩ [.code (loopIn (fstSeq (dropSeq 3 (Tryz.f55.body.getD .skip)))), .inLoop (loopIn (fstSeq (dropSeq 3 (Tryz.f55.body.getD .skip)))), .inBlock 0, .code (dropSeq 4 (Tryz.f55.body.getD .skip))]) (c :: cs)) w0 := by
  unfold fstSeq dropSeq loopIn
  refine F.sq ?_
  refine F.sr ?_
  simp only [rg, Nat.reduceAdd]
  iterate 2 (refine F.oq rfl rfl rfl (fun _ => by first | (simp [go_sem]; done) | simp [go_sem, Instr.makeInterface, Instr.makeFunc, *]) fun d K hK => ?_; go_simp; refine hK _ ?_; clear hK K d; try walk_nrm)
  refine F.enter rfl rfl (by decide) (fun _ => run_call_body rfl Tryz.func65 (by rfl) (by rfl)) (fun _ => events_call_body rfl Tryz.func65 (by rfl) (by rfl) _) ?_
  walk_nrm
  refine asNil_x _ w0 _ F _ _ (fun v wq hp => ?_)
  obtain ⟨rfl, hq⟩ := hp
  have hq := hq.symm
  subst hq
  rw [Frame.finish_at]
  try walk_nrm
  refine F.re ?_
  refine F.cf rfl ?_
  refine F.ctl (fun _ => stepG_exit rfl) ?_
  unfold dropSeq
  refine F.sr ?_
  simp only [rg, Nat.reduceAdd]
  iterate 2 (refine F.oq rfl rfl rfl (by simp [go_sem]) fun d K h => ?_; go_simp; refine h _ ?_; clear h K d; try walk_nrm)
  refine F.re ?_
  refine F.ctl (fun _ => stepG_ret') ?_
  refine F.leave rfl rfl Tryz.func55 (resultsC_tmp (by rfl) _) ?_
  exact hk

set_option maxRecDepth 100000 in
set_option maxHeartbeats 4000000 in
theorem ch_enter {Ψ : Goroutine → World → Prop} (F : Fut Tryz.prog main (DX Ok) Ψ) (c : Frame) (cs : List Frame) (er : Value) (w0 : World)
    (hk : ∀ {y1 y5 y6 y7 y8 y9 y10 y11 y12 y13 y14 y15 y16 y17 y18 y19 y20 y21 y22 y23 y24 y25 y26 y27 y28 : Value} (n1 : Nat) (w' : World), Kp [] w0 w' → w0.heap.size ≤ n1 → w'.cell? ⟨n1, 0, none⟩ = some (.pointer none) → w'.frozen? ⟨n1, 0, none⟩ = false → w'.ownsRow w0.heap.size 48 3 (.slice none 0 0) 0 [] → n1 ∉ rowL (.slice none 0 0) → Ψ (G ((base 55).at ⟨#[er, y1, .slice none 0 0, .slice none 0 0, .pointer (some ⟨n1, 0, none⟩), y5, y6, y7, y8, y9, y10, y11, y12, y13, y14, y15, y16, y17, y18, y19, y20, y21, y22, y23, y24, y25, y26, y27, y28], []⟩ [.code (loopIn (fstSeq (dropSeq 3 (Tryz.f55.body.getD .skip)))), .inLoop (loopIn (fstSeq (dropSeq 3 (Tryz.f55.body.getD .skip)))), .inBlock 0, .code (dropSeq 4 (Tryz.f55.body.getD .skip))]) (c :: cs)) w') :
    Ψ (G (Frame.enter Tryz.prog 55 #[er] .normal) (c :: cs)) w0 := by
  rw [enter_at _ Tryz.func55 rfl]
  simp only [Tryz.ntmps55, List.size_toArray, List.length_cons, List.length_nil, Nat.reduceAdd, Nat.reduceSub, Array.replicate_succ, Array.replicate_zero, List.push_toArray, List.append_toArray, List.nil_append, List.cons_append]
  refine F.sr ?_
  simp only [rg, Nat.reduceAdd]
  refine F.oq rfl rfl rfl (by simp [go_sem]) fun d K h => ?_; go_simp; refine h _ ?_; clear h K d; try walk_nrm
  refine F.esr ?_
  simp only [rg, Nat.reduceAdd]
  refine F.oq rfl rfl rfl (by simp [go_sem]) fun d K h => ?_; go_simp; refine h _ ?_; clear h K d; try walk_nrm
  refine F.esr ?_
  simp only [rg, Nat.reduceAdd]
  refine F.op rfl rfl (by decide) (fun d K hK => ?_)
  go_simp
  rw [alloc_at']
  refine hK _ _ ⟨DX.alloc _ _ (fun e he => ?_), ?_⟩
  · have hm := mem_listed he
    simp [go_sem] at hm
  clear hK K d
  try walk_nrm
  generalize ew1 : World.alloc w0 _ = w1
  generalize hn1 : (World.heap w0).size = n1
  have sz1 := sz_al2 ew1 hn1
  have hl0 := cl_new (i := 0) ew1 hn1 rfl
  have zl0 := fz_new ew1 hn1 0
  try simp only [List.getElem_toArray, List.getElem_cons_zero, List.getElem_cons_succ] at hl0
  have kp : Kp [] w0 w0 [] := Kp.refl _
  replace kp := kp.alN ew1
  refine F.es ?_
  refine F.bl ?_
  refine F.ctl (fun _ => stepG_loop) ?_
  exact hk n1 w1 kp (by omega) hl0 zl0 ⟨rfl, .inl ⟨rfl, rfl⟩⟩ (by simp [rowL, Value.ownBlock])

theorem chain1_x (N q : Nat) (kd ly nn : Int) (w0 : World) (hN : N ≤ w0.heap.size) (hN0 : 0 < N) (lq : N ≤ q) (hg : w0.cell? ⟨0, 0, none⟩ = some (.iface 217 (.agg #[.pointer (some ⟨1, 121, none⟩)]))) (oG : Ok ⟨0, 0, none⟩ false) (L : LinkAt w0 q kd ly nn .nilIface) (hfr : ∀ a wr, N ≤ a.block → Ok a wr) :
    CallsX Tryz.prog main (DX Ok) 55 #[.iface 168 (.pointer (some ⟨q, 0, none⟩))] w0 fun v w' => Kp [] w0 w' ∧ w'.ownsRow w0.heap.size 48 3 v 1 [.int .i64 kd, .int .i64 ly, .int .i64 nn] := fun Ψ F c cs hc =>
  ch_enter F c cs _ w0 fun n1 w1 k1 b1 l1 z1 r1 m1 => ch_step F c cs w0 (by omega) hg oG N hN hfr q kd ly nn .nilIface lq L n1 b1 0 (by omega) [] _ _ w1 k1 l1 z1 r1 m1 fun v' w' k2 l2 z2 r2 m2 => ch_exit F c cs n1 v' w' (hc _ _ ⟨k2, r2⟩)
theorem chain2_x (N p q : Nat) (kd ly nn kd' ly' nn' : Int) (w0 : World) (hN : N ≤ w0.heap.size) (hN0 : 0 < N) (lp : N ≤ p) (lq : N ≤ q) (hg : w0.cell? ⟨0, 0, none⟩ = some (.iface 217 (.agg #[.pointer (some ⟨1, 121, none⟩)]))) (oG : Ok ⟨0, 0, none⟩ false) (L : LinkAt w0 p kd ly nn (.iface 168 (.pointer (some ⟨q, 0, none⟩)))) (L' : LinkAt w0 q kd' ly' nn' .nilIface) (hfr : ∀ a wr, N ≤ a.block → Ok a wr) :
    CallsX Tryz.prog main (DX Ok) 55 #[.iface 168 (.pointer (some ⟨p, 0, none⟩))] w0 fun v w' => Kp [] w0 w' ∧ w'.ownsRow w0.heap.size 48 3 v 2 [.int .i64 kd, .int .i64 ly, .int .i64 nn, .int .i64 kd', .int .i64 ly', .int .i64 nn'] := fun Ψ F c cs hc =>
  ch_enter F c cs _ w0 fun n1 w1 k1 b1 l1 z1 r1 m1 => ch_step F c cs w0 (by omega) hg oG N hN hfr p kd ly nn _ lp L n1 b1 0 (by omega) [] _ _ w1 k1 l1 z1 r1 m1 fun v' w' k2 l2 z2 r2 m2 =>
    ch_step F c cs w0 (by omega) hg oG N hN hfr q kd' ly' nn' .nilIface lq L' n1 b1 1 (by omega) _ _ _ w' k2 l2 z2 r2 m2 fun v'' w'' k3 l3 z3 r3 m3 => ch_exit F c cs n1 v'' w'' (hc _ _ ⟨k3, r3⟩)

end Go.Proofs.YtobagnjnbmgidaaGreatDoor
