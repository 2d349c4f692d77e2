/- The answer of the backend's stack. -/
import Derived.Test.YtobagnjnbmgidaaGreatDoorV5
set_option linter.unusedSimpArgs false
set_option linter.unusedVariables false
set_option maxHeartbeats 8000000
set_option maxRecDepth 100000
namespace Go.Proofs.YtobagnjnbmgidaaGreatDoor
open Go.Conc Go.RowKit Go.Extern

section
variable {P : Program} {main : Bool} {D : World → World → Array Event → Prop} {Ψ : Goroutine → World → Prop} {b b' : Frame} {a a' : Act} {k todo todo' : List Item} {cs : List Frame} {w : World} {ops : Array Oper} {i : Nat} {rest : List Nat} {o : Oper} {fn : Func} {v : Value}
theorem Fut.recoverAt (F : Fut P main D Ψ) (ho : ops[i]? = some o) (hw : Region.wanted o (yielded ops a.tmps) = true) (hk : b.kind = .deferred) (hro : b.roundOf = none) {ats : Array TypeId} (hop : o.op = .call { callee := .builtin .recover, args := #[], argTypes := ats })
    (h : Ψ (G (b.at (a.put o.dst v) (.inRegion ops rest :: k)) ({ b'.at a' todo' with mode := .panicking (caught v) } :: cs)) w) : Ψ (G (b.at a (.inRegion ops (i :: rest) :: k)) ({ b'.at a' todo' with mode := .panicking (blown v) } :: cs)) w :=
  F.recover ho hw hk hro hop rfl h
theorem Fut.leaveRat (F : Fut P main D Ψ) {r : Value} (hn : b.kind = .deferred) (hd : a.defers = []) (hf : P.funcs[b.fn]? = some fn) (hr : ResultsC P fn a.tmps r) (h : Ψ (G { b'.at a' todo' with mode := .returning } cs) w) : Ψ (G { b.at a todo with mode := .returning } ({ b'.at a' todo' with mode := .panicking (caught v) } :: cs)) w :=
  F.leaveR hn hd hf hr rfl h
end

theorem raise_base (f : FuncId) (a : Act) (todo : List Item) (ch : List PanicEntry) : ((base f).at a todo).raise ch = { (base f).at a todo with mode := .panicking ch } := rfl
/-- How an answer holds what came out. -/
def ansOf : Value ⊕ Value → Value
  | .inl (.tuple xs) => .agg (xs.push .nilIface)
  | .inl v => v
  | .inr v => .agg #[.int .i64 0, .nilIface, v]

section
variable {St : Addr → Prop} {M : Nat} {Ok Ok' Ok1 : Addr → Bool → Prop} {w w1 w2 : World} {en ev en1 ev1 : Value}
theorem Tr.fresh {x : Nat} (h : Tr St M Ok' w en ev w1 en1 ev1) (k : Kp [x] w1 w2) (hx : w.heap.size ≤ x) (hS : ∀ a, St a → a.block < w.heap.size) : Tr St M Ok' w en ev w2 en1 ev1 := by
  refine ⟨Nat.le_trans h.size k.size, fun b b1 b2 b3 b4 => ?_, fun a v hs hv => ?_⟩
  · obtain ⟨x1, x2, x3, x4⟩ := h.temp b b1 b2 b3 b4
    refine ⟨fun i v hv => ?_, x2, x3, x4⟩; obtain ⟨z1, z2⟩ := x1 i v hv; have hb : b ∉ [x] := by simp; omega
    exact ⟨k.cell _ _ hb z1, (k.froz _ _ hb z1).trans z2⟩
  · obtain ⟨z1, z2⟩ := h.stat a v hs hv
    have hb : a.block ∉ [x] := by have := hS a hs; simp; omega
    exact ⟨k.cell _ _ hb z1, (k.froz _ _ hb z1).trans z2⟩
theorem BackV.kp {kd nn : Int} {r : Value ⊕ Value} {x : Nat} (h : BackV kd nn M Ok w1 en ev r) (k : Kp [x] w1 w2) (hx : x < M) : BackV kd nn M Ok w2 en ev r := by
  rcases h with h | ⟨h, q, h1, h2, h3, h4, h5, h6, h7⟩ | h
  · exact .inl h
  · have hb : q ∉ [x] := by simp; omega
    exact .inr (.inl ⟨h, q, h1, h2, Nat.lt_of_lt_of_le h3 k.size, h4, h5, h6, ⟨k.cell _ _ hb h7.c0, k.cell _ _ hb h7.c1, k.cell _ _ hb h7.c2, k.cell _ _ hb h7.c3⟩⟩)
  · exact .inr (.inr h)
end

/-- What a task's call of the backend starts from. -/
structure BIn {γ : Type} (e : Tk) (St : Addr → Prop) (M0 : Nat) (p : Ph γ) (B HD : Nat) (now k0 k1 k2 : Int) (en ev : Value) (m : List Value) (w0 : World) : Prop where
  ok : TOk e p.M p.Ok
  tw : TW e p.Ok w0 now en ev p.es m
  hM : p.M ≤ w0.heap.size
  hMM : p.M = M0
  hN : e.N2 ≤ M0
  he9 : p.es.length < 900
  hc9 : p.cn < 800
  hsd : p.sd = false
  hm : m.length = 5 * p.cn
  hSt : ∀ a, St a → e.sb a.block ∧ a.block ≠ e.A ∧ a.block ≠ e.J ∧ a ≠ ⟨HD, e.cl, none⟩
  lB : B < e.N
  sH : e.sb HD
  nB : e.J ≠ B
  nBH : B ≠ HD
  nH : HD ≠ e.A ∧ HD ≠ e.T ∧ HD ≠ e.J
  b1 : w0.cell? ⟨B, 1, none⟩ = some (.int .i64 (-1))
  b2 : w0.cell? ⟨B, 2, none⟩ = some (.pointer (some ⟨e.J, 0, none⟩))
  sB1 : St ⟨B, 1, none⟩
  sB2 : St ⟨B, 2, none⟩
  oB : ∀ (p' : Ph γ) (i : Nat), TOk e p'.M p'.Ok → p'.Ok ⟨B, i, none⟩ false
  hnx : ∀ w1, Kp [] w0 w1 → CallsX Tryz.prog false (DX p.Ok) 147 #[.pointer (some ⟨B, 0, none⟩), .int .i64 (e.cl : Int)] w1 fun v w' => v = .tuple #[.int .i64 0, .agg #[.int .i64 k0, .int .i64 k1, .int .i64 k2]] ∧ Kp [] w1 w' [⟨HD, e.cl, none⟩] ∧ w'.cell? ⟨HD, e.cl, none⟩ = some (.int .i64 1) ∧ w'.frozen? ⟨HD, e.cl, none⟩ = false
  hkd : k0 = 1 ∨ k0 = 2 ∨ k0 = 3 ∨ k0 = 4
  htk : 0 ≤ k2
  hwr : IntKind.i64.wrap (now + k2) = now + k2

section
variable {γ : Type} {e : Tk} {St : Addr → Prop} {M0 : Nat} {Ψ : Ph γ → Goroutine → World → Prop}

theorem BIn.own {p : Ph γ} {B HD : Nat} {now k0 k1 k2 : Int} {en ev : Value} {m : List Value} {w0 w1 : World} (I : BIn e St M0 p B HD now k0 k1 k2 en ev m w0) (k : Kp [] w0 w1) : BIn e St M0 p B HD now k0 k1 k2 en ev m w1 :=
  { I with tw := I.tw.fresh k I.ok.lA I.ok.lT I.ok.lJ (by simp), hM := Nat.le_trans I.hM k.size, b1 := k.cell _ _ (by simp) I.b1, b2 := k.cell _ _ (by simp) I.b2, hnx := fun w2 k2 => I.hnx w2 (k.callN k2 (by simp) (by simp)) }
theorem BIn.st {p : Ph γ} {B HD : Nat} {now k0 k1 k2 : Int} {en ev : Value} {m : List Value} {w0 : World} (I : BIn e St M0 p B HD now k0 k1 k2 en ev m w0) (a : Addr) (ha : St a) : a.block < w0.heap.size ∧ a.block ∉ rowL en ∧ a.block ∉ rowL ev := by
  have h1 := I.ok.sN _ (I.hSt a ha).1; have h2 := I.tw.size2; exact ⟨by omega, fun z => I.tw.enS _ z (I.hSt a ha).1, fun z => I.tw.evS _ z (I.hSt a ha).1⟩
theorem BIn.tr {p : Ph γ} {B HD : Nat} {now k0 k1 k2 : Int} {en ev : Value} {m : List Value} {w0 w1 : World} (I : BIn e St M0 p B HD now k0 k1 k2 en ev m w0) (k : Kp [] w0 w1) : Tr St M0 p.Ok w0 en ev w1 en ev :=
  Tr.of k (fun a wr h _ => I.ok.fr a wr (by have := I.hMM; omega)) (by simp) (by simp) I.st (fun g hg => .inl hg) (fun g hg => .inl hg)
theorem Dn.own {t : Int} {w0 w1 w2 w : World} {en ev en' ev' : Value} {p : Ph γ} {m : List Value} {x : Nat} (d : Dn e St M0 t w1 en ev p w en' ev' m) (t1 : ∀ Ok', Tr St M0 Ok' w1 en ev w en' ev' → Tr St M0 Ok' w0 en ev w en' ev') (k : Kp [x] w w2) (hx : w0.heap.size ≤ x) (hS : ∀ a, St a → a.block < w0.heap.size) (hn : e.N ≤ x) (h1 : x ∉ rowL en') (h2 : x ∉ rowL ev') : Dn e St M0 t w0 en ev p w2 en' ev' m :=
  ⟨d.ok, d.tw.keep k d.ok.lA d.ok.lT d.ok.lJ (by have := d.ok.lA; have := d.ok.lT; have := d.ok.lJ; intro y hy; simp at hy; subst hy; exact ⟨by omega, by omega, by omega, h1, h2⟩) (by simp), d.cnt, Nat.le_trans d.sz k.size, d.cn9, (t1 _ d.tr).fresh k hx hS⟩

theorem ans_u (W : FutU e St M0 Ψ) (p : Ph γ) (c : Frame) (cs : List Frame) (B HD : Nat) (now k0 k1 k2 : Int) (en ev : Value) (m : List Value) (w0 : World) (I : BIn e St M0 p B HD now k0 k1 k2 en ev m w0)
    (hc : ∀ p' r w' en' ev' m', Dn e St M0 (now + k2) w0 en ev p' w' en' ev' m' → BackV k0 k1 w0.heap.size p'.Ok w' en' ev' r → Ψ p' (G (c.finish (ansOf r)) cs) w') :
    Ψ p (G (Frame.enter Tryz.prog 52 #[.iface 138 (.pointer (some ⟨B, 0, none⟩)), .pointer (some ⟨e.T, 0, none⟩)] .normal) (c :: cs)) w0 := by
  have F := W.f p; have H := I.tw; have K := I.ok; have hM := I.hM; have hMM := I.hMM; have hN := I.hN; have hl2 := I.ok.l2; have l1 := K.lA; have l2 := K.lT; have l3 := K.lJ; have hsz := H.size; have hS0 : ∀ a, St a → a.block < w0.heap.size := fun a ha => (I.st a ha).1
  have hfr : ∀ (a : Addr) (wr : Bool), w0.heap.size ≤ a.block → p.Ok a wr := fun a wr h => K.fr a wr (by omega)
  rw [enter_at _ Tryz.func52 rfl]; simp only [Tryz.ntmps52, List.size_toArray, List.length_cons, List.length_nil, Nat.reduceAdd, Nat.reduceSub, Array.replicate_succ, Array.replicate_zero, List.push_toArray, List.append_toArray, List.nil_append, List.cons_append]; refine F.sr ?_; simp only [rg, Nat.reduceAdd]; refine F.op rfl rfl (by decide) (fun d K hK => ?_); go_simp; rw [alloc_at']; refine hK _ _ ⟨DX.alloc _ _ (fun e he => ?_), ?_⟩
  · have hm := mem_listed he
    simp [go_sem] at hm
  clear hK K d; try walk_nrm
  generalize ew1 : World.alloc w0 _ = w1; generalize hn1 : (World.heap w0).size = n1; have sz1 := sz_al2 ew1 hn1; have hu0 := cl_new (i := 0) ew1 hn1 rfl; have zu0 := fz_new ew1 hn1 0; have hu1 := cl_new (i := 1) ew1 hn1 rfl; have zu1 := fz_new ew1 hn1 1; have hu2 := cl_new (i := 2) ew1 hn1 rfl; have zu2 := fz_new ew1 hn1 2; try simp only [List.getElem_toArray, List.getElem_cons_zero, List.getElem_cons_succ] at hu0 hu1 hu2
  have kp : Kp [] w0 w0 [] := Kp.refl _; replace kp := kp.alN ew1; refine F.esr ?_; simp only [rg, Nat.reduceAdd]; refine F.oq rfl rfl rfl (by simp [go_sem]) fun d K h => ?_; go_simp; refine h _ ?_; clear h K d; try walk_nrm
  refine F.deferC rfl rfl (by decide) rfl rfl rfl ?_; walk_nrm; have k1' : Kp [] w0 w1 := Kp.alloc ew1; have r1 := I.tr k1'; have I1 := I.own k1'; have b1 : n1 ∉ rowL ev := fun z => by have := (H.rowN z).2; omega
  have b2 : n1 ∉ rowL en := fun z => by have := (H.entN z).2; omega
  refine F.esr ?_; simp only [rg, Nat.reduceAdd]; iterate 2 (refine F.oq rfl rfl rfl (by simp [go_sem]) fun d K h => ?_; go_simp; refine h _ ?_; clear h K d; try walk_nrm)
  refine F.invoke rfl rfl (by decide) rfl rfl (mEnter138 _) (mEnter138e _) Tryz.func146 (by rfl) (by rfl) ?_; walk_nrm; refine back_u W p K _ _ B HD now k0 k1 k2 en ev m w1 I1.tw I1.hM hMM hN I.he9 I.hc9 I.hsd I.hm I.hSt I.lB I.sH I.nB I.nBH I.nH I1.b1 I1.b2 I.sB1 I.sB2 I.oB (I1.hnx w1 (Kp.refl _)) I.hkd I.htk I.hwr (fun p' r w2 en2 ev2 m2 hd hbk => ?_); clear F hfr; have F := W.f p'; have hs2 := hd.tr.size; obtain ⟨hT, b1', b2', hok1⟩ := hd.tr.temp n1 (by omega) (by omega) b2 b1; obtain ⟨hu0, z0⟩ := hT _ _ hu0; obtain ⟨hu1, z1⟩ := hT _ _ hu1; obtain ⟨hu2, z2⟩ := hT _ _ hu2; replace zu0 := z0.trans zu0; replace zu1 := z1.trans zu1; replace zu2 := z2.trans zu2; clear z0 z1 z2 kp hT; have kp : Kp [n1] w2 w2 := Kp.refl _; have hfr : ∀ (a : Addr) (wr : Bool), a.block = n1 → p'.Ok a wr := hok1; have q0 := fun wr => hok1 ⟨n1, 0, none⟩ wr rfl
  have q0f := q0 false; have q0t := q0 true; have q1 := fun wr => hok1 ⟨n1, 1, none⟩ wr rfl
  have q1f := q1 false; have q1t := q1 true; have q2 := fun wr => hok1 ⟨n1, 2, none⟩ wr rfl
  have q2f := q2 false; have q2t := q2 true; clear q0 q1 q2 hok1; have hnn : n1 < w1.heap.size ∧ w0.heap.size ≤ w1.heap.size ∧ w0.heap.size ≤ n1 := by omega
  have fin : ∀ (r : Value ⊕ Value) (w' : World), BackV k0 k1 w1.heap.size p'.Ok w2 en2 ev2 r → Kp [n1] w2 w' → Ψ p' (G (c.finish (ansOf r)) cs) w' := fun r w' hb k =>
    hc p' r w' en2 ev2 m2 (hd.own (fun _ z => r1.trans z) k hnn.2.2 hS0 (by omega) b1' b2') ((hb.kp k hnn.1).less hnn.2.1)
  rcases id hbk with ⟨x, rfl⟩ | ⟨x, q, rfl, _⟩ | ⟨x, rfl⟩
  · simp only [ends]
    rw [Frame.finish_at]; try walk_nrm
    iterate 4 (refine F.oq rfl rfl rfl (by simp [go_sem]) fun d K h => ?_; go_simp; refine h _ ?_; clear h K d; try walk_nrm)
    refine F.op rfl rfl (by decide) (fun d K hK => ?_); go_simp; rw [setCell_at']; refine hK _ _ ⟨DX.set _ (by (first | assumption | (apply hfr <;> dsimp only <;> omega))) (fun e he => ?_), ?_⟩
    · have hm := mem_listed he
      simp [go_sem, storedEv, evst_slice, evst_ptr, evst_iface, evst_nil, evst_bool, *] at hm; subst hm; exact .inl ⟨_, rfl, rfl, by (first | assumption | (apply hfr <;> dsimp only <;> omega)), by simp only [size_at, size_set]; first | omega | exact lt_of_cell (by assumption)⟩
    clear hK K d; try walk_nrm
    generalize ew3 : World.setCell w2 _ _ = w3; have sz3 := sz_st2 ew3; replace zu0 := fz_st zu0 ew3; replace zu1 := fz_st zu1 ew3; replace zu2 := fz_st zu2 ew3; replace hu0 := cl_st' hu0 ew3; replace hu1 := cl_st hu1 ew3 (by simp <;> omega); replace hu2 := cl_st hu2 ew3 (by simp <;> omega); replace kp := kp.stN ew3 (by first | (left; simp; done) | (right; left; simp; done) | (right; right; dsimp only; omega)); refine F.oq rfl rfl rfl (by simp [go_sem]) fun d K h => ?_; go_simp; refine h _ ?_; clear h K d; try walk_nrm
    refine F.op rfl rfl (by decide) (fun d K hK => ?_); go_simp; rw [setCell_at']; refine hK _ _ ⟨DX.set _ (by (first | assumption | (apply hfr <;> dsimp only <;> omega))) (fun e he => ?_), ?_⟩
    · have hm := mem_listed he
      simp [go_sem, storedEv, evst_slice, evst_ptr, evst_iface, evst_nil, evst_bool, *] at hm; subst hm; exact .inl ⟨_, rfl, rfl, by (first | assumption | (apply hfr <;> dsimp only <;> omega)), by simp only [size_at, size_set]; first | omega | exact lt_of_cell (by assumption)⟩
    clear hK K d; try walk_nrm
    generalize ew4 : World.setCell w3 _ _ = w4; have sz4 := sz_st2 ew4; replace zu0 := fz_st zu0 ew4; replace zu1 := fz_st zu1 ew4; replace zu2 := fz_st zu2 ew4; replace hu0 := cl_st hu0 ew4 (by simp <;> omega); replace hu1 := cl_st' hu1 ew4; replace hu2 := cl_st hu2 ew4 (by simp <;> omega); replace kp := kp.stN ew4 (by first | (left; simp; done) | (right; left; simp; done) | (right; right; dsimp only; omega)); refine F.esr ?_; simp only [rg, Nat.reduceAdd]; refine F.ol rfl rfl rfl fun d K hK => ?_
    go_simp; refine hK _ (fun e hm => ?_) ?_
    · simp [go_sem, *] at hm
      rcases hm with rfl | rfl | rfl <;> exact evr (w := w4) (by assumption) (by first | assumption | (apply hfr <;> dsimp only <;> omega))
    clear hK K d; try walk_nrm
    refine F.op rfl rfl (by decide) (fun d K hK => ?_); go_simp
    repeat rw [setCell_at']
    refine hK _ _ ⟨DX.set3 _ (by (first | assumption | (apply hfr <;> dsimp only <;> omega))) (by (first | assumption | (apply hfr <;> dsimp only <;> omega))) (by (first | assumption | (apply hfr <;> dsimp only <;> omega))) (fun e he => ?_), ?_⟩
    · have hm := mem_listed he
      simp [go_sem, storedEv, evst_slice, evst_ptr, evst_iface, evst_nil, evst_bool, *] at hm; rcases hm with rfl | rfl | rfl <;> exact .inl ⟨_, rfl, rfl, by (first | assumption | (apply hfr <;> dsimp only <;> omega)), by simp only [size_at, size_set]; first | omega | exact lt_of_cell (by assumption)⟩
    clear hK K d; try walk_nrm
    generalize ew5 : World.setCell w4 _ _ = w5; have sz5 := sz_st2 ew5; replace zu0 := fz_st zu0 ew5; replace zu1 := fz_st zu1 ew5; replace zu2 := fz_st zu2 ew5; replace hu0 := cl_st' hu0 ew5; replace hu1 := cl_st hu1 ew5 (by simp <;> omega); replace hu2 := cl_st hu2 ew5 (by simp <;> omega); replace kp := kp.stN ew5 (by first | (left; simp; done) | (right; left; simp; done) | (right; right; dsimp only; omega)); generalize ew6 : World.setCell w5 _ _ = w6; have sz6 := sz_st2 ew6; replace zu0 := fz_st zu0 ew6; replace zu1 := fz_st zu1 ew6; replace zu2 := fz_st zu2 ew6; replace hu0 := cl_st hu0 ew6 (by simp <;> omega); replace hu1 := cl_st' hu1 ew6; replace hu2 := cl_st hu2 ew6 (by simp <;> omega); replace kp := kp.stN ew6 (by first | (left; simp; done) | (right; left; simp; done) | (right; right; dsimp only; omega)); generalize ew7 : World.setCell w6 _ _ = w7; have sz7 := sz_st2 ew7; replace zu0 := fz_st zu0 ew7; replace zu1 := fz_st zu1 ew7; replace zu2 := fz_st zu2 ew7; replace hu0 := cl_st hu0 ew7 (by simp <;> omega); replace hu1 := cl_st hu1 ew7 (by simp <;> omega); replace hu2 := cl_st' hu2 ew7; replace kp := kp.stN ew7 (by first | (left; simp; done) | (right; left; simp; done) | (right; right; dsimp only; omega)); refine F.re ?_; refine F.ctl (fun _ => stepG_ret') ?_; refine F.unwindC rfl Tryz.func64 (by rfl) rfl ?_; simp only [Tryz.ntmps64, List.size_toArray, List.length_cons, List.length_nil, Nat.reduceAdd, Nat.reduceSub, Array.replicate_succ, Array.replicate_zero, List.push_toArray, List.append_toArray, List.nil_append, List.cons_append]
    refine F.rr ?_; simp only [rg, Nat.reduceAdd]; refine F.recoverNil rfl rfl rfl rfl rfl rfl ?_; walk_nrm; refine F.oq rfl rfl rfl (by simp [go_sem]) fun d K h => ?_; go_simp; refine h _ ?_; clear h K d; try walk_nrm
    refine F.op rfl rfl (by decide) (fun d K hK => ?_); go_simp; rw [setCell_at']; refine hK _ _ ⟨DX.set _ (by (first | assumption | (apply hfr <;> dsimp only <;> omega))) (fun e he => ?_), ?_⟩
    · have hm := mem_listed he
      simp [go_sem, storedEv, evst_slice, evst_ptr, evst_iface, evst_nil, evst_bool, *] at hm; subst hm; exact .inl ⟨_, rfl, rfl, by (first | assumption | (apply hfr <;> dsimp only <;> omega)), by simp only [size_at, size_set]; first | omega | exact lt_of_cell (by assumption)⟩
    clear hK K d; try walk_nrm
    generalize ew8 : World.setCell w7 _ _ = w8; have sz8 := sz_st2 ew8; replace zu0 := fz_st zu0 ew8; replace zu1 := fz_st zu1 ew8; replace zu2 := fz_st zu2 ew8; replace hu0 := cl_st hu0 ew8 (by simp <;> omega); replace hu1 := cl_st hu1 ew8 (by simp <;> omega); replace hu2 := cl_st' hu2 ew8; replace kp := kp.stN ew8 (by first | (left; simp; done) | (right; left; simp; done) | (right; right; dsimp only; omega)); refine F.re ?_; refine F.ctl (fun _ => stepG_end) ?_; refine F.leaveD rfl rfl Tryz.func64 (resultsC_none (by rfl) _) rfl ?_; refine F.leaveE (v := .agg #[.int .i64 k1, .nilIface, .nilIface]) rfl rfl Tryz.func52 (fun d => ?_) (fun d es hes => DX.still _ (fun e he => ?_)) ?_
    · simp [results, go_sem, *]
    · have hm := hes e he
      simp [results, go_sem, *] at hm; rcases hm with rfl | rfl | rfl <;> exact .inl ⟨_, rfl, rfl, by assumption, lt_of_cell (w := w8) (by assumption)⟩
    exact fin _ w8 hbk kp
  · simp only [ends]
    rw [Frame.finish_at]; try walk_nrm
    iterate 4 (refine F.oq rfl rfl rfl (by simp [go_sem]) fun d K h => ?_; go_simp; refine h _ ?_; clear h K d; try walk_nrm)
    refine F.op rfl rfl (by decide) (fun d K hK => ?_); go_simp; rw [setCell_at']; refine hK _ _ ⟨DX.set _ (by (first | assumption | (apply hfr <;> dsimp only <;> omega))) (fun e he => ?_), ?_⟩
    · have hm := mem_listed he
      simp [go_sem, storedEv, evst_slice, evst_ptr, evst_iface, evst_nil, evst_bool, *] at hm; subst hm; exact .inl ⟨_, rfl, rfl, by (first | assumption | (apply hfr <;> dsimp only <;> omega)), by simp only [size_at, size_set]; first | omega | exact lt_of_cell (by assumption)⟩
    clear hK K d; try walk_nrm
    generalize ew3 : World.setCell w2 _ _ = w3; have sz3 := sz_st2 ew3; replace zu0 := fz_st zu0 ew3; replace zu1 := fz_st zu1 ew3; replace zu2 := fz_st zu2 ew3; replace hu0 := cl_st' hu0 ew3; replace hu1 := cl_st hu1 ew3 (by simp <;> omega); replace hu2 := cl_st hu2 ew3 (by simp <;> omega); replace kp := kp.stN ew3 (by first | (left; simp; done) | (right; left; simp; done) | (right; right; dsimp only; omega)); refine F.oq rfl rfl rfl (by simp [go_sem]) fun d K h => ?_; go_simp; refine h _ ?_; clear h K d; try walk_nrm
    refine F.op rfl rfl (by decide) (fun d K hK => ?_); go_simp; rw [setCell_at']; refine hK _ _ ⟨DX.set _ (by (first | assumption | (apply hfr <;> dsimp only <;> omega))) (fun e he => ?_), ?_⟩
    · have hm := mem_listed he
      simp [go_sem, storedEv, evst_slice, evst_ptr, evst_iface, evst_nil, evst_bool, *] at hm; subst hm; exact .inl ⟨_, rfl, rfl, by (first | assumption | (apply hfr <;> dsimp only <;> omega)), by simp only [size_at, size_set]; first | omega | exact lt_of_cell (by assumption)⟩
    clear hK K d; try walk_nrm
    generalize ew4 : World.setCell w3 _ _ = w4; have sz4 := sz_st2 ew4; replace zu0 := fz_st zu0 ew4; replace zu1 := fz_st zu1 ew4; replace zu2 := fz_st zu2 ew4; replace hu0 := cl_st hu0 ew4 (by simp <;> omega); replace hu1 := cl_st' hu1 ew4; replace hu2 := cl_st hu2 ew4 (by simp <;> omega); replace kp := kp.stN ew4 (by first | (left; simp; done) | (right; left; simp; done) | (right; right; dsimp only; omega)); refine F.esr ?_; simp only [rg, Nat.reduceAdd]; refine F.ol rfl rfl rfl fun d K hK => ?_
    go_simp; refine hK _ (fun e hm => ?_) ?_
    · simp [go_sem, *] at hm
      rcases hm with rfl | rfl | rfl <;> exact evr (w := w4) (by assumption) (by first | assumption | (apply hfr <;> dsimp only <;> omega))
    clear hK K d; try walk_nrm
    refine F.op rfl rfl (by decide) (fun d K hK => ?_); go_simp
    repeat rw [setCell_at']
    refine hK _ _ ⟨DX.set3 _ (by (first | assumption | (apply hfr <;> dsimp only <;> omega))) (by (first | assumption | (apply hfr <;> dsimp only <;> omega))) (by (first | assumption | (apply hfr <;> dsimp only <;> omega))) (fun e he => ?_), ?_⟩
    · have hm := mem_listed he
      simp [go_sem, storedEv, evst_slice, evst_ptr, evst_iface, evst_nil, evst_bool, *] at hm; rcases hm with rfl | rfl | rfl <;> exact .inl ⟨_, rfl, rfl, by (first | assumption | (apply hfr <;> dsimp only <;> omega)), by simp only [size_at, size_set]; first | omega | exact lt_of_cell (by assumption)⟩
    clear hK K d; try walk_nrm
    generalize ew5 : World.setCell w4 _ _ = w5; have sz5 := sz_st2 ew5; replace zu0 := fz_st zu0 ew5; replace zu1 := fz_st zu1 ew5; replace zu2 := fz_st zu2 ew5; replace hu0 := cl_st' hu0 ew5; replace hu1 := cl_st hu1 ew5 (by simp <;> omega); replace hu2 := cl_st hu2 ew5 (by simp <;> omega); replace kp := kp.stN ew5 (by first | (left; simp; done) | (right; left; simp; done) | (right; right; dsimp only; omega)); generalize ew6 : World.setCell w5 _ _ = w6; have sz6 := sz_st2 ew6; replace zu0 := fz_st zu0 ew6; replace zu1 := fz_st zu1 ew6; replace zu2 := fz_st zu2 ew6; replace hu0 := cl_st hu0 ew6 (by simp <;> omega); replace hu1 := cl_st' hu1 ew6; replace hu2 := cl_st hu2 ew6 (by simp <;> omega); replace kp := kp.stN ew6 (by first | (left; simp; done) | (right; left; simp; done) | (right; right; dsimp only; omega)); generalize ew7 : World.setCell w6 _ _ = w7; have sz7 := sz_st2 ew7; replace zu0 := fz_st zu0 ew7; replace zu1 := fz_st zu1 ew7; replace zu2 := fz_st zu2 ew7; replace hu0 := cl_st hu0 ew7 (by simp <;> omega); replace hu1 := cl_st hu1 ew7 (by simp <;> omega); replace hu2 := cl_st' hu2 ew7; replace kp := kp.stN ew7 (by first | (left; simp; done) | (right; left; simp; done) | (right; right; dsimp only; omega)); refine F.re ?_; refine F.ctl (fun _ => stepG_ret') ?_; refine F.unwindC rfl Tryz.func64 (by rfl) rfl ?_; simp only [Tryz.ntmps64, List.size_toArray, List.length_cons, List.length_nil, Nat.reduceAdd, Nat.reduceSub, Array.replicate_succ, Array.replicate_zero, List.push_toArray, List.append_toArray, List.nil_append, List.cons_append]
    refine F.rr ?_; simp only [rg, Nat.reduceAdd]; refine F.recoverNil rfl rfl rfl rfl rfl rfl ?_; walk_nrm; refine F.oq rfl rfl rfl (by simp [go_sem]) fun d K h => ?_; go_simp; refine h _ ?_; clear h K d; try walk_nrm
    refine F.op rfl rfl (by decide) (fun d K hK => ?_); go_simp; rw [setCell_at']; refine hK _ _ ⟨DX.set _ (by (first | assumption | (apply hfr <;> dsimp only <;> omega))) (fun e he => ?_), ?_⟩
    · have hm := mem_listed he
      simp [go_sem, storedEv, evst_slice, evst_ptr, evst_iface, evst_nil, evst_bool, *] at hm; subst hm; exact .inl ⟨_, rfl, rfl, by (first | assumption | (apply hfr <;> dsimp only <;> omega)), by simp only [size_at, size_set]; first | omega | exact lt_of_cell (by assumption)⟩
    clear hK K d; try walk_nrm
    generalize ew8 : World.setCell w7 _ _ = w8; have sz8 := sz_st2 ew8; replace zu0 := fz_st zu0 ew8; replace zu1 := fz_st zu1 ew8; replace zu2 := fz_st zu2 ew8; replace hu0 := cl_st hu0 ew8 (by simp <;> omega); replace hu1 := cl_st hu1 ew8 (by simp <;> omega); replace hu2 := cl_st' hu2 ew8; replace kp := kp.stN ew8 (by first | (left; simp; done) | (right; left; simp; done) | (right; right; dsimp only; omega)); refine F.re ?_; refine F.ctl (fun _ => stepG_end) ?_; refine F.leaveD rfl rfl Tryz.func64 (resultsC_none (by rfl) _) rfl ?_; refine F.leaveE (v := .agg #[.int .i64 0, .iface 168 (.pointer (some ⟨q, 0, none⟩)), .nilIface]) rfl rfl Tryz.func52 (fun d => ?_) (fun d es hes => DX.still _ (fun e he => ?_)) ?_
    · simp [results, go_sem, *]
    · have hm := hes e he
      simp [results, go_sem, *] at hm; rcases hm with rfl | rfl | rfl <;> exact .inl ⟨_, rfl, rfl, by assumption, lt_of_cell (w := w8) (by assumption)⟩
    exact fin _ w8 hbk kp
  · simp only [ends]
    rw [raise_base]; refine F.unwindP rfl Tryz.func64 (by rfl) rfl ?_; simp only [Tryz.ntmps64, List.size_toArray, List.length_cons, List.length_nil, Nat.reduceAdd, Nat.reduceSub, Array.replicate_succ, Array.replicate_zero, List.push_toArray, List.append_toArray, List.nil_append, List.cons_append]; refine F.rr ?_; simp only [rg, Nat.reduceAdd]; refine F.recoverAt rfl rfl rfl rfl rfl ?_; walk_nrm; refine F.oq rfl rfl rfl (by simp [go_sem]) fun d K h => ?_; go_simp; refine h _ ?_; clear h K d; try walk_nrm
    refine F.op rfl rfl (by decide) (fun d K hK => ?_); go_simp; rw [setCell_at']; refine hK _ _ ⟨DX.set _ (by (first | assumption | (apply hfr <;> dsimp only <;> omega))) (fun e he => ?_), ?_⟩
    · have hm := mem_listed he
      simp [go_sem, storedEv, evst_slice, evst_ptr, evst_iface, evst_nil, evst_bool, *] at hm; subst hm; exact .inl ⟨_, rfl, rfl, by (first | assumption | (apply hfr <;> dsimp only <;> omega)), by simp only [size_at, size_set]; first | omega | exact lt_of_cell (by assumption)⟩
    clear hK K d; try walk_nrm
    generalize ew3 : World.setCell w2 _ _ = w3; have sz3 := sz_st2 ew3; replace zu0 := fz_st zu0 ew3; replace zu1 := fz_st zu1 ew3; replace zu2 := fz_st zu2 ew3; replace hu0 := cl_st hu0 ew3 (by simp <;> omega); replace hu1 := cl_st hu1 ew3 (by simp <;> omega); replace hu2 := cl_st' hu2 ew3; replace kp := kp.stN ew3 (by first | (left; simp; done) | (right; left; simp; done) | (right; right; dsimp only; omega)); refine F.re ?_; refine F.ctl (fun _ => stepG_end) ?_; refine F.leaveRat rfl rfl Tryz.func64 (resultsC_none (by rfl) _) ?_; refine F.leaveE (v := .agg #[.int .i64 0, .nilIface, .iface 166 (.int .i64 k1)]) rfl rfl Tryz.func52 (fun d => ?_) (fun d es hes => DX.still _ (fun e he => ?_)) ?_
    · simp [results, go_sem, *]
    · have hm := hes e he
      simp [results, go_sem, *] at hm; rcases hm with rfl | rfl | rfl <;> exact .inl ⟨_, rfl, rfl, by assumption, lt_of_cell (w := w3) (by assumption)⟩
    exact fin _ w3 hbk kp
end
end Go.Proofs.YtobagnjnbmgidaaGreatDoor
