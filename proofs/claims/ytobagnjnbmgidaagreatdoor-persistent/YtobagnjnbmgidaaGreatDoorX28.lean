/- A task's own goroutine, up to its last hand-over. -/
import Derived.Test.YtobagnjnbmgidaaGreatDoorY10
set_option linter.unusedSimpArgs false
set_option linter.unusedVariables false
namespace Go.Proofs.YtobagnjnbmgidaaGreatDoor
open Go.Conc Go.RowKit Go.Extern
variable {Ok : Addr → Bool → Prop}

section
variable {P : Program} {main : Bool} {D : World → World → Array Event → Prop} {Ψ : Goroutine → World → Prop} {b : Frame} {a : Act} {k : List Item} {cs : List Frame} {w : World} {ops : Array Oper} {i : Nat} {rest : List Nat} {o : Oper} {f : FuncId} {fn : Func}

theorem run_callv {r : Operand} {args : Array Operand} {ats : Array TypeId} {first cap : Array Value} (hop : o.op = .call { callee := .value r, args, argTypes := ats }) (hr : a.eval r = .func (.func f) first cap) (hf : P.funcs[f]? = some fn) (hname : (fn.name == "runtime.NumGoroutine") = false) (hb : fn.body.isNone = false) (w : World) :
    (execOp a.eval o).run P w = .ok (.enter f (first ++ args.map a.eval ++ cap)) w ∧ (execOp a.eval o).events P w #[] = #[] := by
  have h1 : ¬ fn.name = "runtime.NumGoroutine" := by simpa using hname
  have h2 : ¬ fn.body = none := by cases hx : fn.body <;> simp_all
  constructor
  · unfold execOp
    simp [hop, resolve, Deferred.ofValue, Go.invoke, hr, callFunc, hf, h1, h2]
  · unfold execOp
    simp [hop, resolve, Deferred.ofValue, Go.invoke, hr, callFunc, hf, h1, h2]

/-- A call of a closure. -/
theorem Fut.enterV (F : Fut P main D Ψ) (ho : ops[i]? = some o) (hw : Region.wanted o (yielded ops a.tmps) = true) (hk : b.kind ≠ .early) {r : Operand} {args : Array Operand} {ats : Array TypeId} {first cap : Array Value} (hop : o.op = .call { callee := .value r, args, argTypes := ats }) (hr : a.eval r = .func (.func f) first cap)
    (hf : P.funcs[f]? = some fn) (hname : (fn.name == "runtime.NumGoroutine") = false) (hb : fn.body.isNone = false)
    (h : Ψ (G (Frame.enter P f (first ++ args.map a.eval ++ cap) .normal) (b.at a (.inRegion ops (i :: rest) :: k) :: cs)) w) : Ψ (G (b.at a (.inRegion ops (i :: rest) :: k)) cs) w :=
  F.enter ho hw hk (fun _ => (run_callv hop hr hf hname hb _).1) (fun _ => (run_callv hop hr hf hname hb _).2) h
end

def Eqw (w w' : World) : Prop := w = w'
/-- These blocks stay. -/
def Same (L : List Nat) (w w' : World) : Prop := ∀ k ∈ L, ∀ i v, w.cell? ⟨k, i, none⟩ = some v → w'.cell? ⟨k, i, none⟩ = some v ∧ w'.frozen? ⟨k, i, none⟩ = w.frozen? ⟨k, i, none⟩

set_option maxRecDepth 100000 in
set_option maxHeartbeats 8000000 in
theorem run1_w (e : Env) (K : EnvOk e Ok) (O bo bi bl : Nat) (ov : Value) (Q : Int → Int → Int → Option Addr → Nat → Nat → World → Prop) (hQ : ∀ a b c x n cap w w', Kp [O] w w' → Q a b c x n cap w → Q a b c x n cap w') (w0 : World)
    (hO : w0.cell? ⟨bo, 0, none⟩ = some (.slice (some ⟨O, 0, none⟩) 1 1)) (hi : w0.cell? ⟨bi, 0, none⟩ = some (.int .i64 0)) (hl : w0.cell? ⟨bl, 0, none⟩ = some ov)
    (ho0 : w0.cell? ⟨O, 0, none⟩ = some (.int .i64 0)) (ho1 : w0.cell? ⟨O, 1, none⟩ = some (.int .i64 0)) (ho2 : w0.cell? ⟨O, 2, none⟩ = some (.int .i64 0)) (ho3 : w0.cell? ⟨O, 3, none⟩ = some (.slice none 0 0))
    (zo0 : w0.frozen? ⟨O, 0, none⟩ = false) (zo1 : w0.frozen? ⟨O, 1, none⟩ = false) (zo2 : w0.frozen? ⟨O, 2, none⟩ = false) (zo3 : w0.frozen? ⟨O, 3, none⟩ = false)
    (d1 : O ≠ bo) (d2 : O ≠ bi) (d3 : O ≠ bl) (q1 : Ok ⟨bo, 0, none⟩ false) (q2 : Ok ⟨bi, 0, none⟩ false) (q3 : Ok ⟨bl, 0, none⟩ false) (hok : ∀ a wr, a.block = O → Ok a wr)
    (hcall : CallsW e Ok 38 #[ov, .pointer (some ⟨e.T, 0, none⟩)] w0 fun v w' => ∃ a b c x n cap, v = .agg #[.int .i64 a, .int .i64 b, .int .i64 c, .slice x n cap] ∧ Q a b c x n cap w' ∧ Same [bo, bi, bl, O] w0 w') :
    CallsW e Ok 37 #[.pointer (some ⟨e.T, 0, none⟩), .pointer (some ⟨bl, 0, none⟩), .pointer (some ⟨bo, 0, none⟩), .pointer (some ⟨bi, 0, none⟩)] w0 fun v w' => v = .tuple #[] ∧ ∃ a b c x n cap, Q a b c x n cap w' ∧
      w'.cell? ⟨O, 0, none⟩ = some (.int .i64 a) ∧ w'.cell? ⟨O, 1, none⟩ = some (.int .i64 b) ∧ w'.cell? ⟨O, 2, none⟩ = some (.int .i64 c) ∧ w'.cell? ⟨O, 3, none⟩ = some (.slice x n cap) := by
  intro Ψ0 Ψ1 W c cs hc
  have F := W.f0
  rw [enter_at _ Tryz.func37 rfl]
  simp only [Tryz.ntmps37, List.size_toArray, List.length_cons, List.length_nil, Nat.reduceAdd, Nat.reduceSub, Array.replicate_succ, Array.replicate_zero, List.push_toArray, List.append_toArray, List.nil_append, List.cons_append]
  have kp : Kp [O] w0 w0 := Kp.refl _
  clear kp
  refine F.drawB (γ := Int × Int × Int × Option Addr × Nat × Nat) (n := 7) mixed [[], [], [], [], [2, 3], [0, 1, 2, 3, 4], [0, 1, 2, 3, 4, 5]] rfl (by kernel_rfl) (fun b g => [(5, sel (b 0) (.slice (some ⟨O, 0, none⟩) 1 1) (undef)), (6, sel (b 1) (.int .i64 0) (undef)), (7, sel (b 2) (ov) (undef)), (8, sel (b 3) (.pointer (some ⟨e.T, 0, none⟩)) (undef)), (9, sel (b 4) (.agg #[.int .i64 g.1, .int .i64 g.2.1, .int .i64 g.2.2.1, .slice g.2.2.2.1 g.2.2.2.2.1 g.2.2.2.2.2]) (undef)), (10, sel (b 5) (.pointer (some ⟨O, 0, none⟩)) (undef))]) (fun b g w => (b 6 = false → ((w.cell? ⟨bo, 0, none⟩ = some (.slice (some ⟨O, 0, none⟩) 1 1)) ∧ (w.cell? ⟨bi, 0, none⟩ = some (.int .i64 0)) ∧ (w.cell? ⟨bl, 0, none⟩ = some ov) ∧ (w.cell? ⟨O, 0, none⟩ = some (.int .i64 0)) ∧ (w.cell? ⟨O, 1, none⟩ = some (.int .i64 0)) ∧ (w.cell? ⟨O, 2, none⟩ = some (.int .i64 0)) ∧ (w.cell? ⟨O, 3, none⟩ = some (.slice none 0 0)) ∧ (w.frozen? ⟨O, 0, none⟩ = false) ∧ (w.frozen? ⟨O, 1, none⟩ = false) ∧ (w.frozen? ⟨O, 2, none⟩ = false) ∧ (w.frozen? ⟨O, 3, none⟩ = false) ∧ (b 4 = false → Eqw w w0) ∧ (b 4 = true → Q g.1 g.2.1 g.2.2.1 g.2.2.2.1 g.2.2.2.2.1 g.2.2.2.2.2 w))) ∧ (b 6 = true → ( Q g.1 g.2.1 g.2.2.1 g.2.2.2.1 g.2.2.2.2.1 g.2.2.2.2.2 w ∧ w.cell? ⟨O, 0, none⟩ = some (.int .i64 g.1) ∧ w.cell? ⟨O, 1, none⟩ = some (.int .i64 g.2.1) ∧ w.cell? ⟨O, 2, none⟩ = some (.int .i64 g.2.2.1) ∧ w.cell? ⟨O, 3, none⟩ = some (.slice g.2.2.2.1 g.2.2.2.2.1 g.2.2.2.2.2)))) ((0, 0, 0, none, 0, 0)) (by simp only [pu, Nat.reduceAdd, Nat.reduceEqDiff, reduceIte]) (⟨fun _ => ⟨hO, hi, hl, ho0, ho1, ho2, ho3, zo0, zo1, zo2, zo3, fun _ => rfl, fun h => (by cases h)⟩, fun h => by cases h⟩) (all_cons ?_ (all_cons ?_ (all_cons ?_ (all_cons ?_ (all_cons ?_ (all_cons ?_ (all_cons ?_ (all_nil)))))))) ?_
  · intro b g w hI hcl hbi hdp rest hre hkk
    obtain ⟨hwf, hwt⟩ := hI
    replace hbi : b 0 = false := hbi
    have nb5 := nbf (hcl 5 0 rfl) hbi
    have nb6 := nbf (hcl 6 0 rfl) hbi
    obtain ⟨hO, hi, hl, ho0, ho1, ho2, ho3, zo0, zo1, zo2, zo3, hwe, hqq⟩ := hwf nb6
    clear hwf hwt
    simp only [nb5, nb6, hbi, pu, Nat.reduceAdd, Nat.reduceEqDiff, reduceIte]
    refine F.ol rfl rfl rfl fun d K h => ?_; go_simp; refine h _ (fun e m => ?_) ?_; simp [go_sem, *] at m; subst m; exact evr (w := w) (by assumption) (by first | assumption | (apply hfr <;> dsimp only <;> omega) | (apply hok; simp)); clear h K d; try walk_nrm
    have hk2 := hkk g _ ⟨fun _ => ⟨hO, hi, hl, ho0, ho1, ho2, ho3, zo0, zo1, zo2, zo3, hwe, hqq⟩, fun h => no nb6 h⟩
    simp only [nb5, nb6, hbi, pu, Nat.reduceAdd, Nat.reduceEqDiff, reduceIte] at hk2
    exact hk2
  · intro b g w hI hcl hbi hdp rest hre hkk
    obtain ⟨hwf, hwt⟩ := hI
    replace hbi : b 1 = false := hbi
    have nb5 := nbf (hcl 5 1 rfl) hbi
    have nb6 := nbf (hcl 6 1 rfl) hbi
    obtain ⟨hO, hi, hl, ho0, ho1, ho2, ho3, zo0, zo1, zo2, zo3, hwe, hqq⟩ := hwf nb6
    clear hwf hwt
    simp only [nb5, nb6, hbi, pu, Nat.reduceAdd, Nat.reduceEqDiff, reduceIte]
    refine F.ol rfl rfl rfl fun d K h => ?_; go_simp; refine h _ (fun e m => ?_) ?_; simp [go_sem, *] at m; subst m; exact evr (w := w) (by assumption) (by first | assumption | (apply hfr <;> dsimp only <;> omega) | (apply hok; simp)); clear h K d; try walk_nrm
    have hk2 := hkk g _ ⟨fun _ => ⟨hO, hi, hl, ho0, ho1, ho2, ho3, zo0, zo1, zo2, zo3, hwe, hqq⟩, fun h => no nb6 h⟩
    simp only [nb5, nb6, hbi, pu, Nat.reduceAdd, Nat.reduceEqDiff, reduceIte] at hk2
    exact hk2
  · intro b g w hI hcl hbi hdp rest hre hkk
    obtain ⟨hwf, hwt⟩ := hI
    replace hbi : b 2 = false := hbi
    have nb4 := nbf (hcl 4 2 rfl) hbi
    have nb5 := nbf (hcl 5 2 rfl) hbi
    have nb6 := nbf (hcl 6 2 rfl) hbi
    obtain ⟨hO, hi, hl, ho0, ho1, ho2, ho3, zo0, zo1, zo2, zo3, hwe, hqq⟩ := hwf nb6
    clear hwf hwt
    simp only [nb4, nb5, nb6, hbi, pu, Nat.reduceAdd, Nat.reduceEqDiff, reduceIte]
    refine F.ol rfl rfl rfl fun d K h => ?_; go_simp; refine h _ (fun e m => ?_) ?_; simp [go_sem, *] at m; subst m; exact evr (w := w) (by assumption) (by first | assumption | (apply hfr <;> dsimp only <;> omega) | (apply hok; simp)); clear h K d; try walk_nrm
    have hk2 := hkk g _ ⟨fun _ => ⟨hO, hi, hl, ho0, ho1, ho2, ho3, zo0, zo1, zo2, zo3, hwe, hqq⟩, fun h => no nb6 h⟩
    simp only [nb4, nb5, nb6, hbi, pu, Nat.reduceAdd, Nat.reduceEqDiff, reduceIte] at hk2
    exact hk2
  · intro b g w hI hcl hbi hdp rest hre hkk
    obtain ⟨hwf, hwt⟩ := hI
    replace hbi : b 3 = false := hbi
    have nb4 := nbf (hcl 4 3 rfl) hbi
    have nb5 := nbf (hcl 5 3 rfl) hbi
    have nb6 := nbf (hcl 6 3 rfl) hbi
    obtain ⟨hO, hi, hl, ho0, ho1, ho2, ho3, zo0, zo1, zo2, zo3, hwe, hqq⟩ := hwf nb6
    clear hwf hwt
    simp only [nb4, nb5, nb6, hbi, pu, Nat.reduceAdd, Nat.reduceEqDiff, reduceIte]
    refine F.oq rfl rfl rfl (by simp [go_sem]) fun d K h => ?_; go_simp; refine h _ ?_; clear h K d; try walk_nrm
    have hk2 := hkk g _ ⟨fun _ => ⟨hO, hi, hl, ho0, ho1, ho2, ho3, zo0, zo1, zo2, zo3, hwe, hqq⟩, fun h => no nb6 h⟩
    simp only [nb4, nb5, nb6, hbi, pu, Nat.reduceAdd, Nat.reduceEqDiff, reduceIte] at hk2
    exact hk2
  · intro b g w hI hcl hbi hdp rest hre hkk
    obtain ⟨hwf, hwt⟩ := hI
    replace hbi : b 4 = false := hbi
    have d2 := hdp 2 rfl
    have d3 := hdp 3 rfl
    have nb5 := nbf (hcl 5 4 rfl) hbi
    have nb6 := nbf (hcl 6 4 rfl) hbi
    obtain ⟨hO, hi, hl, ho0, ho1, ho2, ho3, zo0, zo1, zo2, zo3, hwe, hqq⟩ := hwf nb6
    clear hwf hwt
    simp only [d2, d3, nb5, nb6, hbi, pu, Nat.reduceAdd, Nat.reduceEqDiff, reduceIte]
    have hw0 : w0 = w := (show w = w0 from hwe hbi).symm
    subst hw0
    refine F.enter rfl rfl (by decide) (fun _ => run_call_body rfl Tryz.func38 (by rfl) (by rfl)) (fun _ => events_call_body rfl Tryz.func38 (by rfl) (by rfl) _) ?_
    walk_nrm
    refine hcall Ψ0 Ψ1 W _ _ (fun v wq hp => ?_)
    obtain ⟨y1, y2, y3, y4, y5, y6, rfl, hq, hs⟩ := hp
    rw [Frame.finish_at]
    try walk_nrm
    have hk2 := hkk (y1, y2, y3, y4, y5, y6) _ ⟨fun _ => ⟨(hs _ (by simp) _ _ hO).1, (hs _ (by simp) _ _ hi).1, (hs _ (by simp) _ _ hl).1, (hs _ (by simp) _ _ ho0).1, (hs _ (by simp) _ _ ho1).1, (hs _ (by simp) _ _ ho2).1, (hs _ (by simp) _ _ ho3).1, (hs _ (by simp) _ _ ho0).2.trans zo0, (hs _ (by simp) _ _ ho1).2.trans zo1, (hs _ (by simp) _ _ ho2).2.trans zo2, (hs _ (by simp) _ _ ho3).2.trans zo3, fun h => (by simp [tick] at h), fun _ => hq⟩, fun h => no nb6 h⟩
    simp only [d2, d3, nb5, nb6, hbi, pu, Nat.reduceAdd, Nat.reduceEqDiff, reduceIte] at hk2
    exact hk2
  · intro b g w hI hcl hbi hdp rest hre hkk
    obtain ⟨hwf, hwt⟩ := hI
    replace hbi : b 5 = false := hbi
    have d0 := hdp 0 rfl
    have d1 := hdp 1 rfl
    have d2 := hdp 2 rfl
    have d3 := hdp 3 rfl
    have d4 := hdp 4 rfl
    have nb6 := nbf (hcl 6 5 rfl) hbi
    obtain ⟨hO, hi, hl, ho0, ho1, ho2, ho3, zo0, zo1, zo2, zo3, hwe, hqq⟩ := hwf nb6
    clear hwf hwt
    simp only [d0, d1, d2, d3, d4, nb6, hbi, pu, Nat.reduceAdd, Nat.reduceEqDiff, reduceIte]
    refine F.oq rfl rfl rfl (by simp [go_sem]) fun d K h => ?_; go_simp; refine h _ ?_; clear h K d; try walk_nrm
    have hk2 := hkk g _ ⟨fun _ => ⟨hO, hi, hl, ho0, ho1, ho2, ho3, zo0, zo1, zo2, zo3, hwe, hqq⟩, fun h => no nb6 h⟩
    simp only [d0, d1, d2, d3, d4, nb6, hbi, pu, Nat.reduceAdd, Nat.reduceEqDiff, reduceIte] at hk2
    exact hk2
  · intro b g w hI hcl hbi hdp rest hre hkk
    obtain ⟨hwf, hwt⟩ := hI
    replace hbi : b 6 = false := hbi
    have d0 := hdp 0 rfl
    have d1 := hdp 1 rfl
    have d2 := hdp 2 rfl
    have d3 := hdp 3 rfl
    have d4 := hdp 4 rfl
    have d5 := hdp 5 rfl
    obtain ⟨hO, hi, hl, ho0, ho1, ho2, ho3, zo0, zo1, zo2, zo3, hwe, hqq⟩ := hwf hbi
    clear hwf hwt
    simp only [d0, d1, d2, d3, d4, d5, hbi, pu, Nat.reduceAdd, Nat.reduceEqDiff, reduceIte]
    have hq := hqq d4
    clear hwe hqq hcall
    have kp : Kp [O] w w := Kp.refl _
    refine F.op rfl rfl (by decide) (fun d K hK => ?_)
    go_simp
    repeat rw [setCell_at']
    refine hK _ _ ⟨DX.set4 _ (by (first | assumption | (apply hfr <;> dsimp only <;> omega) | (apply hok; simp))) (by (first | assumption | (apply hfr <;> dsimp only <;> omega) | (apply hok; simp))) (by (first | assumption | (apply hfr <;> dsimp only <;> omega) | (apply hok; simp))) (by (first | assumption | (apply hfr <;> dsimp only <;> omega) | (apply hok; simp))) (fun e he => ?_), ?_⟩
    · have hm := mem_listed he
      simp [go_sem, storedEv, evst_slice, evst_ptr, evst_iface, evst_nil, evst_bool, *] at hm
      rcases hm with rfl | rfl | rfl | rfl <;> exact .inl ⟨_, rfl, rfl, by (first | assumption | (apply hfr <;> dsimp only <;> omega) | (apply hok; simp)), by simp only [size_at, size_set]; first | omega | exact lt_of_cell (by assumption)⟩
    clear hK K d
    try walk_nrm
    generalize ew1 : World.setCell w _ _ = w1
    have sz1 := sz_st ew1
    replace zo0 := fz_st zo0 ew1
    replace zo1 := fz_st zo1 ew1
    replace zo2 := fz_st zo2 ew1
    replace zo3 := fz_st zo3 ew1
    replace hO := cl_st hO ew1 (by intro e; simp at e <;> omega)
    replace hi := cl_st hi ew1 (by intro e; simp at e <;> omega)
    replace hl := cl_st hl ew1 (by intro e; simp at e <;> omega)
    replace ho0 := cl_st' ho0 ew1
    replace ho1 := cl_st ho1 ew1 (by intro e; simp at e <;> omega)
    replace ho2 := cl_st ho2 ew1 (by intro e; simp at e <;> omega)
    replace ho3 := cl_st ho3 ew1 (by intro e; simp at e <;> omega)
    replace kp := kp.stN ew1 (by first | (left; simp; done) | (right; left; simp; done) | (right; right; dsimp only; omega))
    generalize ew2 : World.setCell w1 _ _ = w2
    have sz2 := sz_st ew2
    replace zo0 := fz_st zo0 ew2
    replace zo1 := fz_st zo1 ew2
    replace zo2 := fz_st zo2 ew2
    replace zo3 := fz_st zo3 ew2
    replace hO := cl_st hO ew2 (by intro e; simp at e <;> omega)
    replace hi := cl_st hi ew2 (by intro e; simp at e <;> omega)
    replace hl := cl_st hl ew2 (by intro e; simp at e <;> omega)
    replace ho0 := cl_st ho0 ew2 (by intro e; simp at e <;> omega)
    replace ho1 := cl_st' ho1 ew2
    replace ho2 := cl_st ho2 ew2 (by intro e; simp at e <;> omega)
    replace ho3 := cl_st ho3 ew2 (by intro e; simp at e <;> omega)
    replace kp := kp.stN ew2 (by first | (left; simp; done) | (right; left; simp; done) | (right; right; dsimp only; omega))
    generalize ew3 : World.setCell w2 _ _ = w3
    have sz3 := sz_st ew3
    replace zo0 := fz_st zo0 ew3
    replace zo1 := fz_st zo1 ew3
    replace zo2 := fz_st zo2 ew3
    replace zo3 := fz_st zo3 ew3
    replace hO := cl_st hO ew3 (by intro e; simp at e <;> omega)
    replace hi := cl_st hi ew3 (by intro e; simp at e <;> omega)
    replace hl := cl_st hl ew3 (by intro e; simp at e <;> omega)
    replace ho0 := cl_st ho0 ew3 (by intro e; simp at e <;> omega)
    replace ho1 := cl_st ho1 ew3 (by intro e; simp at e <;> omega)
    replace ho2 := cl_st' ho2 ew3
    replace ho3 := cl_st ho3 ew3 (by intro e; simp at e <;> omega)
    replace kp := kp.stN ew3 (by first | (left; simp; done) | (right; left; simp; done) | (right; right; dsimp only; omega))
    generalize ew4 : World.setCell w3 _ _ = w4
    have sz4 := sz_st ew4
    replace zo0 := fz_st zo0 ew4
    replace zo1 := fz_st zo1 ew4
    replace zo2 := fz_st zo2 ew4
    replace zo3 := fz_st zo3 ew4
    replace hO := cl_st hO ew4 (by intro e; simp at e <;> omega)
    replace hi := cl_st hi ew4 (by intro e; simp at e <;> omega)
    replace hl := cl_st hl ew4 (by intro e; simp at e <;> omega)
    replace ho0 := cl_st ho0 ew4 (by intro e; simp at e <;> omega)
    replace ho1 := cl_st ho1 ew4 (by intro e; simp at e <;> omega)
    replace ho2 := cl_st ho2 ew4 (by intro e; simp at e <;> omega)
    replace ho3 := cl_st' ho3 ew4
    replace kp := kp.stN ew4 (by first | (left; simp; done) | (right; left; simp; done) | (right; right; dsimp only; omega))
    have hk2 := hkk g _ ⟨fun h => by simp [tick] at h, fun _ => ⟨hQ _ _ _ _ _ _ _ _ kp hq, ho0, ho1, ho2, ho3⟩⟩
    simp only [d0, d1, d2, d3, d4, d5, hbi, pu, Nat.reduceAdd, Nat.reduceEqDiff, reduceIte] at hk2
    exact hk2
  intro b g w hI hall
  obtain ⟨hwf, hwt⟩ := hI
  simp only [hall 0 (by decide), hall 1 (by decide), hall 2 (by decide), hall 3 (by decide), hall 4 (by decide), hall 5 (by decide), hall 6 (by decide), pu, Nat.reduceAdd, Nat.reduceEqDiff, reduceIte]
  obtain ⟨f1, f2, f3, f4, f5⟩ := hwt (hall 6 (by decide))
  refine F.re ?_
  refine F.ctl (fun _ => stepG_end) ?_
  refine F.leave rfl rfl Tryz.func37 (resultsC_none (by rfl) _) ?_
  exact hc _ _ ⟨rfl, _, _, _, _, _, _, f1, f2, f3, f4, f5⟩

end Go.Proofs.YtobagnjnbmgidaaGreatDoor
