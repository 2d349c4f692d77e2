/- put, however many entries there are. -/
import Derived.Test.YtobagnjnbmgidaaGreatDoorN4
set_option linter.unusedSimpArgs false
set_option linter.unusedVariables false
set_option maxHeartbeats 8000000
set_option maxRecDepth 100000
namespace Go.Proofs.YtobagnjnbmgidaaGreatDoor
open Go.Conc Go.RowKit
variable {main : Bool} {Ok : Addr → Bool → Prop}

def lp49 (f : Func) : Code := match f.body with | some (.seq _ (.seq (.block _ (.loop b)) _)) => b | _ => .skip
def rs49 (f : Func) : Code := match f.body with | some (.seq _ (.seq _ r)) => r | _ => .skip

theorem Ents.some_or {N : Nat} {w : World} {v : Value} {es : List (Int × Value)} (h : Ents N w v es) : (Emp N w v ∧ es = []) ∨ ∃ E off cap cur, v = .slice (some ⟨E, off, none⟩) es.length cap ∧ es.length ≤ cap ∧ N ≤ E ∧ w.heap[E]? = some (.cells cur 128 (0, 0)) ∧ off + 2 * cap ≤ cur.size ∧ ∀ (j : Nat) (u : Value), (flat es)[j]? = some u → cur[off + j]? = some u := by
  rcases h.2 with ⟨rfl, rfl⟩ | x
  · exact .inl ⟨.inl rfl, rfl⟩
  · exact .inr x
theorem One.ents {N : Nat} {w : World} {v f : Value} {t : Int} (h : One N w v t f) (hf : f.oneCell' = true) : Ents N w v [(t, f)] := by
  obtain ⟨E, off, cap, cur, rfl, o2, o3, o4, o5, o6⟩ := h; refine ⟨fun e he => by simp at he; subst he; exact hf, .inr ⟨E, off, cap + 1, cur, rfl, by simp, o2, o3, o4, fun j u hu => ?_⟩⟩
  match j, hu with
  | 0, hu => simp [flat] at hu; subst hu; exact o5
  | 1, hu => simp [flat] at hu; subst hu; exact o6
  | j + 2, hu => simp [flat] at hu
theorem flat_at : ∀ (es : List (Int × Value)) (j : Nat), j < es.length → ∃ x, (flat es)[2 * j]? = some (.int .i64 x)
  | e :: es, 0, _ => ⟨e.1, rfl⟩
  | e :: es, j + 1, h => by
    obtain ⟨x, hx⟩ := flat_at es j (by simpa using h); exact ⟨x, by rw [show 2 * (j + 1) = 2 * j + 1 + 1 by omega]; simpa [flat] using hx⟩
theorem ix_ev (w : World) {E off q cap p : Nat} (h : p < q) : (Instr.indexAt 100 (.slice (some ⟨E, off, none⟩) q cap) (.int .i64 (p : Int))).events Tryz.prog w #[] = #[] := by
  obtain ⟨inf, z, i1, i2, i3, i4, i5⟩ := inf128; have h' : (p : Int) < (q : Int) := by omega
  simp [Instr.indexAt, run_underlying und100, Instr.index, asInt, asIntOf, sizeOf, typeInfo, i1, i3, h, h']

theorem put_loop {Ψ : Goroutine → World → Prop} (F : Fut Tryz.prog main (DX Ok) Ψ) (A : Nat) (t : Int) (fv : Value) (w0 : World) {E off q cap : Nat} (hq9 : q < 900) (hA1 : w0.cell? ⟨A, 1, none⟩ = some (.slice (some ⟨E, off, none⟩) q cap)) (okr : Ok ⟨A, 1, none⟩ false) (hx : ∀ j, j < q → ∃ x, w0.cell? ⟨E, off + j * 2, none⟩ = some (.int .i64 x)) (okE : ∀ (ad : Addr) (wr : Bool), ad.block = E → Ok ad wr) (c : Frame) (cs : List Frame)
    (hk : ∀ i : Nat, i ≤ q → ∀ y3 y4 y5 y7 y8 y9 y10 y11 y12 y13 y14 y15 y16 y17 y18 y19 y20 y21 y22 y23 y24 y25 y26 y27 y28 y29 y30 y31 y32 y33 y34 y35 y36 y37 y38 y39 y40 y41 : Value, Ψ (G ((base 49).at ⟨List.toArray (.pointer (some ⟨A, 0, none⟩) :: .int .i64 t :: fv :: y3 :: y4 :: y5 :: .int .i64 (i : Int) :: y7 :: y8 :: y9 :: y10 :: y11 :: y12 :: y13 :: y14 :: y15 :: y16 :: y17 :: y18 :: y19 :: y20 :: y21 :: y22 :: y23 :: y24 :: y25 :: y26 :: y27 :: y28 :: y29 :: y30 :: y31 :: y32 :: y33 :: y34 :: y35 :: y36 :: y37 :: y38 :: y39 :: y40 :: y41 :: []), []⟩ [.code (rs49 Tryz.f49)]) (c :: cs)) w0) :
    ∀ p : Nat, p ≤ q → ∀ y3 y4 y5 y7 y8 y9 y10 y11 y12 y13 y14 y15 y16 y17 y18 y19 y20 y21 y22 y23 y24 y25 y26 y27 y28 y29 y30 y31 y32 y33 y34 y35 y36 y37 y38 y39 y40 y41 : Value, Ψ (G ((base 49).at ⟨List.toArray (.pointer (some ⟨A, 0, none⟩) :: .int .i64 t :: fv :: y3 :: y4 :: y5 :: .int .i64 (p : Int) :: y7 :: y8 :: y9 :: y10 :: y11 :: y12 :: y13 :: y14 :: y15 :: y16 :: y17 :: y18 :: y19 :: y20 :: y21 :: y22 :: y23 :: y24 :: y25 :: y26 :: y27 :: y28 :: y29 :: y30 :: y31 :: y32 :: y33 :: y34 :: y35 :: y36 :: y37 :: y38 :: y39 :: y40 :: y41 :: []), []⟩ [.code (lp49 Tryz.f49), .inLoop (lp49 Tryz.f49), .inBlock 0, .code (rs49 Tryz.f49)]) (c :: cs)) w0 := by
  intro p
  induction p with
  | zero =>
    intro hp y3 y4 y5 y7 y8 y9 y10 y11 y12 y13 y14 y15 y16 y17 y18 y19 y20 y21 y22 y23 y24 y25 y26 y27 y28 y29 y30 y31 y32 y33 y34 y35 y36 y37 y38 y39 y40 y41; simp only [lp49, Tryz.f49]; refine F.sq ?_; refine F.sr ?_; simp only [rg, Nat.reduceAdd]; iterate 3 (refine F.oq rfl rfl rfl (by simp [go_sem]) fun d K h => ?_; go_simp; refine h _ ?_; clear h K d; try walk_nrm)
    refine F.unwanted rfl rfl ?_; try walk_nrm
    refine F.unwanted rfl rfl ?_; try walk_nrm
    refine F.unwanted rfl rfl ?_; try walk_nrm
    refine F.unwanted rfl rfl ?_; try walk_nrm
    refine F.unwanted rfl rfl ?_; try walk_nrm
    refine F.unwanted rfl rfl ?_; try walk_nrm
    refine F.unwanted rfl rfl ?_; try walk_nrm
    refine F.unwanted rfl rfl ?_; try walk_nrm
    refine F.unwanted rfl rfl ?_; try walk_nrm
    refine F.unwanted rfl rfl ?_; try walk_nrm
    refine F.unwanted rfl rfl ?_; try walk_nrm
    refine F.oq rfl rfl rfl (by simp [go_sem]) fun d K h => ?_; go_simp; refine h _ ?_; clear h K d; try walk_nrm
    refine F.re ?_; refine F.cf rfl ?_; refine F.ctl (fun _ => stepG_exit rfl) ?_; exact hk 0 hp _ _ _ _ _ _ _ _ _ _ _ _ _ _ _ _ _ _ _ _ _ _ _ _ _ _ _ _ _ _ _ _ _ _ _ _ _ _
  | succ p ih =>
    intro hp y3 y4 y5 y7 y8 y9 y10 y11 y12 y13 y14 y15 y16 y17 y18 y19 y20 y21 y22 y23 y24 y25 y26 y27 y28 y29 y30 y31 y32 y33 y34 y35 y36 y37 y38 y39 y40 y41; obtain ⟨x, hx0⟩ := hx p hp; have okx : Ok ⟨E, off + p * 2, none⟩ false := okE _ _ rfl; have wp : IntKind.i64.wrap (p : Int) = (p : Int) := wrap_nat (by omega) (by omega); have pp : ((0 : Int) < (p : Int) + 1) = True := propext ⟨fun _ => trivial, fun _ => by omega⟩; have pq : (p : Int) < (q : Int) := by omega
    have pq' : p < q := hp; rw [show (((p + 1 : Nat) : Int)) = (p : Int) + 1 from by omega]; have p1 : (p : Int) + 1 - 1 = (p : Int) := by omega
    simp only [lp49, Tryz.f49]; refine F.sq ?_; refine F.sr ?_; simp only [rg, Nat.reduceAdd]; iterate 6 (refine F.oq rfl rfl rfl (by simp [go_sem]) fun d K h => ?_; go_simp; refine h _ ?_; clear h K d; try walk_nrm)
    refine F.ol rfl rfl rfl fun d K h => ?_; go_simp; refine h _ (fun e m => ?_) ?_; simp [go_sem, *] at m; subst m; exact evr (w := w0) (by assumption) (by first | assumption | (apply hfr <;> dsimp only <;> omega)); clear h K d; try walk_nrm
    iterate 2 (refine F.oq rfl rfl rfl (by simp [go_sem]) fun d K h => ?_; go_simp; refine h _ ?_; clear h K d; try walk_nrm)
    have e9 : ∀ w, (Instr.indexAt 100 (.slice (some ⟨E, off, none⟩) q cap) (.int .i64 (p : Int))).events Tryz.prog w #[] = #[] := fun w => ix_ev w pq'
    refine F.opq rfl rfl (by decide) (fun d => by simp [go_sem, e9]) (fun d K hK => ?_); go_simp; refine hK _ ?_; clear hK K d; try walk_nrm
    refine F.oq rfl rfl rfl (by simp [go_sem]) fun d K h => ?_; go_simp; refine h _ ?_; clear h K d; try walk_nrm
    refine F.ol rfl rfl rfl fun d K h => ?_; go_simp; refine h _ (fun e m => ?_) ?_; simp [go_sem, *] at m; subst m; exact evr (w := w0) (by assumption) (by first | assumption | (apply hfr <;> dsimp only <;> omega)); clear h K d; try walk_nrm
    iterate 3 (refine F.oq rfl rfl rfl (by simp [go_sem]) fun d K h => ?_; go_simp; refine h _ ?_; clear h K d; try walk_nrm)
    refine F.re ?_
    by_cases ht : t < x
    · simp only [ht, decide_true]
      refine F.ct rfl ?_; refine F.sk ?_; refine F.bl ?_; refine F.rr ?_; simp only [rg, Nat.reduceAdd]; iterate 3 (refine F.oq rfl rfl rfl (by simp [go_sem]) fun d K h => ?_; go_simp; refine h _ ?_; clear h K d; try walk_nrm)
      refine F.re ?_; refine F.ib ?_; refine F.ctl (fun _ => stepG_inLoop) ?_; exact ih (Nat.le_of_succ_le hp) _ _ _ _ _ _ _ _ _ _ _ _ _ _ _ _ _ _ _ _ _ _ _ _ _ _ _ _ _ _ _ _ _ _ _ _ _ _
    · simp only [ht, decide_false]
      refine F.cf rfl ?_; refine F.ctl (fun _ => stepG_exit rfl) ?_; exact hk (p + 1) hp _ _ _ _ _ _ _ _ _ _ _ _ _ _ _ _ _ _ _ _ _ _ _ _ _ _ _ _ _ _ _ _ _ _ _ _ _ _

theorem putQ_x (N A : Nat) (t : Int) (fn : Fn) (fst cap' : Array Value) (en : Value) (es : List (Int × Value)) (w0 : World) (hN : N ≤ w0.heap.size) (lA : A < N) (hq9 : es.length < 900) (he : Ents N w0 en es) (hA1 : w0.cell? ⟨A, 1, none⟩ = some en) (zA1 : w0.frozen? ⟨A, 1, none⟩ = false) (okr : Ok ⟨A, 1, none⟩ false) (okw : Ok ⟨A, 1, none⟩ true) (okE : ∀ (a : Addr) (wr : Bool), a.block ∈ rowL en ∨ w0.heap.size ≤ a.block → Ok a wr) :
    CallsX Tryz.prog main (DX Ok) 49 #[.pointer (some ⟨A, 0, none⟩), .int .i64 t, .func fn fst cap'] w0 fun r w' => r = .tuple #[] ∧ Kp (rowL en) w0 w' [⟨A, 1, none⟩] ∧ ∃ v' i, i ≤ es.length ∧ w'.cell? ⟨A, 1, none⟩ = some v' ∧ w'.frozen? ⟨A, 1, none⟩ = false ∧ Ents N w' v' (es.take i ++ (t, .func fn fst cap') :: es.drop i) ∧ ∀ g ∈ rowL v', g ∈ rowL en ∨ w0.heap.size ≤ g := by
  rcases Ents.some_or he with ⟨hemp, hnil⟩ | ⟨E, off, cap, cur, hv, hle, hE, hcur, hcap, hxs⟩
  · subst hnil
    refine (put_x N A t fn fst cap' en w0 hN lA hemp hA1 zA1 okr okw okE).mono fun r w' ⟨h1, h2, v', h3, h4, h5, h6⟩ => ⟨h1, h2, v', 0, Nat.le_refl _, h3, h4, h5.ents rfl, h6⟩
  intro Ψ F c cs hc; have hEl : E < w0.heap.size := (Array.getElem?_eq_some_iff.1 hcur).1; have hrow : ∀ g, g ∈ rowL en ↔ g = E := fun g => by rw [mem_rowL, hv]; simp [Value.ownBlock]; exact ⟨fun h => h.symm, fun h => h.symm⟩
  have hAE : A ≠ E := by omega
  have hAv : A ∉ rowL en := fun z => hAE ((hrow A).1 z)
  have okE' : ∀ (ad : Addr) (wr : Bool), ad.block = E → Ok ad wr := fun ad wr h => okE ad wr (.inl ((hrow _).2 h))
  have okF : ∀ (ad : Addr) (wr : Bool), w0.heap.size ≤ ad.block → Ok ad wr := fun ad wr h => okE ad wr (.inr h)
  have hall := he.1; have hA1s : w0.cell? ⟨A, 1, none⟩ = some (.slice (some ⟨E, off, none⟩) es.length cap) := hv ▸ hA1
  have hxc : ∀ j, j < es.length → ∃ x, w0.cell? ⟨E, off + j * 2, none⟩ = some (.int .i64 x) := fun j hj => by
    obtain ⟨x, hx⟩ := flat_at es j hj; exact ⟨x, by rw [cell_row hcur, show off + j * 2 = off + 2 * j by omega]; exact hxs _ _ hx⟩
  clear hA1; rw [enter_at _ Tryz.func49 rfl]; simp only [Tryz.ntmps49, List.size_toArray, List.length_cons, List.length_nil, Nat.reduceAdd, Nat.reduceSub, Array.replicate_succ, Array.replicate_zero, List.push_toArray, List.append_toArray, List.nil_append, List.cons_append]; refine F.sr ?_; simp only [rg, Nat.reduceAdd]; iterate 3 (refine F.oq rfl rfl rfl (by simp [go_sem]) fun d K h => ?_; go_simp; refine h _ ?_; clear h K d; try walk_nrm)
  refine F.ol rfl rfl rfl fun d K h => ?_; go_simp; refine h _ (fun e m => ?_) ?_; simp [go_sem, *] at m; subst m; exact evr (w := w0) (by assumption) (by first | assumption | (apply hfr <;> dsimp only <;> omega)); clear h K d; try walk_nrm
  iterate 2 (refine F.oq rfl rfl rfl (by simp [go_sem]) fun d K h => ?_; go_simp; refine h _ ?_; clear h K d; try walk_nrm)
  refine F.es ?_; refine F.bl ?_; refine F.ctl (fun _ => stepG_loop) ?_; refine put_loop F A t (.func fn fst cap') w0 (q := es.length) hq9 hA1s okr hxc okE' c cs ?_ es.length (Nat.le_refl _) _ _ _ _ _ _ _ _ _ _ _ _ _ _ _ _ _ _ _ _ _ _ _ _ _ _ _ _ _ _ _ _ _ _ _ _ _ _; clear hxc; intro i hi y3 y4 y5 y7 y8 y9 y10 y11 y12 y13 y14 y15 y16 y17 y18 y19 y20 y21 y22 y23 y24 y25 y26 y27 y28 y29 y30 y31 y32 y33 y34 y35 y36 y37 y38 y39 y40 y41; simp only [rs49, Tryz.f49]; have hA1 := hA1s; clear hA1s; refine F.rr ?_; simp only [rg, Nat.reduceAdd]; iterate 4 (refine F.oq rfl rfl rfl (by simp [go_sem]) fun d K h => ?_; go_simp; refine h _ ?_; clear h K d; try walk_nrm)
  refine F.ol rfl rfl rfl fun d K h => ?_; go_simp; refine h _ (fun e m => ?_) ?_; simp [go_sem, *] at m; subst m; exact evr (w := w0) (by assumption) (by first | assumption | (apply hfr <;> dsimp only <;> omega)); clear h K d; try walk_nrm
  iterate 4 (refine F.oq rfl rfl rfl (by simp [go_sem]) fun d K h => ?_; go_simp; refine h _ ?_; clear h K d; try walk_nrm)
  refine F.op rfl rfl (by decide) (fun d K hK => ?_); go_simp; rw [alloc_at']; refine hK _ _ ⟨DX.alloc _ _ (fun e he => ?_), ?_⟩
  · have hm := mem_listed he
    simp [go_sem] at hm
  clear hK K d; try walk_nrm
  generalize ew1 : World.alloc w0 _ = w1; generalize hn1 : (World.heap w0).size = n1; have sz1 := sz_al2 ew1 hn1; replace zA1 := fz_al zA1 hA1 ew1; replace hA1 := cl_al hA1 ew1; have he0 := cl_new (i := 0) ew1 hn1 rfl; have ze0 := fz_new ew1 hn1 0; have he1 := cl_new (i := 1) ew1 hn1 rfl; have ze1 := fz_new ew1 hn1 1; try simp only [List.getElem_toArray, List.getElem_cons_zero, List.getElem_cons_succ] at he0 he1
  have kp : Kp (rowL en) w0 w0 [⟨A, 1, none⟩] := Kp.refl _; replace kp := kp.alN ew1; have hcur1 : w1.heap[E]? = some (.cells cur 128 (0, 0)) := by rw [← ew1, Below.heap_alloc _ _ _ hEl]; exact hcur
  have hnb1 : w1.heap[n1]? = some (.cells #[.int .i64 t, .func fn fst cap'] 128 (0, 0)) := by rw [← hn1]; exact hp_new ew1 rfl
  refine F.enter rfl rfl (by decide) (fun _ => run_call_body rfl Tryz.func60 (by rfl) (by rfl)) (fun _ => events_call_body rfl Tryz.func60 (by rfl) (by rfl) _) ?_; walk_nrm; refine insertQ_x N n1 i t (.func fn fst cap') 128 w1 es hq9 hi (by omega) hall hle hE hcur1 hcap hxs hnb1 rfl (by omega) okE' (fun ad h => okF ad false (by omega)) (fun ad wr h => okF ad wr (by omega)) _ F _ _ (fun v w' hp => ?_); obtain ⟨ho, kg, hrw⟩ := hp; have rE : ∀ x, x ∈ [E] → x ∈ rowL en := fun x hx => (hrow x).2 (by simpa using hx)
  generalize hes : es.take i ++ (t, .func fn fst cap') :: es.drop i = ys at ho hc; rw [Frame.finish_at]; try walk_nrm
  have hA1' := kg.cell _ _ (by simp; exact hAE) hA1; have zA1' := (kg.froz _ _ (by simp; exact hAE) hA1).trans zA1; replace kp := kp.callM kg (fun x hx => .inl (rE x hx)); obtain ⟨b2, cap2, hv2, hv3⟩ := id ho.form; have hq2 : A ∉ rowL v := fun z => by rcases hrw A z with y | y <;> omega
  have hrw2 : ∀ g ∈ rowL v, g ∈ rowL en ∨ w0.heap.size ≤ g := fun g hg => (hrw g hg).imp (fun y => (hrow g).2 y) fun y => by omega
  subst hv2; have size_at : ∀ (w : World) (d : Nat), (w.at d).heap.size = w.heap.size := fun _ _ => rfl
  have size_set : ∀ (w : World) (a : Addr) (v : Value), (w.setCell a v).heap.size = w.heap.size := fun w a v => by simp [World.setCell]
  clear hA1 zA1 he0 he1 ze0 ze1; iterate 2 (refine F.oq rfl rfl rfl (by simp [go_sem]) fun d K h => ?_; go_simp; refine h _ ?_; clear h K d; try walk_nrm)
  refine F.op rfl rfl (by decide) (fun d K hK => ?_); go_simp; rw [setCell_at']; refine hK _ _ ⟨DX.set _ (by (first | assumption | (apply hfr <;> dsimp only <;> omega))) (fun e he => ?_), ?_⟩
  · have hm := mem_listed he
    simp [go_sem, storedEv, evst_slice, evst_ptr, evst_iface, evst_nil, evst_bool, *] at hm; subst hm; exact .inl ⟨_, rfl, rfl, by (first | assumption | (apply hfr <;> dsimp only <;> omega)), by simp only [size_at, size_set]; first | omega | exact lt_of_cell (by assumption)⟩
  clear hK K d; try walk_nrm
  generalize ew2 : World.setCell w' _ _ = w2; have sz2 := sz_st2 ew2; replace zA1' := fz_st zA1' ew2; replace hA1' := cl_st' hA1' ew2; replace kp := kp.stN ew2 (by first | (left; simp; done) | (right; left; simp; done) | (right; right; dsimp only; omega)); refine F.re ?_; refine F.ctl (fun _ => stepG_end) ?_; refine F.leave rfl rfl Tryz.func49 (resultsC_none (by rfl) _) ?_; refine hc _ _ ⟨rfl, kp, _, i, hi, hA1', zA1', ?_, hrw2⟩; rw [hes]; exact (Kp.setC ew2).ents ho (fun g hg => ⟨by simp, by simp; exact fun z => hq2 (z ▸ hg)⟩)
end Go.Proofs.YtobagnjnbmgidaaGreatDoor
