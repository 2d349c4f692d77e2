/- The head of the agenda's loop: an entry is taken; none is left. -/
import Derived.Test.YtobagnjnbmgidaaGreatDoorV12
set_option linter.unusedSimpArgs false
set_option linter.unusedVariables false
set_option maxHeartbeats 8000000
set_option maxRecDepth 100000
namespace Go.Proofs.YtobagnjnbmgidaaGreatDoor
open Go.Conc Go.RowKit

theorem evst_func {P : Program} {w : World} {es : Array Event} {a : Addr} {m : Mode} (f : Fn) (x y : Array Value) : (store a (.func f x y) m).events P w es = storedEv P w es a (.func f x y) m := events_store P w es a _ m rfl
theorem rst_func (P : Program) (w : World) (a : Addr) (m : Mode) (f : Fn) (x y : Array Value) : (store a (.func f x y) m).run P w = stored P w a (.func f x y) m := run_store P w a _ m rfl

def body39 (f : Func) : Code := match f.body with | some (.seq (.block _ (.loop b)) _) => b | _ => .skip
def rest39 (f : Func) : Code := match f.body with | some (.seq _ r) => r | _ => .skip
/-- Goroutine 0 at the head of the agenda's loop. -/
def Hd39 (A : Nat) (cs : List Frame) (g : Goroutine) : Prop := ∃ y1 y2 y3 y4 y5 y6 y7 y8 y9 y10 y11 y12 y13 y14 y15 y16 y17 y18 y19 y20 y21 y22 y23 y24 y25 y26 y27 y28 y29 y30 y31 y32 y33 y34 : Value,
  g = G ((base 39).at ⟨#[.pointer (some ⟨A, 0, none⟩), y1, y2, y3, y4, y5, y6, y7, y8, y9, y10, y11, y12, y13, y14, y15, y16, y17, y18, y19, y20, y21, y22, y23, y24, y25, y26, y27, y28, y29, y30, y31, y32, y33, y34], []⟩ [.code (body39 Tryz.f39), .inLoop (body39 Tryz.f39), .inBlock 0, .code (rest39 Tryz.f39)]) cs
/-- Once it is through, this frame comes to the loop's head by control alone. -/
def Back39 (A : Nat) (cs : List Frame) (fr : Frame) : Prop := ∀ Φ, CF Tryz.prog true Φ → (∀ g, Hd39 A cs g → Φ g) → Φ (G (fr.finish (.tuple #[])) cs)
/-- .. out of the loop. -/
def Out39 (cR : Frame) (csR : List Frame) (fr : Frame) : Prop := ∀ Φ, CF Tryz.prog true Φ → Φ (G (cR.finish (.tuple #[])) csR) → Φ (G (fr.finish (.tuple #[])) (cR :: csR))

variable {Ok : Addr → Bool → Prop} {Ψ : Goroutine → World → Prop}

theorem pop_u (F : Fut Tryz.prog true (DX Ok) Ψ) (N A : Nat) (cs : List Frame) (t : Int) (f : FuncId) (fn : Func) (fst cp : Array Value) (es : List (Int × Value)) (en v0 : Value) (g : Goroutine) (w0 : World) (hgd : Hd39 A cs g) (hf : Tryz.prog.funcs[f]? = some fn) (hname : (fn.name == "runtime.NumGoroutine") = false) (hb : fn.body.isNone = false)
    (H : Ents N w0 en ((t, .func (.func f) fst cp) :: es)) (lA : A < N) (hN : N ≤ w0.heap.size) (hA0 : w0.cell? ⟨A, 0, none⟩ = some v0) (zA0 : w0.frozen? ⟨A, 0, none⟩ = false) (hA1 : w0.cell? ⟨A, 1, none⟩ = some en) (zA1 : w0.frozen? ⟨A, 1, none⟩ = false)
    (o1 : Ok ⟨A, 1, none⟩ false) (o2 : Ok ⟨A, 1, none⟩ true) (o3 : Ok ⟨A, 0, none⟩ true) (hrow : ∀ a : Addr, a.block ∈ rowL en → Ok a false) (hfr : ∀ (a : Addr) (wr : Bool), w0.heap.size ≤ a.block → Ok a wr)
    (hc : ∀ fr w1 en1, Back39 A cs fr → Kp [] w0 w1 [⟨A, 0, none⟩, ⟨A, 1, none⟩] → w1.cell? ⟨A, 0, none⟩ = some (.int .i64 t) → w1.frozen? ⟨A, 0, none⟩ = false → w1.cell? ⟨A, 1, none⟩ = some en1 → w1.frozen? ⟨A, 1, none⟩ = false → Ents N w1 en1 es → (∀ g ∈ rowL en1, g ∈ rowL en) → Ψ (G (Frame.enter Tryz.prog f (fst ++ cp) .normal) (fr :: cs)) w1) : Ψ g w0 := by
  obtain ⟨y1, y2, y3, y4, y5, y6, y7, y8, y9, y10, y11, y12, y13, y14, y15, y16, y17, y18, y19, y20, y21, y22, y23, y24, y25, y26, y27, y28, y29, y30, y31, y32, y33, y34, rfl⟩ := hgd; rcases Ents.some_or H with ⟨_, hnil⟩ | ⟨E, off, cap', cur, hen, hle, hNE, hblk, hroom, hxs⟩
  · cases hnil
  obtain ⟨cap, rfl⟩ : ∃ c, cap' = c + 1 := ⟨cap' - 1, by simp at hle; omega⟩; have hone := H.1; have hE0 : w0.cell? ⟨E, off, none⟩ = some (.int .i64 t) := by have := hxs 0 _ (by simp [flat]; rfl); simp only [World.cell?, hblk]; simpa using this
  have hE1 : w0.cell? ⟨E, off + 1, none⟩ = some (.func (.func f) fst cp) := by have := hxs 1 _ (by simp [flat]; rfl); simp only [World.cell?, hblk]; simpa using this
  obtain ⟨q, hq⟩ : ∃ q, q = es.length := ⟨_, rfl⟩; have hlen : ((t, Value.func (.func f) fst cp) :: es).length = q + 1 := by simp [hq]
  rw [hlen] at hen hle; replace hq : q ≤ es.length ∧ es.length ≤ q := ⟨Nat.le_of_eq hq, Nat.le_of_eq hq.symm⟩; have e1 : ∀ w, (Instr.sliceAt 100 (.slice (some ⟨E, off, none⟩) (q + 1) (cap + 1)) (some (.int .i64 1)) none none).events Tryz.prog w #[] = #[] := fun w => (sl_from w (L := 1) rfl (by omega) hle).2
  have hEr : ∀ g, g ∈ rowL en ↔ g = E := fun g => by rw [mem_rowL, hen]; simp [Value.ownBlock]; exact ⟨fun h => h.symm, fun h => h.symm⟩
  have hrb : ∀ a : Addr, a.block = E → Ok a false := fun a h => hrow a ((hEr _).2 h)
  rw [hen] at hA1; have hEl : E < w0.heap.size := (Array.getElem?_eq_some_iff.1 hblk).1; have hEA : E ≠ A := by omega
  have q1 : ((0 : Int) < (q : Int) + 1) := by omega
  have q2 : (1 : Int) ≤ (q : Int) + 1 := by omega
  have q3 : q ≤ cap := by omega
  clear hlen H hen; have hrsf := rst_func; unfold body39; refine F.sq ?_; refine F.sr ?_; simp only [rg, Nat.reduceAdd]; iterate 3 (refine F.oq rfl rfl rfl (by simp [go_sem]) fun d K h => ?_; go_simp; refine h _ ?_; clear h K d; try walk_nrm)
  refine F.ol rfl rfl rfl fun d K h => ?_; go_simp; refine h _ (fun e m => ?_) ?_; simp [go_sem, *] at m; subst m; exact evr (w := w0) (by assumption) (by first | assumption | exact hrb _ rfl | (apply hfr <;> dsimp only <;> omega)); clear h K d; try walk_nrm
  iterate 2 (refine F.oq rfl rfl rfl (by simp [go_sem]) fun d K h => ?_; go_simp; refine h _ ?_; clear h K d; try walk_nrm)
  refine F.re ?_; refine F.ct rfl ?_; refine F.sk ?_; refine F.bl ?_; refine F.sr ?_; simp only [rg, Nat.reduceAdd]; iterate 3 (refine F.oq rfl rfl rfl (by simp [go_sem]) fun d K h => ?_; go_simp; refine h _ ?_; clear h K d; try walk_nrm)
  refine F.ol rfl rfl rfl fun d K h => ?_; go_simp; refine h _ (fun e m => ?_) ?_; simp [go_sem, *] at m; subst m; exact evr (w := w0) (by assumption) (by first | assumption | exact hrb _ rfl | (apply hfr <;> dsimp only <;> omega)); clear h K d; try walk_nrm
  refine F.oq rfl rfl rfl (by simp [go_sem]) fun d K h => ?_; go_simp; refine h _ ?_; clear h K d; try walk_nrm
  refine F.ol rfl rfl rfl fun d K hK => ?_
  go_simp; refine hK _ (fun e hm => ?_) ?_
  · simp [go_sem, *] at hm
    rcases hm with rfl | rfl <;> exact evr (w := w0) (by assumption) (by first | assumption | exact hrb _ rfl | (apply hfr <;> dsimp only <;> omega))
  clear hK K d; try walk_nrm
  clear hE0 hE1; refine F.op rfl rfl (by decide) (fun d K hK => ?_); go_simp; rw [alloc_at']; refine hK _ _ ⟨DX.alloc _ _ (fun e he => ?_), ?_⟩
  · have hm := mem_listed he
    simp [go_sem] at hm
  clear hK K d; try walk_nrm
  generalize ew1 : World.alloc w0 _ = w1; generalize hn1 : (World.heap w0).size = n1; have sz1 := sz_al2 ew1 hn1; replace zA0 := fz_al zA0 hA0 ew1; replace zA1 := fz_al zA1 hA1 ew1; replace hA0 := cl_al hA0 ew1; replace hA1 := cl_al hA1 ew1; have hf0 := cl_new (i := 0) ew1 hn1 rfl; have zf0 := fz_new ew1 hn1 0; have hf1 := cl_new (i := 1) ew1 hn1 rfl; have zf1 := fz_new ew1 hn1 1; try simp only [List.getElem_toArray, List.getElem_cons_zero, List.getElem_cons_succ] at hf0 hf1
  have kp : Kp [] w0 w0 [⟨A, 0, none⟩, ⟨A, 1, none⟩] := Kp.refl _; replace kp := kp.alN ew1; refine F.op rfl rfl (by decide) (fun d K hK => ?_); go_simp
  repeat rw [setCell_at']
  refine hK _ _ ⟨DX.set2 _ (by (first | assumption | exact hrb _ rfl | (apply hfr <;> dsimp only <;> omega))) (by (first | assumption | exact hrb _ rfl | (apply hfr <;> dsimp only <;> omega))) (fun e he => ?_), ?_⟩
  · have hm := mem_listed he
    simp [go_sem, storedEv, evst_slice, evst_ptr, evst_iface, evst_nil, evst_bool, evst_func, *] at hm; rcases hm with rfl | rfl <;> exact .inl ⟨_, rfl, rfl, by (first | assumption | exact hrb _ rfl | (apply hfr <;> dsimp only <;> omega)), by simp only [size_at, size_set]; first | omega | exact lt_of_cell (by assumption)⟩
  clear hK K d; try walk_nrm
  generalize ew2 : World.setCell w1 _ _ = w2; have sz2 := sz_st2 ew2; replace zA0 := fz_st zA0 ew2; replace zA1 := fz_st zA1 ew2; replace zf0 := fz_st zf0 ew2; replace zf1 := fz_st zf1 ew2; replace hA0 := cl_st hA0 ew2 (by simp <;> omega); replace hA1 := cl_st hA1 ew2 (by simp <;> omega); replace hf0 := cl_st' hf0 ew2; replace hf1 := cl_st hf1 ew2 (by simp <;> omega); replace kp := kp.stN ew2 (by first | (left; simp; done) | (right; left; simp; done) | (right; right; dsimp only; omega)); generalize ew3 : World.setCell w2 _ _ = w3; have sz3 := sz_st2 ew3; replace zA0 := fz_st zA0 ew3; replace zA1 := fz_st zA1 ew3; replace zf0 := fz_st zf0 ew3; replace zf1 := fz_st zf1 ew3; replace hA0 := cl_st hA0 ew3 (by simp <;> omega); replace hA1 := cl_st hA1 ew3 (by simp <;> omega); replace hf0 := cl_st hf0 ew3 (by simp <;> omega); replace hf1 := cl_st' hf1 ew3; replace kp := kp.stN ew3 (by first | (left; simp; done) | (right; left; simp; done) | (right; right; dsimp only; omega)); refine F.esr ?_; simp only [rg, Nat.reduceAdd]; iterate 4 (refine F.oq rfl rfl rfl (by simp [go_sem]) fun d K h => ?_; go_simp; refine h _ ?_; clear h K d; try walk_nrm)
  refine F.ol rfl rfl rfl fun d K h => ?_; go_simp; refine h _ (fun e m => ?_) ?_; simp [go_sem, *] at m; subst m; exact evr (w := w3) (by assumption) (by first | assumption | exact hrb _ rfl | (apply hfr <;> dsimp only <;> omega)); clear h K d; try walk_nrm
  refine F.opq rfl rfl (by decide) (fun _ => (by first | (simp [go_sem, ev_sl0, ev_sl1]; done) | (simp [go_sem, Instr.makeInterface, Instr.makeFunc]; done) | (simp [go_sem, *]; done))) (fun d K hK => ?_); go_simp; refine hK _ ?_; clear hK K d; try walk_nrm
  iterate 2 (refine F.oq rfl rfl rfl (by simp [go_sem]) fun d K h => ?_; go_simp; refine h _ ?_; clear h K d; try walk_nrm)
  refine F.op rfl rfl (by decide) (fun d K hK => ?_); go_simp; rw [setCell_at']; refine hK _ _ ⟨DX.set _ (by (first | assumption | exact hrb _ rfl | (apply hfr <;> dsimp only <;> omega))) (fun e he => ?_), ?_⟩
  · have hm := mem_listed he
    simp [go_sem, storedEv, evst_slice, evst_ptr, evst_iface, evst_nil, evst_bool, evst_func, *] at hm; subst hm; exact .inl ⟨_, rfl, rfl, by (first | assumption | exact hrb _ rfl | (apply hfr <;> dsimp only <;> omega)), by simp only [size_at, size_set]; first | omega | exact lt_of_cell (by assumption)⟩
  clear hK K d; try walk_nrm
  generalize ew4 : World.setCell w3 _ _ = w4; have sz4 := sz_st2 ew4; replace zA0 := fz_st zA0 ew4; replace zA1 := fz_st zA1 ew4; replace zf0 := fz_st zf0 ew4; replace zf1 := fz_st zf1 ew4; replace hA0 := cl_st hA0 ew4 (by simp <;> omega); replace hA1 := cl_st' hA1 ew4; replace hf0 := cl_st hf0 ew4 (by simp <;> omega); replace hf1 := cl_st hf1 ew4 (by simp <;> omega); replace kp := kp.stN ew4 (by first | (left; simp; done) | (right; left; simp; done) | (right; right; dsimp only; omega)); refine F.esr ?_; simp only [rg, Nat.reduceAdd]; iterate 2 (refine F.oq rfl rfl rfl (by simp [go_sem]) fun d K h => ?_; go_simp; refine h _ ?_; clear h K d; try walk_nrm)
  refine F.ol rfl rfl rfl fun d K h => ?_; go_simp; refine h _ (fun e m => ?_) ?_; simp [go_sem, *] at m; subst m; exact evr (w := w4) (by assumption) (by first | assumption | exact hrb _ rfl | (apply hfr <;> dsimp only <;> omega)); clear h K d; try walk_nrm
  iterate 2 (refine F.oq rfl rfl rfl (by simp [go_sem]) fun d K h => ?_; go_simp; refine h _ ?_; clear h K d; try walk_nrm)
  refine F.op rfl rfl (by decide) (fun d K hK => ?_); go_simp; rw [setCell_at']; refine hK _ _ ⟨DX.set _ (by (first | assumption | exact hrb _ rfl | (apply hfr <;> dsimp only <;> omega))) (fun e he => ?_), ?_⟩
  · have hm := mem_listed he
    simp [go_sem, storedEv, evst_slice, evst_ptr, evst_iface, evst_nil, evst_bool, evst_func, *] at hm; subst hm; exact .inl ⟨_, rfl, rfl, by (first | assumption | exact hrb _ rfl | (apply hfr <;> dsimp only <;> omega)), by simp only [size_at, size_set]; first | omega | exact lt_of_cell (by assumption)⟩
  clear hK K d; try walk_nrm
  generalize ew5 : World.setCell w4 _ _ = w5; have sz5 := sz_st2 ew5; replace zA0 := fz_st zA0 ew5; replace zA1 := fz_st zA1 ew5; replace zf0 := fz_st zf0 ew5; replace zf1 := fz_st zf1 ew5; replace hA0 := cl_st' hA0 ew5; replace hA1 := cl_st hA1 ew5 (by simp <;> omega); replace hf0 := cl_st hf0 ew5 (by simp <;> omega); replace hf1 := cl_st hf1 ew5 (by simp <;> omega); replace kp := kp.stN ew5 (by first | (left; simp; done) | (right; left; simp; done) | (right; right; dsimp only; omega)); refine F.er ?_; simp only [rg, Nat.reduceAdd]; refine F.oq rfl rfl rfl (by simp [go_sem]) fun d K h => ?_; go_simp; refine h _ ?_; clear h K d; try walk_nrm
  refine F.ol rfl rfl rfl fun d K h => ?_; go_simp; refine h _ (fun e m => ?_) ?_; simp [go_sem, *] at m; subst m; exact evr (w := w5) (by assumption) (by first | assumption | exact hrb _ rfl | (apply hfr <;> dsimp only <;> omega)); clear h K d; try walk_nrm
  refine F.enterV rfl rfl (by decide) rfl rfl hf hname hb ?_; try walk_nrm
  simp only [List.map_toArray, List.map_nil, Array.append_empty]; have hen1 : ∀ g, g ∈ rowL (Value.slice (if cap = 0 then some ⟨E, off, none⟩ else some ⟨E, off + 2, none⟩) q cap) → g = E := fun g hg => by by_cases hcap : cap = 0 <;> simpa [rowL, Value.ownBlock, hcap] using hg
  refine hc _ w5 _ ?_ kp hA0 zA0 hA1 zA1 ?_ (fun g hg => (hEr g).2 (hen1 g hg))
  · clear F
    intro Φ F ht; rw [Frame.finish_at]; try walk_nrm
    refine F.re ?_; refine F.ib ?_; refine F.ctl (fun _ => stepG_inLoop) ?_; exact ht _ ⟨_, _, _, _, _, _, _, _, _, _, _, _, _, _, _, _, _, _, _, _, _, _, _, _, _, _, _, _, _, _, _, _, _, _, rfl⟩
  · have hblk' := kp.blk E _ _ _ (by simp) (by simp; exact fun z => hEA z.symm) hblk
    refine ⟨fun e he => hone e (List.mem_cons_of_mem _ he), .inr ?_⟩; have hql : q = es.length := Nat.le_antisymm hq.1 hq.2
    have hxs' : ∀ (j : Nat) (u : Value), (flat es)[j]? = some u → cur[off + 2 + j]? = some u := fun j u hu => by
      have := hxs (j + 2) u (by simpa [flat] using hu); rw [show off + 2 + j = off + (j + 2) by omega]; exact this
    by_cases hcap : cap = 0
    · subst hcap
      have hq0 : q = 0 := by omega
      have hes : es = [] := List.eq_nil_of_length_eq_zero (by omega); subst hes; exact ⟨E, off, 0, cur, by simp [hq0], by simp, hNE, hblk', by omega, fun j u hu => by simp [flat] at hu⟩
    · exact ⟨E, off + 2, cap, cur, by simp [hcap, hql], by omega, hNE, hblk', by omega, hxs'⟩

theorem done_u (F : Fut Tryz.prog true (DX Ok) Ψ) (A : Nat) (cR : Frame) (csR : List Frame) (b : Option Addr) (cap : Nat) (g : Goroutine) (w0 : World) (hgd : Hd39 A (cR :: csR) g) (hA1 : w0.cell? ⟨A, 1, none⟩ = some (.slice b 0 cap)) (o1 : Ok ⟨A, 1, none⟩ false)
    (hc : ∀ fr, Out39 cR csR fr → Ψ (G (Frame.enter Tryz.prog 56 #[.pointer (some ⟨A, 5, none⟩)] .normal) (fr :: cR :: csR)) w0) : Ψ g w0 := by
  obtain ⟨y1, y2, y3, y4, y5, y6, y7, y8, y9, y10, y11, y12, y13, y14, y15, y16, y17, y18, y19, y20, y21, y22, y23, y24, y25, y26, y27, y28, y29, y30, y31, y32, y33, y34, rfl⟩ := hgd; unfold body39 rest39; refine F.sq ?_; refine F.sr ?_; simp only [rg, Nat.reduceAdd]; iterate 3 (refine F.oq rfl rfl rfl (by simp [go_sem]) fun d K h => ?_; go_simp; refine h _ ?_; clear h K d; try walk_nrm)
  refine F.ol rfl rfl rfl fun d K h => ?_; go_simp; refine h _ (fun e m => ?_) ?_; simp [go_sem, *] at m; subst m; exact evr (w := w0) (by assumption) (by first | assumption | exact hrb _ rfl | (apply hfr <;> dsimp only <;> omega)); clear h K d; try walk_nrm
  iterate 2 (refine F.oq rfl rfl rfl (by simp [go_sem]) fun d K h => ?_; go_simp; refine h _ ?_; clear h K d; try walk_nrm)
  refine F.re ?_; refine F.cf rfl ?_; refine F.ctl (fun _ => stepG_exit rfl) ?_; refine F.rr ?_; simp only [rg, Nat.reduceAdd]; iterate 3 (refine F.oq rfl rfl rfl (by simp [go_sem]) fun d K h => ?_; go_simp; refine h _ ?_; clear h K d; try walk_nrm)
  refine F.enter rfl rfl (by decide) (fun _ => run_call_body rfl Tryz.func56 (by rfl) (by rfl)) (fun _ => events_call_body rfl Tryz.func56 (by rfl) (by rfl) _) ?_; walk_nrm; refine hc _ ?_; clear F; intro Φ F ht; rw [Frame.finish_at]; try walk_nrm
  refine F.re ?_; refine F.ctl (fun _ => stepG_end) ?_; refine F.leave rfl rfl Tryz.func39 (resultsC_none (by rfl) _) ?_; exact ht
end Go.Proofs.YtobagnjnbmgidaaGreatDoor
