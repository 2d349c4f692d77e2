/- Unlayered: the law over all clients. -/
import Derived.Test.YtobagnjnbmgidaaGreatDoorW9
import Derived.Test.YtobagnjnbmgidaaGreatDoorW8
set_option linter.unusedSimpArgs false
set_option linter.unusedVariables false
set_option maxHeartbeats 8000000
set_option maxRecDepth 100000
namespace Go.Proofs.YtobagnjnbmgidaaGreatDoor
section
open Go.Conc Go.RowKit
open Go.ConcN (sumTo upd sumTo_upd upd_ne upd_same)

theorem stepG_top {P : Program} {b : Frame} {a : Act} {fn : Func} {todo : List Item} {w : World} {v : Value} (hn : b.kind = .normal) (hi : P.inits.idxOf? b.fn = none) (hd : a.defers = []) (hf : P.funcs[b.fn]? = some fn)
    (hr : (results fn a.tmps).run P w = .ok v w) (he : (results fn a.tmps).events P w #[] = #[]) :
    stepG P true (G { b.at a todo with mode := .returning } []) w = .ended (.done v) w #[] := by
  simp [G, stepG, unwind, doReturn, Frame.at, hn, hd, hf, hr, he, hi, seen, GStep.after]
theorem noInit4 : Tryz.prog.inits.idxOf? 4 = none := by kernel_rfl
theorem outV1 {nn t a b c : Int} {gc : List Nat} {w : World} {x : Option Addr} {k cap : Nat} (h : OutV 1 nn t gc w (.agg #[.int .i64 a, .int .i64 b, .int .i64 c, .slice x k cap])) : a = t ∧ b = 1 ∧ c = nn ∧ x = none ∧ k = 0 ∧ cap = 0 := by
  rcases h with ⟨_, h⟩ | ⟨h, _⟩ | ⟨h, _⟩
  · simpa using h
  · simp at h
  · simp at h
theorem outV4 {nn t a b c : Int} {gc : List Nat} {w : World} {x : Option Addr} {k cap : Nat} (h : OutV 4 nn t gc w (.agg #[.int .i64 a, .int .i64 b, .int .i64 c, .slice x k cap])) : a = t ∧ b = 3 ∧ c = nn ∧ x = none ∧ k = 0 ∧ cap = 0 := by
  rcases h with ⟨h, _⟩ | ⟨h, _⟩ | ⟨_, h⟩
  · simp at h
  · simp at h
  · simpa using h
theorem outVE {kd nn t a b c : Int} {gc : List Nat} {w : World} {x : Option Addr} {k cap : Nat} (hk : kd = 2 ∨ kd = 3) (h : OutV kd nn t gc w (.agg #[.int .i64 a, .int .i64 b, .int .i64 c, .slice x k cap])) : ∃ g, a = t ∧ b = 2 ∧ c = 0 ∧ x = some ⟨g, 0, none⟩ ∧ k = 1 ∧ ChAt w g [.int .i64 (kd - 1), .int .i64 (-1), .int .i64 nn] := by
  rcases h with ⟨h, _⟩ | ⟨_, g, cp, h, _, h3⟩ | ⟨h, _⟩
  · omega
  · simp at h
    exact ⟨g, h.1, h.2.1, h.2.2.1, h.2.2.2.1, h.2.2.2.2.1, h3⟩
  · omega
theorem chk_ok {n : Nat} {g : Nat → Cl} (h : chk 0 (fun _ _ => 0) n g = (0, 0)) : n ≤ 9 ∧ ∀ j, j < n → (g j).good = true := by
  simp only [chk, badAt] at h
  by_cases h9 : 9 < n
  · simp [h9] at h
  · by_cases hb : badC g n 0 < n
    · simp [h9, hb] at h
    · have := badC_le g n 0
      exact ⟨by omega, fun j hj => badC_all g n 0 (by omega) j (by omega) (by omega)⟩
theorem chk_no {n : Nat} {g : Nat → Cl} (h : chk 0 (fun _ _ => 0) n g ≠ (0, 0)) : ¬ (chk 0 (fun _ _ => 0) n g).1 = 0 := by
  intro e
  apply h
  simp only [chk, badAt] at e ⊢
  by_cases h9 : 9 < n
  · simp [h9] at e
  · by_cases hb : badC g n 0 < n
    · simp [h9, hb] at e
    · simp [h9, hb]

section
variable {wI : World} {sa : Option Addr} {n cap : Nat} {g : Nat → Cl} {l : List Nat} {ng : Nat} {Post : Value → World → Prop}
theorem law_says {a' : Act} {todo : List Item} {w : World} (hpost : ∀ w', Old wI w' → Post (.bool true) w') (hr : ResultsC Tryz.prog Tryz.f4 a'.tmps (.bool true)) (hd : a'.defers = []) : At0 Tryz.prog Post (Old wI) (ShL l) ng (G { (base 4).at a' todo with mode := .returning } []) w := by
  refine At.endsK (v := .bool true) (es := #[]) rfl (fun d => ?_) (by simp) (fun d hK => ?_) old_at
  · exact stepG_top rfl noInit4 hd Tryz.func4 (hr _).1 (hr _).2
  · exact hpost _ hK

theorem law_loop (h : AskN wI sa n g) (wS w1 : World) (hl : ∀ B ∈ l, wI.heap.size ≤ B ∧ B < wS.heap.size) (h9 : n ≤ 9) (hgood : ∀ j, j < n → (g j).good = true) (hpost : ∀ w', Old wI w' → Post (.bool true) w') (A O nR : Nat) (xe : Option Addr) (ce : Nat) (ho : Old wI wS) (RN : RunN w1 n g A O (.slice xe (2 * n) ce) wS) (hO : O ∉ l) (r0 : wS.cell? ⟨nR, 0, none⟩ = some (.slice (some ⟨O, 0, none⟩) n n)) (r1 : wS.cell? ⟨nR, 1, none⟩ = some (.slice xe (2 * n) ce)) :
    ∀ (left k : Nat), k + left = n → ∀ {x1 x7 x8 x9 x10 x11 x12 x13 x14 x15 x16 x17 x18 x19 x20 x21 x22 x23 x24 x25 x26 x27 x28 x29 x30 x31 x32 x33 x34 x35 x36 x37 x38 x39 x40 x41 x42 x43 x44 x45 x46 x47 x48 x49 x50 x51 x52 x53 x54 x55 x56 x57 x58 x59 x60 x61 x62 x63 x64 x65 x66 x67 x68 x69 x70 x71 x72 x73 x74 x75 x76 x77 x78 x79 x80 x81 x82 x83 x84 x85 x86 x87 x88 x89 x90 x91 x92 x93 x94 x95 x96 x97 x98 x99 x100 x101 x102 x103 x104 x105 x106 x107 x108 x109 x110 x111 x112 x113 x114 x115 x116 : Value} (w : World), Kp [] wS w → At0 Tryz.prog Post (Old wI) (ShL l) ng (G ((base 4).at ⟨List.toArray (.slice sa n cap :: x1 :: .bool false :: .pointer (some ⟨nR, 0, none⟩) :: .bool true :: .bool true :: .int .i64 (k : Int) :: x7 :: x8 :: x9 :: x10 :: x11 :: x12 :: x13 :: x14 :: x15 :: x16 :: x17 :: x18 :: x19 :: x20 :: x21 :: x22 :: x23 :: x24 :: x25 :: x26 :: x27 :: x28 :: x29 :: x30 :: x31 :: x32 :: x33 :: x34 :: x35 :: x36 :: x37 :: x38 :: x39 :: x40 :: x41 :: x42 :: x43 :: x44 :: x45 :: x46 :: x47 :: x48 :: x49 :: x50 :: x51 :: x52 :: x53 :: x54 :: x55 :: x56 :: x57 :: x58 :: x59 :: x60 :: x61 :: x62 :: x63 :: x64 :: x65 :: x66 :: x67 :: x68 :: x69 :: x70 :: x71 :: x72 :: x73 :: x74 :: x75 :: x76 :: x77 :: x78 :: x79 :: x80 :: x81 :: x82 :: x83 :: x84 :: x85 :: x86 :: x87 :: x88 :: x89 :: x90 :: x91 :: x92 :: x93 :: x94 :: x95 :: x96 :: x97 :: x98 :: x99 :: x100 :: x101 :: x102 :: x103 :: x104 :: x105 :: x106 :: x107 :: x108 :: x109 :: x110 :: x111 :: x112 :: x113 :: x114 :: x115 :: x116 :: []), []⟩ [.code (loopIn (dropSeq 1 (fstSeq (dropSeq 3 (Tryz.f4.body.getD .skip))))), .inLoop (loopIn (dropSeq 1 (fstSeq (dropSeq 3 (Tryz.f4.body.getD .skip))))), .inBlock 0, .code (dropSeq 4 (Tryz.f4.body.getD .skip))]) []) w := by
  have F := fut0 (P := Tryz.prog) (Post := Post) (wI := wI) (l := l) ng; have okr : ∀ (b o : Nat), o ≠ 5 → o ≠ 6 → OkS wI.heap.size l [] ⟨b, o, none⟩ false := fun b o h5 h6 => ok_rd h5 h6
  have hsz : wI.heap.size ≤ wS.heap.size := ho.2.2.2.1; intro left
  induction left with
  | succ left ih =>
    intro k hkl x1 x7 x8 x9 x10 x11 x12 x13 x14 x15 x16 x17 x18 x19 x20 x21 x22 x23 x24 x25 x26 x27 x28 x29 x30 x31 x32 x33 x34 x35 x36 x37 x38 x39 x40 x41 x42 x43 x44 x45 x46 x47 x48 x49 x50 x51 x52 x53 x54 x55 x56 x57 x58 x59 x60 x61 x62 x63 x64 x65 x66 x67 x68 x69 x70 x71 x72 x73 x74 x75 x76 x77 x78 x79 x80 x81 x82 x83 x84 x85 x86 x87 x88 x89 x90 x91 x92 x93 x94 x95 x96 x97 x98 x99 x100 x101 x102 x103 x104 x105 x106 x107 x108 x109 x110 x111 x112 x113 x114 x115 x116 w kq; have hk : k < n := by omega
    obtain ⟨pb, po, rfl, l0, l1, hT⟩ := (h.hC.old ho).kp kq k hk; have hbC := h.bC _ rfl; dsimp only at hbC; have hrb : ∀ a : Addr, a.block = pb → OkS wI.heap.size l [] a false := fun a ha => ok_rdb (fun z => by have := (hl _ z).1; omega)
    obtain ⟨gc, hgc, a, b, c, x, kk, cp, o, hv⟩ := RN.out k hk; have p0 := kq.cell _ _ (by simp) o.c0; have p1 := kq.cell _ _ (by simp) o.c1; have p2 := kq.cell _ _ (by simp) o.c2; have p3 := kq.cell _ _ (by simp) o.c3; have c0 := kq.cell _ _ (by simp) r0; have c1 := kq.cell _ _ (by simp) r1; have hszk := kq.size; have lO : O < w.heap.size := lt_of_cell p0; have lR : nR < w.heap.size := lt_of_cell c0; have oO : ∀ i, OkS wI.heap.size l [] ⟨O, i, none⟩ false := fun i => ok_rdb hO
    have oO0 := oO (k * 4); have oO1 := oO (k * 4 + 1); have oO2 := oO (k * 4 + 2); have oO3 := oO (k * 4 + 3); have oR0 := okr nR 0 (by decide) (by decide); have oR1 := okr nR 1 (by decide) (by decide); have hk' : (k : Int) < (n : Int) := by omega
    have hk0 : (0 : Int) ≤ (k : Int) := by omega
    have hwk : IntKind.i64.wrap ((k : Int) + 1) = (k : Int) + 1 := wr (by omega) (by omega); obtain ⟨hkk, hk2, hk3, hk4, hk5⟩ := Cl.kd (hgood k hk); have hws : IntKind.i64.wrap ((g k).st + (g k).k2) = (g k).st + (g k).k2 := wr (by omega) (by omega); clear hk2 hk3 hk4 hk5; have hfr : ∀ (a : Addr) (wr : Bool), w.heap.size ≤ a.block → OkS wI.heap.size l [] a wr := fun a wr h => ok_fr (N := w.heap.size) (fun B hB => by have := (hl B hB).2; omega) (by omega) h (by simp) wr
    have hrt : 0 < (g k).nt → ∀ p : Addr, (g k).ta = some p → ∀ a : Addr, a.block = p.block → OkS wI.heap.size l [] a false := fun h0 p hp a ha => ok_rdb (fun z => by have := h.bT k hk h0 p hp; have := (hl _ z).1; omega)
    have a1 := addN pb po (k * 2); have a2 := addN O 0 (k * 4); have kp : Kp [] wS w := kq; clear o; unfold loopIn fstSeq dropSeq; refine F.sq ?_; refine F.sr ?_; simp only [rg, Nat.reduceAdd]; iterate 4 (refine F.oq rfl rfl rfl (by simp [go_sem]) fun d K h => ?_; go_simp; refine h _ ?_; clear h K d; try walk_nrm)
    refine F.re ?_; refine F.ct rfl ?_; refine F.sk ?_; refine F.sq ?_; refine F.bl ?_; refine F.sr ?_; simp only [rg, Nat.reduceAdd]; iterate 3 (refine F.oq rfl rfl rfl (fun _ => by first | (simp [go_sem]; done) | simp [go_sem, Instr.makeInterface, Instr.makeFunc, *]) fun d K hK => ?_; go_simp; refine hK _ ?_; clear hK K d; try walk_nrm)
    refine F.ol rfl rfl rfl fun d K hK => ?_
    go_simp; refine hK _ (fun e hm => ?_) ?_
    · simp [go_sem, *] at hm
      rcases hm with rfl | rfl <;> exact evr (w := w) (by assumption) (by first | assumption | exact hrb _ rfl | (apply hfr <;> dsimp only <;> omega))
    clear hK K d; try walk_nrm
    clear l1; refine F.enter rfl rfl (by decide) (fun _ => run_call_body rfl Tryz.func20 (by rfl) (by rfl)) (fun _ => events_call_body rfl Tryz.func20 (by rfl) (by rfl) _) ?_; walk_nrm; refine turn0_x (g k) w hT hrt hfr _ F _ _ (fun v w1 hp => ?_); obtain ⟨rfl, k1⟩ := hp; replace l0 := Kp.cellC k1 _ _ (by simp only [List.mem_cons, List.not_mem_nil, or_false, not_or]; first | omega | simp_all | (refine ⟨?_, ?_⟩ <;> first | omega | assumption) | assumption) (by first | (simp; done) | (simp; omega)) l0; replace p0 := Kp.cellC k1 _ _ (by simp only [List.mem_cons, List.not_mem_nil, or_false, not_or]; first | omega | simp_all | (refine ⟨?_, ?_⟩ <;> first | omega | assumption) | assumption) (by first | (simp; done) | (simp; omega)) p0; replace p1 := Kp.cellC k1 _ _ (by simp only [List.mem_cons, List.not_mem_nil, or_false, not_or]; first | omega | simp_all | (refine ⟨?_, ?_⟩ <;> first | omega | assumption) | assumption) (by first | (simp; done) | (simp; omega)) p1; replace p2 := Kp.cellC k1 _ _ (by simp only [List.mem_cons, List.not_mem_nil, or_false, not_or]; first | omega | simp_all | (refine ⟨?_, ?_⟩ <;> first | omega | assumption) | assumption) (by first | (simp; done) | (simp; omega)) p2; replace p3 := Kp.cellC k1 _ _ (by simp only [List.mem_cons, List.not_mem_nil, or_false, not_or]; first | omega | simp_all | (refine ⟨?_, ?_⟩ <;> first | omega | assumption) | assumption) (by first | (simp; done) | (simp; omega)) p3; replace c0 := Kp.cellC k1 _ _ (by simp only [List.mem_cons, List.not_mem_nil, or_false, not_or]; first | omega | simp_all | (refine ⟨?_, ?_⟩ <;> first | omega | assumption) | assumption) (by first | (simp; done) | (simp; omega)) c0
    replace c1 := Kp.cellC k1 _ _ (by simp only [List.mem_cons, List.not_mem_nil, or_false, not_or]; first | omega | simp_all | (refine ⟨?_, ?_⟩ <;> first | omega | assumption) | assumption) (by first | (simp; done) | (simp; omega)) c1; replace kp := kp.callN (k1) (by intro x hx; first | (exact absurd hx List.not_mem_nil) | (simp at hx; first | (left; simp [hx]; done) | (right; omega) | (rcases hx with rfl | hx <;> first | (left; simp; done) | (left; simp [hx]; done) | (right; omega)))) (by intro x hx; simp at hx; try (subst hx); first | (left; simp; done) | (right; left; simp; done) | (right; right; dsimp only; omega)); have hz1 := k1.size; replace hfr : ∀ (a : Addr) (wr : Bool), w1.heap.size ≤ a.block → OkS wI.heap.size l [] a wr := fun a wr h => hfr a wr (by omega)
    rw [Frame.finish_at]; try walk_nrm
    refine F.op rfl rfl (by decide) (fun d K hK => ?_); go_simp; rw [alloc_at']; refine hK _ _ ⟨DX.alloc _ _ (fun e he => ?_), ?_⟩
    · have hm := mem_listed he
      simp [go_sem] at hm
    clear hK K d; try walk_nrm
    generalize ew2 : World.alloc w1 _ = w2; generalize hn2 : (World.heap w1).size = n2; have sz2 := sz_al2 ew2 hn2; replace l0 := cl_al l0 ew2; replace p0 := cl_al p0 ew2; replace p1 := cl_al p1 ew2; replace p2 := cl_al p2 ew2; replace p3 := cl_al p3 ew2; replace c0 := cl_al c0 ew2; replace c1 := cl_al c1 ew2; have hu0 := cl_new (i := 0) ew2 hn2 rfl; have zu0 := fz_new ew2 hn2 0; have hu1 := cl_new (i := 1) ew2 hn2 rfl; have zu1 := fz_new ew2 hn2 1; have hu2 := cl_new (i := 2) ew2 hn2 rfl; have zu2 := fz_new ew2 hn2 2; try simp only [List.getElem_toArray, List.getElem_cons_zero, List.getElem_cons_succ] at hu0 hu1 hu2
    replace kp := kp.alN ew2; refine F.op rfl rfl (by decide) (fun d K hK => ?_); go_simp
    repeat rw [setCell_at']
    refine hK _ _ ⟨DX.set3 _ (by (first | assumption | exact hrb _ rfl | (apply hfr <;> dsimp only <;> omega))) (by (first | assumption | exact hrb _ rfl | (apply hfr <;> dsimp only <;> omega))) (by (first | assumption | exact hrb _ rfl | (apply hfr <;> dsimp only <;> omega))) (fun e he => ?_), ?_⟩
    · have hm := mem_listed he
      simp [go_sem, storedEv, evst_slice, evst_ptr, evst_iface, evst_nil, evst_bool, *] at hm; rcases hm with rfl | rfl | rfl <;> exact .inl ⟨_, rfl, rfl, by (first | assumption | exact hrb _ rfl | (apply hfr <;> dsimp only <;> omega)), by simp only [size_at, size_set]; first | omega | exact lt_of_cell (by assumption)⟩
    clear hK K d; try walk_nrm
    generalize ew3 : World.setCell w2 _ _ = w3; have sz3 := sz_st2 ew3; replace zu0 := fz_st zu0 ew3; replace zu1 := fz_st zu1 ew3; replace zu2 := fz_st zu2 ew3; replace l0 := cl_st l0 ew3 (by simp <;> omega); replace p0 := cl_st p0 ew3 (by simp <;> omega); replace p1 := cl_st p1 ew3 (by simp <;> omega); replace p2 := cl_st p2 ew3 (by simp <;> omega); replace p3 := cl_st p3 ew3 (by simp <;> omega); replace c0 := cl_st c0 ew3 (by simp <;> omega); replace c1 := cl_st c1 ew3 (by simp <;> omega); replace hu0 := cl_st' hu0 ew3; replace hu1 := cl_st hu1 ew3 (by simp <;> omega); replace hu2 := cl_st hu2 ew3 (by simp <;> omega); replace kp := kp.stN ew3 (by first | (left; simp; done) | (right; left; simp; done) | (right; right; dsimp only; omega)); generalize ew4 : World.setCell w3 _ _ = w4; have sz4 := sz_st2 ew4; replace zu0 := fz_st zu0 ew4; replace zu1 := fz_st zu1 ew4; replace zu2 := fz_st zu2 ew4; replace l0 := cl_st l0 ew4 (by simp <;> omega); replace p0 := cl_st p0 ew4 (by simp <;> omega); replace p1 := cl_st p1 ew4 (by simp <;> omega); replace p2 := cl_st p2 ew4 (by simp <;> omega); replace p3 := cl_st p3 ew4 (by simp <;> omega); replace c0 := cl_st c0 ew4 (by simp <;> omega); replace c1 := cl_st c1 ew4 (by simp <;> omega); replace hu0 := cl_st hu0 ew4 (by simp <;> omega)
    replace hu1 := cl_st' hu1 ew4; replace hu2 := cl_st hu2 ew4 (by simp <;> omega); replace kp := kp.stN ew4 (by first | (left; simp; done) | (right; left; simp; done) | (right; right; dsimp only; omega)); generalize ew5 : World.setCell w4 _ _ = w5; have sz5 := sz_st2 ew5; replace zu0 := fz_st zu0 ew5; replace zu1 := fz_st zu1 ew5; replace zu2 := fz_st zu2 ew5; replace l0 := cl_st l0 ew5 (by simp <;> omega); replace p0 := cl_st p0 ew5 (by simp <;> omega); replace p1 := cl_st p1 ew5 (by simp <;> omega); replace p2 := cl_st p2 ew5 (by simp <;> omega); replace p3 := cl_st p3 ew5 (by simp <;> omega); replace c0 := cl_st c0 ew5 (by simp <;> omega); replace c1 := cl_st c1 ew5 (by simp <;> omega); replace hu0 := cl_st hu0 ew5 (by simp <;> omega); replace hu1 := cl_st hu1 ew5 (by simp <;> omega); replace hu2 := cl_st' hu2 ew5; replace kp := kp.stN ew5 (by first | (left; simp; done) | (right; left; simp; done) | (right; right; dsimp only; omega)); refine F.esr ?_; simp only [rg, Nat.reduceAdd]; refine F.oq rfl rfl rfl (by simp [go_sem]) fun d K h => ?_; go_simp; refine h _ ?_; clear h K d; try walk_nrm
    refine F.ol rfl rfl rfl fun d K h => ?_; go_simp; refine h _ (fun e m => ?_) ?_; simp [go_sem, *] at m; subst m; exact evr (w := w5) (by assumption) (by first | assumption | exact hrb _ rfl | (apply hfr <;> dsimp only <;> omega)); clear h K d; try walk_nrm
    iterate 2 (refine F.oq rfl rfl rfl (fun _ => by first | (simp [go_sem]; done) | simp [go_sem, Instr.makeInterface, Instr.makeFunc, *]) fun d K hK => ?_; go_simp; refine hK _ ?_; clear hK K d; try walk_nrm)
    refine F.ol rfl rfl rfl fun d K hK => ?_
    go_simp; refine hK _ (fun e hm => ?_) ?_
    · simp [go_sem, *] at hm
      rcases hm with rfl | rfl | rfl | rfl <;> exact evr (w := w5) (by assumption) (by first | assumption | exact hrb _ rfl | (apply hfr <;> dsimp only <;> omega))
    clear hK K d; try walk_nrm
    refine F.op rfl rfl (by decide) (fun d K hK => ?_); go_simp; rw [alloc_at']; refine hK _ _ ⟨DX.alloc _ _ (fun e he => ?_), ?_⟩
    · have hm := mem_listed he
      simp [go_sem] at hm
    clear hK K d; try walk_nrm
    generalize ew6 : World.alloc w5 _ = w6; generalize hn6 : (World.heap w5).size = n6; have sz6 := sz_al2 ew6 hn6; replace zu0 := fz_al zu0 hu0 ew6; replace zu1 := fz_al zu1 hu1 ew6; replace zu2 := fz_al zu2 hu2 ew6; replace l0 := cl_al l0 ew6; replace p0 := cl_al p0 ew6; replace p1 := cl_al p1 ew6; replace p2 := cl_al p2 ew6; replace p3 := cl_al p3 ew6; replace c0 := cl_al c0 ew6; replace c1 := cl_al c1 ew6; replace hu0 := cl_al hu0 ew6; replace hu1 := cl_al hu1 ew6; replace hu2 := cl_al hu2 ew6; have ho0 := cl_new (i := 0) ew6 hn6 rfl; have zo0 := fz_new ew6 hn6 0; have ho1 := cl_new (i := 1) ew6 hn6 rfl; have zo1 := fz_new ew6 hn6 1; have ho2 := cl_new (i := 2) ew6 hn6 rfl; have zo2 := fz_new ew6 hn6 2; have ho3 := cl_new (i := 3) ew6 hn6 rfl; have zo3 := fz_new ew6 hn6 3; try simp only [List.getElem_toArray, List.getElem_cons_zero, List.getElem_cons_succ] at ho0 ho1 ho2 ho3
    replace kp := kp.alN ew6; refine F.op rfl rfl (by decide) (fun d K hK => ?_); go_simp
    repeat rw [setCell_at']
    refine hK _ _ ⟨DX.set4 _ (by (first | assumption | exact hrb _ rfl | (apply hfr <;> dsimp only <;> omega))) (by (first | assumption | exact hrb _ rfl | (apply hfr <;> dsimp only <;> omega))) (by (first | assumption | exact hrb _ rfl | (apply hfr <;> dsimp only <;> omega))) (by (first | assumption | exact hrb _ rfl | (apply hfr <;> dsimp only <;> omega))) (fun e he => ?_), ?_⟩
    · have hm := mem_listed he
      simp [go_sem, storedEv, evst_slice, evst_ptr, evst_iface, evst_nil, evst_bool, *] at hm; rcases hm with rfl | rfl | rfl | rfl <;> exact .inl ⟨_, rfl, rfl, by (first | assumption | exact hrb _ rfl | (apply hfr <;> dsimp only <;> omega)), by simp only [size_at, size_set]; first | omega | exact lt_of_cell (by assumption)⟩
    clear hK K d; try walk_nrm
    generalize ew7 : World.setCell w6 _ _ = w7; have sz7 := sz_st2 ew7; replace zu0 := fz_st zu0 ew7; replace zu1 := fz_st zu1 ew7; replace zu2 := fz_st zu2 ew7; replace zo0 := fz_st zo0 ew7; replace zo1 := fz_st zo1 ew7; replace zo2 := fz_st zo2 ew7; replace zo3 := fz_st zo3 ew7; replace l0 := cl_st l0 ew7 (by simp <;> omega); replace p0 := cl_st p0 ew7 (by simp <;> omega); replace p1 := cl_st p1 ew7 (by simp <;> omega); replace p2 := cl_st p2 ew7 (by simp <;> omega); replace p3 := cl_st p3 ew7 (by simp <;> omega); replace c0 := cl_st c0 ew7 (by simp <;> omega); replace c1 := cl_st c1 ew7 (by simp <;> omega); replace hu0 := cl_st hu0 ew7 (by simp <;> omega); replace hu1 := cl_st hu1 ew7 (by simp <;> omega); replace hu2 := cl_st hu2 ew7 (by simp <;> omega); replace ho0 := cl_st' ho0 ew7; replace ho1 := cl_st ho1 ew7 (by simp <;> omega); replace ho2 := cl_st ho2 ew7 (by simp <;> omega); replace ho3 := cl_st ho3 ew7 (by simp <;> omega); replace kp := kp.stN ew7 (by first | (left; simp; done) | (right; left; simp; done) | (right; right; dsimp only; omega)); generalize ew8 : World.setCell w7 _ _ = w8; have sz8 := sz_st2 ew8; replace zu0 := fz_st zu0 ew8; replace zu1 := fz_st zu1 ew8; replace zu2 := fz_st zu2 ew8; replace zo0 := fz_st zo0 ew8; replace zo1 := fz_st zo1 ew8; replace zo2 := fz_st zo2 ew8; replace zo3 := fz_st zo3 ew8
    replace l0 := cl_st l0 ew8 (by simp <;> omega); replace p0 := cl_st p0 ew8 (by simp <;> omega); replace p1 := cl_st p1 ew8 (by simp <;> omega); replace p2 := cl_st p2 ew8 (by simp <;> omega); replace p3 := cl_st p3 ew8 (by simp <;> omega); replace c0 := cl_st c0 ew8 (by simp <;> omega); replace c1 := cl_st c1 ew8 (by simp <;> omega); replace hu0 := cl_st hu0 ew8 (by simp <;> omega); replace hu1 := cl_st hu1 ew8 (by simp <;> omega); replace hu2 := cl_st hu2 ew8 (by simp <;> omega); replace ho0 := cl_st ho0 ew8 (by simp <;> omega); replace ho1 := cl_st' ho1 ew8; replace ho2 := cl_st ho2 ew8 (by simp <;> omega); replace ho3 := cl_st ho3 ew8 (by simp <;> omega); replace kp := kp.stN ew8 (by first | (left; simp; done) | (right; left; simp; done) | (right; right; dsimp only; omega)); generalize ew9 : World.setCell w8 _ _ = w9; have sz9 := sz_st2 ew9; replace zu0 := fz_st zu0 ew9; replace zu1 := fz_st zu1 ew9; replace zu2 := fz_st zu2 ew9; replace zo0 := fz_st zo0 ew9; replace zo1 := fz_st zo1 ew9; replace zo2 := fz_st zo2 ew9; replace zo3 := fz_st zo3 ew9; replace l0 := cl_st l0 ew9 (by simp <;> omega); replace p0 := cl_st p0 ew9 (by simp <;> omega); replace p1 := cl_st p1 ew9 (by simp <;> omega); replace p2 := cl_st p2 ew9 (by simp <;> omega); replace p3 := cl_st p3 ew9 (by simp <;> omega)
    replace c0 := cl_st c0 ew9 (by simp <;> omega); replace c1 := cl_st c1 ew9 (by simp <;> omega); replace hu0 := cl_st hu0 ew9 (by simp <;> omega); replace hu1 := cl_st hu1 ew9 (by simp <;> omega); replace hu2 := cl_st hu2 ew9 (by simp <;> omega); replace ho0 := cl_st ho0 ew9 (by simp <;> omega); replace ho1 := cl_st ho1 ew9 (by simp <;> omega); replace ho2 := cl_st' ho2 ew9; replace ho3 := cl_st ho3 ew9 (by simp <;> omega); replace kp := kp.stN ew9 (by first | (left; simp; done) | (right; left; simp; done) | (right; right; dsimp only; omega)); generalize ew10 : World.setCell w9 _ _ = w10; have sz10 := sz_st2 ew10; replace zu0 := fz_st zu0 ew10; replace zu1 := fz_st zu1 ew10; replace zu2 := fz_st zu2 ew10; replace zo0 := fz_st zo0 ew10; replace zo1 := fz_st zo1 ew10; replace zo2 := fz_st zo2 ew10; replace zo3 := fz_st zo3 ew10; replace l0 := cl_st l0 ew10 (by simp <;> omega); replace p0 := cl_st p0 ew10 (by simp <;> omega); replace p1 := cl_st p1 ew10 (by simp <;> omega); replace p2 := cl_st p2 ew10 (by simp <;> omega); replace p3 := cl_st p3 ew10 (by simp <;> omega); replace c0 := cl_st c0 ew10 (by simp <;> omega); replace c1 := cl_st c1 ew10 (by simp <;> omega); replace hu0 := cl_st hu0 ew10 (by simp <;> omega); replace hu1 := cl_st hu1 ew10 (by simp <;> omega)
    replace hu2 := cl_st hu2 ew10 (by simp <;> omega); replace ho0 := cl_st ho0 ew10 (by simp <;> omega); replace ho1 := cl_st ho1 ew10 (by simp <;> omega); replace ho2 := cl_st ho2 ew10 (by simp <;> omega); replace ho3 := cl_st' ho3 ew10; replace kp := kp.stN ew10 (by first | (left; simp; done) | (right; left; simp; done) | (right; right; dsimp only; omega)); refine F.esr ?_; simp only [rg, Nat.reduceAdd]; refine F.oq rfl rfl rfl (by simp [go_sem]) fun d K h => ?_; go_simp; refine h _ ?_; clear h K d; try walk_nrm
    refine F.es ?_; refine F.sr ?_; simp only [rg, Nat.reduceAdd]; refine F.oq rfl rfl rfl (by simp [go_sem]) fun d K h => ?_; go_simp; refine h _ ?_; clear h K d; try walk_nrm
    refine F.ol rfl rfl rfl fun d K h => ?_; go_simp; refine h _ (fun e m => ?_) ?_; simp [go_sem, *] at m; subst m; exact evr (w := w10) (by assumption) (by first | assumption | exact hrb _ rfl | (apply hfr <;> dsimp only <;> omega)); clear h K d; try walk_nrm
    refine F.re ?_; obtain hkd | hkd | hkd | hkd := hkk
    · rw [hkd] at hu0 hv
      obtain ⟨rfl, rfl, rfl, rfl, rfl, rfl⟩ := outV1 hv; clear hv; refine F.bl ?_; refine F.sq ?_; refine F.sr ?_; simp only [rg, Nat.reduceAdd]; iterate 2 (refine F.oq rfl rfl rfl (by simp [go_sem]) fun d K h => ?_; go_simp; refine h _ ?_; clear h K d; try walk_nrm)
      refine F.re ?_; refine F.cf rfl ?_; refine F.rr ?_; simp only [rg, Nat.reduceAdd]; iterate 2 (refine F.oq rfl rfl rfl (by simp [go_sem]) fun d K h => ?_; go_simp; refine h _ ?_; clear h K d; try walk_nrm)
      refine F.re ?_; refine F.cf rfl ?_; refine F.sr ?_; simp only [rg, Nat.reduceAdd]; iterate 2 (refine F.oq rfl rfl rfl (by simp [go_sem]) fun d K h => ?_; go_simp; refine h _ ?_; clear h K d; try walk_nrm)
      refine F.re ?_; refine F.cf rfl ?_; refine F.sk ?_; refine F.ib ?_; exact stepV F pb po n cap k nR n2 n6 (g k).st (g k).k1 (g k).k2 1 1 w10 hk' hk0 hwk hws okr hrb l0 hu0 hu1 hu2 ho0 ho1 rfl rfl ho2 (fun _ _ _ _ _ _ _ _ _ _ _ _ _ _ _ _ _ _ _ _ _ _ _ _ _ _ _ _ _ _ _ _ _ _ _ _ _ _ _ _ _ _ _ _ _ _ _ _ _ _ _ _ _ _ _ _ _ _ _ _ _ _ _ _ _ _ _ _ _ _ _ _ _ _ _ _ _ _ _ _ _ _ _ _ _ _ _ _ _ _ _ _ _ _ _ _ _ _ _ _ _ _ _ _ _ _ _ _ _ _ _ => ih (k + 1) (by omega) _ kp)
    · rw [hkd] at hu0 hv
      obtain ⟨gg, rfl, rfl, rfl, rfl, rfl, hch⟩ := outVE (.inl rfl) hv; clear hv; have g0 := kp.cell _ _ (by simp) (hch 0 _ rfl); have g1 := kp.cell _ _ (by simp) (hch 1 _ rfl); have g2 := kp.cell _ _ (by simp) (hch 2 _ rfl); refine F.bl ?_; refine F.sq ?_; refine F.sr ?_; simp only [rg, Nat.reduceAdd]; iterate 2 (refine F.oq rfl rfl rfl (by simp [go_sem]) fun d K h => ?_; go_simp; refine h _ ?_; clear h K d; try walk_nrm)
      refine F.re ?_; refine F.ct rfl ?_; refine F.sk ?_; refine F.ct rfl ?_; refine F.rr ?_; simp only [rg, Nat.reduceAdd]; refine F.oq rfl rfl rfl (by simp [go_sem]) fun d K h => ?_; go_simp; refine h _ ?_; clear h K d; try walk_nrm
      refine F.re ?_; refine F.ib ?_; exact stepE F pb po n cap k nR n2 n6 (g k).st (g k).k1 (g k).k2 2 w10 hk' hk0 hwk hws okr hrb l0 hu0 hu1 hu2 ho0 ho1 rfl gg _ ho3 g0 g1 g2 (fun _ _ _ _ _ _ _ _ _ _ _ _ _ _ _ _ _ _ _ _ _ _ _ _ _ _ _ _ _ _ _ _ _ _ _ _ _ _ _ _ _ _ _ _ _ _ _ _ _ _ _ _ _ _ _ _ _ _ _ _ _ _ _ _ _ _ _ _ _ _ _ _ _ _ _ _ _ _ _ _ _ _ _ _ _ _ _ _ _ _ _ _ _ _ _ _ _ _ _ _ _ _ _ _ _ _ _ _ _ _ _ => ih (k + 1) (by omega) _ kp)
    · rw [hkd] at hu0 hv
      obtain ⟨gg, rfl, rfl, rfl, rfl, rfl, hch⟩ := outVE (.inr rfl) hv; clear hv; have g0 := kp.cell _ _ (by simp) (hch 0 _ rfl); have g1 := kp.cell _ _ (by simp) (hch 1 _ rfl); have g2 := kp.cell _ _ (by simp) (hch 2 _ rfl); refine F.bl ?_; refine F.sq ?_; refine F.sr ?_; simp only [rg, Nat.reduceAdd]; iterate 2 (refine F.oq rfl rfl rfl (by simp [go_sem]) fun d K h => ?_; go_simp; refine h _ ?_; clear h K d; try walk_nrm)
      refine F.re ?_; refine F.cf rfl ?_; refine F.rr ?_; simp only [rg, Nat.reduceAdd]; iterate 2 (refine F.oq rfl rfl rfl (by simp [go_sem]) fun d K h => ?_; go_simp; refine h _ ?_; clear h K d; try walk_nrm)
      refine F.re ?_; refine F.ct rfl ?_; refine F.rr ?_; simp only [rg, Nat.reduceAdd]; refine F.oq rfl rfl rfl (by simp [go_sem]) fun d K h => ?_; go_simp; refine h _ ?_; clear h K d; try walk_nrm
      refine F.re ?_; refine F.ib ?_; exact stepE F pb po n cap k nR n2 n6 (g k).st (g k).k1 (g k).k2 3 w10 hk' hk0 hwk hws okr hrb l0 hu0 hu1 hu2 ho0 ho1 rfl gg _ ho3 g0 g1 g2 (fun _ _ _ _ _ _ _ _ _ _ _ _ _ _ _ _ _ _ _ _ _ _ _ _ _ _ _ _ _ _ _ _ _ _ _ _ _ _ _ _ _ _ _ _ _ _ _ _ _ _ _ _ _ _ _ _ _ _ _ _ _ _ _ _ _ _ _ _ _ _ _ _ _ _ _ _ _ _ _ _ _ _ _ _ _ _ _ _ _ _ _ _ _ _ _ _ _ _ _ _ _ _ _ _ _ _ _ _ _ _ _ => ih (k + 1) (by omega) _ kp)
    · rw [hkd] at hu0 hv
      obtain ⟨rfl, rfl, rfl, rfl, rfl, rfl⟩ := outV4 hv; clear hv; refine F.bl ?_; refine F.sq ?_; refine F.sr ?_; simp only [rg, Nat.reduceAdd]; iterate 2 (refine F.oq rfl rfl rfl (by simp [go_sem]) fun d K h => ?_; go_simp; refine h _ ?_; clear h K d; try walk_nrm)
      refine F.re ?_; refine F.cf rfl ?_; refine F.rr ?_; simp only [rg, Nat.reduceAdd]; iterate 2 (refine F.oq rfl rfl rfl (by simp [go_sem]) fun d K h => ?_; go_simp; refine h _ ?_; clear h K d; try walk_nrm)
      refine F.re ?_; refine F.cf rfl ?_; refine F.sr ?_; simp only [rg, Nat.reduceAdd]; iterate 2 (refine F.oq rfl rfl rfl (by simp [go_sem]) fun d K h => ?_; go_simp; refine h _ ?_; clear h K d; try walk_nrm)
      refine F.re ?_; refine F.ct rfl ?_; refine F.rr ?_; simp only [rg, Nat.reduceAdd]; refine F.oq rfl rfl rfl (by simp [go_sem]) fun d K h => ?_; go_simp; refine h _ ?_; clear h K d; try walk_nrm
      refine F.re ?_; refine F.ib ?_; exact stepV F pb po n cap k nR n2 n6 (g k).st (g k).k1 (g k).k2 4 3 w10 hk' hk0 hwk hws okr hrb l0 hu0 hu1 hu2 ho0 ho1 rfl rfl ho2 (fun _ _ _ _ _ _ _ _ _ _ _ _ _ _ _ _ _ _ _ _ _ _ _ _ _ _ _ _ _ _ _ _ _ _ _ _ _ _ _ _ _ _ _ _ _ _ _ _ _ _ _ _ _ _ _ _ _ _ _ _ _ _ _ _ _ _ _ _ _ _ _ _ _ _ _ _ _ _ _ _ _ _ _ _ _ _ _ _ _ _ _ _ _ _ _ _ _ _ _ _ _ _ _ _ _ _ _ _ _ _ _ => ih (k + 1) (by omega) _ kp)
  | zero =>
    intro k hkl x1 x7 x8 x9 x10 x11 x12 x13 x14 x15 x16 x17 x18 x19 x20 x21 x22 x23 x24 x25 x26 x27 x28 x29 x30 x31 x32 x33 x34 x35 x36 x37 x38 x39 x40 x41 x42 x43 x44 x45 x46 x47 x48 x49 x50 x51 x52 x53 x54 x55 x56 x57 x58 x59 x60 x61 x62 x63 x64 x65 x66 x67 x68 x69 x70 x71 x72 x73 x74 x75 x76 x77 x78 x79 x80 x81 x82 x83 x84 x85 x86 x87 x88 x89 x90 x91 x92 x93 x94 x95 x96 x97 x98 x99 x100 x101 x102 x103 x104 x105 x106 x107 x108 x109 x110 x111 x112 x113 x114 x115 x116 w kq; obtain rfl : k = n := by omega
    have c1 := kq.cell _ _ (by simp) r1; have oR1 := okr nR 1 (by decide) (by decide); have hw2 : IntKind.i64.wrap (2 * (k : Int)) = 2 * (k : Int) := wr (by omega) (by omega); unfold loopIn fstSeq dropSeq; refine F.sq ?_; refine F.sr ?_; simp only [rg, Nat.reduceAdd]; iterate 4 (refine F.oq rfl rfl rfl (by simp [go_sem]) fun d K h => ?_; go_simp; refine h _ ?_; clear h K d; try walk_nrm)
    refine F.re ?_; refine F.cf rfl ?_; refine F.ctl (fun _ => stepG_exit rfl) ?_; refine F.sr ?_; simp only [rg, Nat.reduceAdd]; iterate 3 (refine F.oq rfl rfl rfl (by simp [go_sem]) fun d K h => ?_; go_simp; refine h _ ?_; clear h K d; try walk_nrm)
    refine F.ol rfl rfl rfl fun d K h => ?_; go_simp; refine h _ (fun e m => ?_) ?_; simp [go_sem, *] at m; subst m; exact evr (w := w) (by assumption) (by first | assumption | exact hrb _ rfl | (apply hfr <;> dsimp only <;> omega)); clear h K d; try walk_nrm
    iterate 7 (refine F.oq rfl rfl rfl (by simp [go_sem]) fun d K h => ?_; go_simp; refine h _ ?_; clear h K d; try walk_nrm)
    refine F.re ?_; refine F.ctl (fun _ => stepG_ret') ?_; exact law_says hpost (resultsC_tmp (fn := Tryz.f4) (t := 2) (by rfl) _) rfl
end
end
section
open Go.Conc Go.RowKit
open Go.ConcN (sumTo upd sumTo_upd upd_ne upd_same)

section
variable {wI : World} {sa : Option Addr} {n cap : Nat} {g : Nat → Cl} {Post : Value → World → Prop}
theorem unlayered_at (h : AskN wI sa n g) (hpost : ∀ w', Old wI w' → Post (.bool true) w') :
    At0 Tryz.prog Post (Old wI) (ShL []) 1 (G (Frame.enter Tryz.prog 4 #[.slice sa n cap] .normal) []) wI := by
  have F := fut0 (P := Tryz.prog) (Post := Post) (wI := wI) (l := []) 1; rw [enter_at _ Tryz.func4 rfl]; simp only [Tryz.ntmps4, List.size_toArray, List.length_cons, List.length_nil, Nat.reduceAdd, Nat.reduceSub, Array.replicate_succ, Array.replicate_zero, List.push_toArray, List.append_toArray, List.nil_append, List.cons_append]; refine F.sr ?_; simp only [rg, Nat.reduceAdd]; refine F.oq rfl rfl rfl (by simp [go_sem]) fun d K h => ?_; go_simp; refine h _ ?_; clear h K d; try walk_nrm
  refine F.esr ?_; simp only [rg, Nat.reduceAdd]; refine F.oq rfl rfl rfl (by simp [go_sem]) fun d K h => ?_; go_simp; refine h _ ?_; clear h K d; try walk_nrm
  refine F.enter rfl rfl (by decide) (fun _ => run_call_body rfl Tryz.func19 (by rfl) (by rfl)) (fun _ => events_call_body rfl Tryz.func19 (by rfl) (by rfl) _) ?_; walk_nrm
  by_cases hck : chk 0 (fun _ _ => 0) n g = (0, 0)
  · obtain ⟨h9, hgood⟩ := chk_ok hck
    refine reportN_at h wI _ _ h9 hgood hck (fun ng l A O ev w' hng hl RN hO hA hOl => ?_); obtain ⟨N, m, _, _, hrow, _⟩ := id RN.ev; obtain ⟨xe, ce, rfl⟩ := row_form hrow; clear hrow F; have F := fut0 (P := Tryz.prog) (Post := Post) (wI := wI) (l := l) ng; have hsz : wI.heap.size ≤ w'.heap.size := hO.2.2.2.1; have hfr : ∀ (a : Addr) (wr : Bool), w'.heap.size ≤ a.block → OkS wI.heap.size l [] a wr := fun a wr h => ok_fr (N := w'.heap.size) (fun B hB => (hl B hB).2) hsz h (by simp) wr
    have kp : Kp [] w' w' := Kp.refl _; have lO := RN.lO; have lA := RN.lA; rw [Frame.finish_at]; try walk_nrm
    iterate 4 (refine F.oq rfl rfl rfl (by simp [go_sem]) fun d K h => ?_; go_simp; refine h _ ?_; clear h K d; try walk_nrm)
    refine F.op rfl rfl (by decide) (fun d K hK => ?_); go_simp; rw [alloc_at']; refine hK _ _ ⟨DX.alloc _ _ (fun e he => ?_), ?_⟩
    · have hm := mem_listed he
      simp [go_sem] at hm
    clear hK K d; try walk_nrm
    generalize ew1 : World.alloc w' _ = w1; generalize hn1 : (World.heap w').size = n1; have sz1 := sz_al2 ew1 hn1; have hs0 := cl_new (i := 0) ew1 hn1 rfl; have zs0 := fz_new ew1 hn1 0; have hs1 := cl_new (i := 1) ew1 hn1 rfl; have zs1 := fz_new ew1 hn1 1; try simp only [List.getElem_toArray, List.getElem_cons_zero, List.getElem_cons_succ] at hs0 hs1
    replace kp := kp.alN ew1; refine F.op rfl rfl (by decide) (fun d K hK => ?_); go_simp
    repeat rw [setCell_at']
    refine hK _ _ ⟨DX.set2 _ (by (first | assumption | (apply hfr <;> dsimp only <;> omega))) (by (first | assumption | (apply hfr <;> dsimp only <;> omega))) (fun e he => ?_), ?_⟩
    · have hm := mem_listed he
      simp [go_sem, storedEv, evst_slice, evst_ptr, evst_iface, evst_nil, evst_bool, *] at hm; rcases hm with rfl | rfl <;> exact .inl ⟨_, rfl, rfl, by (first | assumption | (apply hfr <;> dsimp only <;> omega)), by simp only [size_at, size_set]; first | omega | exact lt_of_cell (by assumption)⟩
    clear hK K d; try walk_nrm
    generalize ew2 : World.setCell w1 _ _ = w2; have sz2 := sz_st2 ew2; replace zs0 := fz_st zs0 ew2; replace zs1 := fz_st zs1 ew2; replace hs0 := cl_st' hs0 ew2; replace hs1 := cl_st hs1 ew2 (by simp <;> omega); replace kp := kp.stN ew2 (by first | (left; simp; done) | (right; left; simp; done) | (right; right; dsimp only; omega)); generalize ew3 : World.setCell w2 _ _ = w3; have sz3 := sz_st2 ew3; replace zs0 := fz_st zs0 ew3; replace zs1 := fz_st zs1 ew3; replace hs0 := cl_st hs0 ew3 (by simp <;> omega); replace hs1 := cl_st' hs1 ew3; replace kp := kp.stN ew3 (by first | (left; simp; done) | (right; left; simp; done) | (right; right; dsimp only; omega)); iterate 2 (refine F.oq rfl rfl rfl (by simp [go_sem]) fun d K h => ?_; go_simp; refine h _ ?_; clear h K d; try walk_nrm)
    refine F.es ?_; refine F.sr ?_; simp only [rg, Nat.reduceAdd]; iterate 2 (refine F.oq rfl rfl rfl (by simp [go_sem]) fun d K h => ?_; go_simp; refine h _ ?_; clear h K d; try walk_nrm)
    refine F.re ?_; refine F.cf rfl ?_; refine F.sk ?_; refine F.sq ?_; refine F.sr ?_; simp only [rg, Nat.reduceAdd]; refine F.oq rfl rfl rfl (by simp [go_sem]) fun d K h => ?_; go_simp; refine h _ ?_; clear h K d; try walk_nrm
    refine F.re ?_; refine F.bl ?_; refine F.ctl (fun _ => stepG_loop) ?_; have hks := kp.size; refine At.assume old_at (fun hO2 => ?_); exact law_loop h w3 wI (fun B hB => by have := hl B hB; omega) h9 hgood hpost A O n1 xe ce hO2 (RN.kp kp (by simp) hO2 (Nat.le_refl _)) hOl hs0 hs1 n 0 (by omega) _ (Kp.refl _)
  · refine reportE_at h wI _ _ _ _ rfl (chk_no hck) (fun ng l w' hng hl hO => ?_)
    clear F; have F := fut0 (P := Tryz.prog) (Post := Post) (wI := wI) (l := l) ng; have hsz : wI.heap.size ≤ w'.heap.size := hO.2.2.2.1; have hfr : ∀ (a : Addr) (wr : Bool), w'.heap.size ≤ a.block → OkS wI.heap.size l [] a wr := fun a wr h => ok_fr (N := w'.heap.size) (fun B hB => (hl B hB).2) hsz h (by simp) wr
    have kp : Kp [] w' w' := Kp.refl _; rw [Frame.finish_at]; try walk_nrm
    iterate 4 (refine F.oq rfl rfl rfl (by simp [go_sem]) fun d K h => ?_; go_simp; refine h _ ?_; clear h K d; try walk_nrm)
    refine F.op rfl rfl (by decide) (fun d K hK => ?_); go_simp; rw [alloc_at']; refine hK _ _ ⟨DX.alloc _ _ (fun e he => ?_), ?_⟩
    · have hm := mem_listed he
      simp [go_sem] at hm
    clear hK K d; try walk_nrm
    generalize ew1 : World.alloc w' _ = w1; generalize hn1 : (World.heap w').size = n1; have sz1 := sz_al2 ew1 hn1; have hs0 := cl_new (i := 0) ew1 hn1 rfl; have zs0 := fz_new ew1 hn1 0; have hs1 := cl_new (i := 1) ew1 hn1 rfl; have zs1 := fz_new ew1 hn1 1; try simp only [List.getElem_toArray, List.getElem_cons_zero, List.getElem_cons_succ] at hs0 hs1
    replace kp := kp.alN ew1; refine F.op rfl rfl (by decide) (fun d K hK => ?_); go_simp
    repeat rw [setCell_at']
    refine hK _ _ ⟨DX.set2 _ (by (first | assumption | (apply hfr <;> dsimp only <;> omega))) (by (first | assumption | (apply hfr <;> dsimp only <;> omega))) (fun e he => ?_), ?_⟩
    · have hm := mem_listed he
      simp [go_sem, storedEv, evst_slice, evst_ptr, evst_iface, evst_nil, evst_bool, *] at hm; rcases hm with rfl | rfl <;> exact .inl ⟨_, rfl, rfl, by (first | assumption | (apply hfr <;> dsimp only <;> omega)), by simp only [size_at, size_set]; first | omega | exact lt_of_cell (by assumption)⟩
    clear hK K d; try walk_nrm
    generalize ew2 : World.setCell w1 _ _ = w2; have sz2 := sz_st2 ew2; replace zs0 := fz_st zs0 ew2; replace zs1 := fz_st zs1 ew2; replace hs0 := cl_st' hs0 ew2; replace hs1 := cl_st hs1 ew2 (by simp <;> omega); replace kp := kp.stN ew2 (by first | (left; simp; done) | (right; left; simp; done) | (right; right; dsimp only; omega)); generalize ew3 : World.setCell w2 _ _ = w3; have sz3 := sz_st2 ew3; replace zs0 := fz_st zs0 ew3; replace zs1 := fz_st zs1 ew3; replace hs0 := cl_st hs0 ew3 (by simp <;> omega); replace hs1 := cl_st' hs1 ew3; replace kp := kp.stN ew3 (by first | (left; simp; done) | (right; left; simp; done) | (right; right; dsimp only; omega)); iterate 2 (refine F.oq rfl rfl rfl (by simp [go_sem]) fun d K h => ?_; go_simp; refine h _ ?_; clear h K d; try walk_nrm)
    refine F.es ?_; refine F.sr ?_; simp only [rg, Nat.reduceAdd]; iterate 2 (refine F.oq rfl rfl rfl (by simp [go_sem]) fun d K h => ?_; go_simp; refine h _ ?_; clear h K d; try walk_nrm)
    refine F.re ?_; refine F.ct rfl ?_; refine F.sr ?_; simp only [rg, Nat.reduceAdd]; iterate 2 (refine F.oq rfl rfl rfl (by simp [go_sem]) fun d K h => ?_; go_simp; refine h _ ?_; clear h K d; try walk_nrm)
    refine F.re ?_; refine F.ctl (fun _ => stepG_ret') ?_; exact law_says hpost (resultsC_tmp (fn := Tryz.f4) (t := 2) (by rfl) _) rfl
end
end
end Go.Proofs.YtobagnjnbmgidaaGreatDoor
