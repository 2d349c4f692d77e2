/- A run of one client, as goroutine 0 goes it. -/
import Derived.Test.YtobagnjnbmgidaaGreatDoorX49
import Derived.Test.YtobagnjnbmgidaaGreatDoorX38
set_option linter.unusedSimpArgs false
set_option linter.unusedVariables false
namespace Go.Proofs.YtobagnjnbmgidaaGreatDoor
open Go.Conc Go.RowKit
open Go.ConcN (sumTo upd sumTo_upd upd_ne upd_same)

/-- Places that nobody has touched may be shunned from here on. -/
theorem At.shun {P : Program} {Post : Value → World → Prop} {K : World → Prop} {Shun Shun' Still : Loc → Prop} {Mem : Nat → Prop} {Inb : Nat → Option Seat} {h n : Nat} {g : Goroutine} {w : World} (h3 : ∀ x, Shun x → Shun' x) (h4 : ∀ x, Shun' x → Shun x ∨ New w.heap.size x) (H : At P Post K Shun' Still Mem Inb h n g w) : At P Post K Shun Still Mem Inb h n g w :=
  fun d gs T q sl hn hg C => H d gs T q sl hn hg (R2.grow C (fun _ x => x) (fun _ x => .inl x) h3 h4)

theorem ch_ne {w : World} {c b i : Nat} {v : Value} (h : OpenCh w c) (hc : w.cell? ⟨b, i, none⟩ = some v) : b ≠ c := fun z => by
  subst z
  unfold OpenCh at h
  simp only [World.cell?, h] at hc
  simp at hc

theorem ok_old {N0 : Nat} {l : List Nat} {st : List (Addr × Value)} (hl : ∀ B ∈ l, N0 ≤ B) {a : Addr} (ha : a.block < N0) : OkS N0 l st a false :=
  ⟨fun ⟨B, hB, z⟩ => by have := hl B hB; rcases z with z | z <;> (simp at z; subst z; dsimp only at ha; omega), fun h => by cases h⟩
theorem row_form {w : World} {base ty sz m : Nat} {v : Value} {xs : List Value} (h : w.ownsRow base ty sz v m xs) : ∃ x c, v = .slice x m c := by
  rcases h.2 with ⟨h1, h2⟩ | ⟨g, cap, cur, h1, _⟩
  · exact ⟨none, 0, by rw [h1, h2]⟩
  · exact ⟨_, cap, h1⟩

section
variable {wI : World} {l : List Nat} {n : Nat} {Post : Value → World → Prop}

set_option maxRecDepth 100000 in
set_option maxHeartbeats 8000000 in
theorem run24_at (Lv tv : Value) (C ty : Nat) (tm kd nn tm' at' : Int) (SQ : Nat → Nat → Nat → Nat → Nat → World → Prop) (Cx : Nat → Option Addr → Nat → Nat → World → Prop) (Mx : List Value → Prop) (w0 : World) (cR : Frame) (csR : List Frame)
    (hn : 0 < n) (hI : wI.heap.size ≤ w0.heap.size) (hl : ∀ B ∈ l, wI.heap.size ≤ B ∧ B < w0.heap.size) (hC0 : w0.cell? ⟨C, 0, none⟩ = some (.int .i64 at')) (tx : Option Addr) (tn tc : Nat) (hC1 : w0.cell? ⟨C, 1, none⟩ = some (.slice tx tn tc))
    (hchk : ∀ w, Kp [] w0 w → CallsX Tryz.prog true (DX (OkS wI.heap.size l [])) 16 #[Lv, .slice (some ⟨C, 0, none⟩) 1 1] w fun v w' => v = .tuple #[.int .i64 0, .int .i64 0] ∧ Kp [] w w')
    (hst : ∀ w J, Kp [] w0 w → w0.heap.size ≤ J → CallsX Tryz.prog true (DX (OkS wI.heap.size l [])) 34 #[Lv, .slice (some ⟨C, 0, none⟩) 1 1, .pointer (some ⟨J, 0, none⟩)] w fun v w' => ∃ HD X, v = .iface ty (.pointer (some ⟨X, 0, none⟩)) ∧ Kp [] w w' ∧ w.heap.size ≤ HD ∧ HD < w'.heap.size ∧ SQ w.heap.size w'.heap.size J HD X w')
    (hSQ : ∀ b s J HD X w w' L, SQ b s J HD X w → Kp [] w w' L → (∀ x ∈ L, s ≤ x.block) → SQ b s J HD X w')
    (hCx : ∀ N x q cap w w' L C, Kp L w w' C → (∀ y ∈ L, y < N) → (∀ y ∈ C, y.block < N) → Cx N x q cap w → Cx N x q cap w')
    (h38 : ∀ (e : Env) (Ok : Addr → Bool → Prop) (w : World) (b s HD X : Nat) (en1 : Value), EnvOk e Ok → e.cl = 0 → CW e w at' en1 (.slice none 0 0) [] → SQ b s e.J HD X w → w0.heap.size ≤ e.J → e.J < b → b ≤ HD → HD < s → s ≤ e.A → s ≤ e.T → s ≤ e.N → (∀ a wr, wI.heap.size ≤ a.block → a.block < s → a.block ∉ l → Ok a wr) → (∀ k, Ok ⟨k, 0, none⟩ false) → (∀ a : Addr, a.block < wI.heap.size → Ok a false) → w0.heap.size ≤ b →
      CallsW e Ok 38 #[.iface ty (.pointer (some ⟨X, 0, none⟩)), .pointer (some ⟨e.T, 0, none⟩)] w fun v w' => ∃ x q cap, v = .agg #[.int .i64 tm, .int .i64 kd, .int .i64 nn, .slice x q cap] ∧ Cx e.N x q cap w' ∧ ∃ en' ev' m, Mx m ∧ CW e w' tm' en' ev' m ∧ Ru e HD w en1 (.slice none 0 0) w' en' ev')
    (hret : ∀ (A O N : Nat) (x : Option Addr) (q cap : Nat) (xe : Option Addr) (m ce : Nat) (xs : List Value) (w' : World), w0.heap.size ≤ A → A < w'.heap.size → w0.heap.size ≤ O → w0.heap.size ≤ N → A < N → Cx N x q cap w' → Mx xs → m * 5 = xs.length → (0 < m → ∃ g, xe = some ⟨g, 0, none⟩ ∧ N ≤ g ∧ ChAt w' g xs) → w'.cell? ⟨O, 0, none⟩ = some (.int .i64 tm) → w'.cell? ⟨O, 1, none⟩ = some (.int .i64 kd) → w'.cell? ⟨O, 2, none⟩ = some (.int .i64 nn) → w'.cell? ⟨O, 3, none⟩ = some (.slice x q cap) → Stay [] w0.heap.size w0 w' → w0.heap.size ≤ w'.heap.size →
      At0 Tryz.prog Post (Old wI) (ShL (A :: l)) (n + 1) (G (cR.finish (.tuple #[.agg #[.slice (some ⟨O, 0, none⟩) 1 1, .slice xe m ce], .int .i64 0, .int .i64 0])) csR) w') :
    At0 Tryz.prog Post (Old wI) (ShL l) n (G (Frame.enter Tryz.prog 24 #[Lv, .slice (some ⟨C, 0, none⟩) 1 1] .normal) (cR :: csR)) w0 := by
  have lC := lt_of_cell hC0
  dsimp only at lC
  have F := fut0 (P := Tryz.prog) (Post := Post) (wI := wI) (l := l) n
  have hfr : ∀ (a : Addr) (wr : Bool), w0.heap.size ≤ a.block → OkS wI.heap.size l [] a wr := fun a wr h => ok_fr (N := w0.heap.size) (fun B hB => (hl B hB).2) (by omega) h (by simp) wr
  have kp : Kp [] w0 w0 := Kp.refl _
  rw [enter_at _ Tryz.func24 rfl]
  simp only [Tryz.ntmps24, List.size_toArray, List.length_cons, List.length_nil, Nat.reduceAdd, Nat.reduceSub, Array.replicate_succ, Array.replicate_zero, List.push_toArray, List.append_toArray, List.nil_append, List.cons_append]
  refine F.sr ?_
  simp only [rg, Nat.reduceAdd]
  refine F.op rfl rfl (by decide) (fun d K hK => ?_)
  go_simp
  rw [alloc_at']
  refine hK _ _ ⟨DX.alloc _ _ (fun e he => ?_), ?_⟩
  · have hm := mem_listed he
    simp [go_sem] at hm
  clear hK K d
  try walk_nrm
  generalize ew1 : World.alloc w0 _ = w1
  generalize hn1 : (World.heap w0).size = n1
  have sz1 := sz_al2 ew1 hn1
  replace hC0 := cl_al hC0 ew1
  replace hC1 := cl_al hC1 ew1
  have hr0 := cl_new (i := 0) ew1 hn1 rfl
  have zr0 := fz_new ew1 hn1 0
  have hr1 := cl_new (i := 1) ew1 hn1 rfl
  have zr1 := fz_new ew1 hn1 1
  try simp only [List.getElem_toArray, List.getElem_cons_zero, List.getElem_cons_succ] at hr0 hr1
  replace kp := kp.alN ew1
  iterate 2 (refine F.oq rfl rfl rfl (by simp [go_sem]) fun d K h => ?_; go_simp; refine h _ ?_; clear h K d; try walk_nrm)
  refine F.es ?_
  refine F.sr ?_
  simp only [rg, Nat.reduceAdd]
  iterate 2 (refine F.oq rfl rfl rfl (by simp [go_sem]) fun d K h => ?_; go_simp; refine h _ ?_; clear h K d; try walk_nrm)
  refine F.enter rfl rfl (by decide) (fun _ => run_call_body rfl Tryz.func16 (by rfl) (by rfl)) (fun _ => events_call_body rfl Tryz.func16 (by rfl) (by rfl) _) ?_
  walk_nrm
  refine hchk w1 kp _ F _ _ (fun v w2 hp => ?_)
  obtain ⟨rfl, k1⟩ := hp
  replace zr0 := (Kp.frozC k1 _ _ (by simp only [List.mem_cons, List.not_mem_nil, or_false, not_or]; first | omega | simp_all | (refine ⟨?_, ?_⟩ <;> first | omega | assumption) | assumption) (by first | (simp; done) | (simp; omega)) hr0).trans zr0
  replace zr1 := (Kp.frozC k1 _ _ (by simp only [List.mem_cons, List.not_mem_nil, or_false, not_or]; first | omega | simp_all | (refine ⟨?_, ?_⟩ <;> first | omega | assumption) | assumption) (by first | (simp; done) | (simp; omega)) hr1).trans zr1
  replace hC0 := Kp.cellC k1 _ _ (by simp only [List.mem_cons, List.not_mem_nil, or_false, not_or]; first | omega | simp_all | (refine ⟨?_, ?_⟩ <;> first | omega | assumption) | assumption) (by first | (simp; done) | (simp; omega)) hC0
  replace hC1 := Kp.cellC k1 _ _ (by simp only [List.mem_cons, List.not_mem_nil, or_false, not_or]; first | omega | simp_all | (refine ⟨?_, ?_⟩ <;> first | omega | assumption) | assumption) (by first | (simp; done) | (simp; omega)) hC1
  replace hr0 := Kp.cellC k1 _ _ (by simp only [List.mem_cons, List.not_mem_nil, or_false, not_or]; first | omega | simp_all | (refine ⟨?_, ?_⟩ <;> first | omega | assumption) | assumption) (by first | (simp; done) | (simp; omega)) hr0
  replace hr1 := Kp.cellC k1 _ _ (by simp only [List.mem_cons, List.not_mem_nil, or_false, not_or]; first | omega | simp_all | (refine ⟨?_, ?_⟩ <;> first | omega | assumption) | assumption) (by first | (simp; done) | (simp; omega)) hr1
  replace kp := kp.callN (k1) (by intro x hx; first | (exact absurd hx List.not_mem_nil) | (simp at hx; first | (left; simp [hx]; done) | (right; omega) | (rcases hx with rfl | hx <;> first | (left; simp; done) | (left; simp [hx]; done) | (right; omega)))) (by intro x hx; simp at hx; try (subst hx); first | (left; simp; done) | (right; left; simp; done) | (right; right; dsimp only; omega))
  rw [Frame.finish_at]
  try walk_nrm
  iterate 5 (refine F.oq rfl rfl rfl (by simp [go_sem]) fun d K h => ?_; go_simp; refine h _ ?_; clear h K d; try walk_nrm)
  refine F.esr ?_
  simp only [rg, Nat.reduceAdd]
  iterate 2 (refine F.oq rfl rfl rfl (by simp [go_sem]) fun d K h => ?_; go_simp; refine h _ ?_; clear h K d; try walk_nrm)
  refine F.re ?_
  refine F.cf rfl ?_
  refine F.sk ?_
  refine F.sr ?_
  simp only [rg, Nat.reduceAdd]
  refine F.op rfl rfl (by decide) (fun d K hK => ?_)
  go_simp
  rw [alloc_at']
  refine hK _ _ ⟨DX.alloc _ _ (fun e he => ?_), ?_⟩
  · have hm := mem_listed he
    simp [go_sem] at hm
  clear hK K d
  try walk_nrm
  generalize ew3 : World.alloc w2 _ = w3
  generalize hn3 : (World.heap w2).size = n3
  have sz3 := sz_al2 ew3 hn3
  replace zr0 := fz_al zr0 hr0 ew3
  replace zr1 := fz_al zr1 hr1 ew3
  replace hC0 := cl_al hC0 ew3
  replace hC1 := cl_al hC1 ew3
  replace hr0 := cl_al hr0 ew3
  replace hr1 := cl_al hr1 ew3
  have hj0 := cl_new (i := 0) ew3 hn3 rfl
  have zj0 := fz_new ew3 hn3 0
  try simp only [List.getElem_toArray, List.getElem_cons_zero, List.getElem_cons_succ] at hj0
  replace kp := kp.alN ew3
  refine F.esr ?_
  simp only [rg, Nat.reduceAdd]
  iterate 2 (refine F.oq rfl rfl rfl (by simp [go_sem]) fun d K h => ?_; go_simp; refine h _ ?_; clear h K d; try walk_nrm)
  have q1 : w0.heap.size ≤ n1 ∧ n1 < n3 ∧ n3 < w3.heap.size := by have := k1.size; exact ⟨by omega, by omega, by omega⟩
  clear hn1 hn3 sz1 sz3 ew1 ew3 k1
  refine F.enter rfl rfl (by decide) (fun _ => run_call_body rfl Tryz.func34 (by rfl) (by rfl)) (fun _ => events_call_body rfl Tryz.func34 (by rfl) (by rfl) _) ?_
  walk_nrm
  refine hst w3 n3 kp (by omega) _ F _ _ (fun v w4 hp => ?_)
  obtain ⟨HD, X, rfl, k2, g1, g2, sq⟩ := hp
  replace zr0 := (Kp.frozC k2 _ _ (by simp only [List.mem_cons, List.not_mem_nil, or_false, not_or]; first | omega | simp_all | (refine ⟨?_, ?_⟩ <;> first | omega | assumption) | assumption) (by first | (simp; done) | (simp; omega)) hr0).trans zr0
  replace zr1 := (Kp.frozC k2 _ _ (by simp only [List.mem_cons, List.not_mem_nil, or_false, not_or]; first | omega | simp_all | (refine ⟨?_, ?_⟩ <;> first | omega | assumption) | assumption) (by first | (simp; done) | (simp; omega)) hr1).trans zr1
  replace zj0 := (Kp.frozC k2 _ _ (by simp only [List.mem_cons, List.not_mem_nil, or_false, not_or]; first | omega | simp_all | (refine ⟨?_, ?_⟩ <;> first | omega | assumption) | assumption) (by first | (simp; done) | (simp; omega)) hj0).trans zj0
  replace hC0 := Kp.cellC k2 _ _ (by simp only [List.mem_cons, List.not_mem_nil, or_false, not_or]; first | omega | simp_all | (refine ⟨?_, ?_⟩ <;> first | omega | assumption) | assumption) (by first | (simp; done) | (simp; omega)) hC0
  replace hC1 := Kp.cellC k2 _ _ (by simp only [List.mem_cons, List.not_mem_nil, or_false, not_or]; first | omega | simp_all | (refine ⟨?_, ?_⟩ <;> first | omega | assumption) | assumption) (by first | (simp; done) | (simp; omega)) hC1
  replace hr0 := Kp.cellC k2 _ _ (by simp only [List.mem_cons, List.not_mem_nil, or_false, not_or]; first | omega | simp_all | (refine ⟨?_, ?_⟩ <;> first | omega | assumption) | assumption) (by first | (simp; done) | (simp; omega)) hr0
  replace hr1 := Kp.cellC k2 _ _ (by simp only [List.mem_cons, List.not_mem_nil, or_false, not_or]; first | omega | simp_all | (refine ⟨?_, ?_⟩ <;> first | omega | assumption) | assumption) (by first | (simp; done) | (simp; omega)) hr1
  replace hj0 := Kp.cellC k2 _ _ (by simp only [List.mem_cons, List.not_mem_nil, or_false, not_or]; first | omega | simp_all | (refine ⟨?_, ?_⟩ <;> first | omega | assumption) | assumption) (by first | (simp; done) | (simp; omega)) hj0
  replace kp := kp.callN (k2) (by intro x hx; first | (exact absurd hx List.not_mem_nil) | (simp at hx; first | (left; simp [hx]; done) | (right; omega) | (rcases hx with rfl | hx <;> first | (left; simp; done) | (left; simp [hx]; done) | (right; omega)))) (by intro x hx; simp at hx; try (subst hx); first | (left; simp; done) | (right; left; simp; done) | (right; right; dsimp only; omega))
  have g3 : w0.heap.size ≤ w4.heap.size := by omega
  obtain ⟨s4, hs4⟩ : ∃ s, s ≤ w4.heap.size ∧ w4.heap.size ≤ s ∧ HD < s ∧ SQ w3.heap.size s n3 HD X w4 := ⟨_, Nat.le_refl _, Nat.le_refl _, g2, sq⟩
  clear sq
  rw [Frame.finish_at]
  try walk_nrm
  refine F.op rfl rfl (by decide) (fun d K hK => ?_)
  go_simp
  rw [alloc_at']
  refine hK _ _ ⟨DX.alloc _ _ (fun e he => ?_), ?_⟩
  · have hm := mem_listed he
    simp [go_sem] at hm
  clear hK K d
  try walk_nrm
  generalize ew5 : World.alloc w4 _ = w5
  generalize hn5 : (World.heap w4).size = n5
  have sz5 := sz_al2 ew5 hn5
  replace zr0 := fz_al zr0 hr0 ew5
  replace zr1 := fz_al zr1 hr1 ew5
  replace zj0 := fz_al zj0 hj0 ew5
  replace hC0 := cl_al hC0 ew5
  replace hC1 := cl_al hC1 ew5
  replace hr0 := cl_al hr0 ew5
  replace hr1 := cl_al hr1 ew5
  replace hj0 := cl_al hj0 ew5
  have hv0 := cl_new (i := 0) ew5 hn5 rfl
  have zv0 := fz_new ew5 hn5 0
  try simp only [List.getElem_toArray, List.getElem_cons_zero, List.getElem_cons_succ] at hv0
  replace kp := kp.alN ew5
  refine F.op rfl rfl (by decide) (fun d K hK => ?_)
  go_simp
  rw [setCell_at']
  refine hK _ _ ⟨DX.set _ (by (first | assumption | (apply hfr <;> dsimp only <;> omega) | (apply hok; simp))) (fun e he => ?_), ?_⟩
  · have hm := mem_listed he
    simp [go_sem, storedEv, evst_slice, evst_ptr, evst_iface, evst_nil, evst_bool, evst_func, *] at hm
    subst hm
    exact .inl ⟨_, rfl, rfl, by (first | assumption | (apply hfr <;> dsimp only <;> omega) | (apply hok; simp)), by simp only [size_at, size_set]; first | omega | exact lt_of_cell (by assumption)⟩
  clear hK K d
  try walk_nrm
  generalize ew6 : World.setCell w5 _ _ = w6
  have sz6 := sz_st2 ew6
  replace zr0 := fz_st zr0 ew6
  replace zr1 := fz_st zr1 ew6
  replace zj0 := fz_st zj0 ew6
  replace zv0 := fz_st zv0 ew6
  replace hC0 := cl_st hC0 ew6 (by intro e; simp at e <;> omega)
  replace hC1 := cl_st hC1 ew6 (by intro e; simp at e <;> omega)
  replace hr0 := cl_st hr0 ew6 (by intro e; simp at e <;> omega)
  replace hr1 := cl_st hr1 ew6 (by intro e; simp at e <;> omega)
  replace hj0 := cl_st hj0 ew6 (by intro e; simp at e <;> omega)
  replace hv0 := cl_st' hv0 ew6
  replace kp := kp.stN ew6 (by first | (left; simp; done) | (right; left; simp; done) | (right; right; dsimp only; omega))
  refine F.esr ?_
  simp only [rg, Nat.reduceAdd]
  iterate 2 (refine F.oq rfl rfl rfl (by simp [go_sem]) fun d K h => ?_; go_simp; refine h _ ?_; clear h K d; try walk_nrm)
  have kz : Kp [] w4 w6 := (Kp.alloc (L := []) ew5).stN ew6 (.inr (.inr (by dsimp only; omega)))
  have q2 : n3 < s4 ∧ HD < s4 ∧ s4 ≤ n5 ∧ n5 < w6.heap.size ∧ w4.heap.size ≤ n5 := by have := k2.size; have := (Kp.setC ew6).size; exact ⟨by omega, by omega, by omega, by omega, by omega⟩
  have q3 : n3 < w3.heap.size := q1.2.2
  generalize hs3 : w3.heap.size = s3 at *
  have sq := hs4.2.2.2
  clear hn5 sz5 ew5 ew6 k2 hs4 hs3 g2 g3
  refine F.op rfl rfl (by decide) (fun d K hK => ?_)
  go_simp
  rw [mk32]
  go_simp
  rw [alloc_at']
  refine hK _ _ ⟨DX.alloc _ _ (fun e he => ?_), ?_⟩
  · have hm := mem_listed he
    simp [go_sem, mk32, mk32e] at hm
  clear hK K d
  try walk_nrm
  generalize ew7 : World.alloc w6 _ = w7
  generalize hn7 : (World.heap w6).size = n7
  have sz7 := sz_al2 ew7 hn7
  replace zr0 := fz_al zr0 hr0 ew7
  replace zr1 := fz_al zr1 hr1 ew7
  replace zj0 := fz_al zj0 hj0 ew7
  replace zv0 := fz_al zv0 hv0 ew7
  replace hC0 := cl_al hC0 ew7
  replace hC1 := cl_al hC1 ew7
  replace hr0 := cl_al hr0 ew7
  replace hr1 := cl_al hr1 ew7
  replace hj0 := cl_al hj0 ew7
  replace hv0 := cl_al hv0 ew7
  have hp0 := cl_new (i := 0) ew7 hn7 rfl
  have zp0 := fz_new ew7 hn7 0
  have hp1 := cl_new (i := 1) ew7 hn7 rfl
  have zp1 := fz_new ew7 hn7 1
  have hp2 := cl_new (i := 2) ew7 hn7 rfl
  have zp2 := fz_new ew7 hn7 2
  have hp3 := cl_new (i := 3) ew7 hn7 rfl
  have zp3 := fz_new ew7 hn7 3
  try simp only [List.getElem_toArray, List.getElem_cons_zero, List.getElem_cons_succ] at hp0 hp1 hp2 hp3
  replace kp := kp.alN ew7
  refine F.op rfl rfl (by decide) (fun d K hK => ?_)
  go_simp
  rw [alloc_at']
  refine hK _ _ ⟨DX.alloc _ _ (fun e he => ?_), ?_⟩
  · have hm := mem_listed he
    simp [go_sem] at hm
  clear hK K d
  try walk_nrm
  generalize ew8 : World.alloc w7 _ = w8
  generalize hn8 : (World.heap w7).size = n8
  have sz8 := sz_al2 ew8 hn8
  replace zr0 := fz_al zr0 hr0 ew8
  replace zr1 := fz_al zr1 hr1 ew8
  replace zj0 := fz_al zj0 hj0 ew8
  replace zv0 := fz_al zv0 hv0 ew8
  replace zp0 := fz_al zp0 hp0 ew8
  replace zp1 := fz_al zp1 hp1 ew8
  replace zp2 := fz_al zp2 hp2 ew8
  replace zp3 := fz_al zp3 hp3 ew8
  replace hC0 := cl_al hC0 ew8
  replace hC1 := cl_al hC1 ew8
  replace hr0 := cl_al hr0 ew8
  replace hr1 := cl_al hr1 ew8
  replace hj0 := cl_al hj0 ew8
  replace hv0 := cl_al hv0 ew8
  replace hp0 := cl_al hp0 ew8
  replace hp1 := cl_al hp1 ew8
  replace hp2 := cl_al hp2 ew8
  replace hp3 := cl_al hp3 ew8
  have hq0 := cl_new (i := 0) ew8 hn8 rfl
  have zq0 := fz_new ew8 hn8 0
  try simp only [List.getElem_toArray, List.getElem_cons_zero, List.getElem_cons_succ] at hq0
  replace kp := kp.alN ew8
  refine F.op rfl rfl (by decide) (fun d K hK => ?_)
  go_simp
  rw [setCell_at']
  refine hK _ _ ⟨DX.set _ (by (first | assumption | (apply hfr <;> dsimp only <;> omega) | (apply hok; simp))) (fun e he => ?_), ?_⟩
  · have hm := mem_listed he
    simp [go_sem, storedEv, evst_slice, evst_ptr, evst_iface, evst_nil, evst_bool, evst_func, *] at hm
    subst hm
    exact .inl ⟨_, rfl, rfl, by (first | assumption | (apply hfr <;> dsimp only <;> omega) | (apply hok; simp)), by simp only [size_at, size_set]; first | omega | exact lt_of_cell (by assumption)⟩
  clear hK K d
  try walk_nrm
  generalize ew9 : World.setCell w8 _ _ = w9
  have sz9 := sz_st2 ew9
  replace zr0 := fz_st zr0 ew9
  replace zr1 := fz_st zr1 ew9
  replace zj0 := fz_st zj0 ew9
  replace zv0 := fz_st zv0 ew9
  replace zp0 := fz_st zp0 ew9
  replace zp1 := fz_st zp1 ew9
  replace zp2 := fz_st zp2 ew9
  replace zp3 := fz_st zp3 ew9
  replace zq0 := fz_st zq0 ew9
  replace hC0 := cl_st hC0 ew9 (by intro e; simp at e <;> omega)
  replace hC1 := cl_st hC1 ew9 (by intro e; simp at e <;> omega)
  replace hr0 := cl_st hr0 ew9 (by intro e; simp at e <;> omega)
  replace hr1 := cl_st hr1 ew9 (by intro e; simp at e <;> omega)
  replace hj0 := cl_st hj0 ew9 (by intro e; simp at e <;> omega)
  replace hv0 := cl_st hv0 ew9 (by intro e; simp at e <;> omega)
  replace hp0 := cl_st hp0 ew9 (by intro e; simp at e <;> omega)
  replace hp1 := cl_st hp1 ew9 (by intro e; simp at e <;> omega)
  replace hp2 := cl_st hp2 ew9 (by intro e; simp at e <;> omega)
  replace hp3 := cl_st hp3 ew9 (by intro e; simp at e <;> omega)
  replace hq0 := cl_st' hq0 ew9
  replace kp := kp.stN ew9 (by first | (left; simp; done) | (right; left; simp; done) | (right; right; dsimp only; omega))
  refine F.esr ?_
  simp only [rg, Nat.reduceAdd]
  replace kz := ((kz.alN ew7).alN ew8).stN ew9 (.inr (.inr (by dsimp only; have := kz.size; omega)))
  have q4 : n5 < n7 ∧ n7 < n8 ∧ n8 < w9.heap.size := by have := (Kp.setC ew9).size; exact ⟨by omega, by omega, by omega⟩
  clear hn7 hn8 sz7 sz8 ew7 ew8 ew9
  have hz9 : w0.heap.size ≤ w9.heap.size := kp.size
  refine At.shun (Shun' := ShL ((w9.heap.size + 2) :: l)) (fun x h => shl_cons h) (fun x h => (shl_new h).imp id fun ⟨a, e1, e2⟩ => ⟨a, e1, by omega⟩) ?_
  clear F hfr
  have F := fut0 (P := Tryz.prog) (Post := Post) (wI := wI) (l := (w9.heap.size + 2) :: l) n
  refine F.enter rfl rfl (by decide) (fun _ => run_call_body rfl Tryz.func35 (by rfl) (by rfl)) (fun _ => events_call_body rfl Tryz.func35 (by rfl) (by rfl) _) ?_
  walk_nrm
  refine new_agenda_x w9 _ F _ _ (fun v w10 hp => ?_)
  obtain ⟨wc, ec, rfl, k3, e1, e2, e3, e4, e5, e6, oc1, oc2, ag⟩ := hp
  have q5 : w9.heap.size ≤ wc ∧ wc < w9.heap.size + 2 ∧ w9.heap.size ≤ ec ∧ ec < w9.heap.size + 2 ∧ w9.heap.size + 2 < w10.heap.size ∧ w10.heap.size ≤ w9.heap.size + 3 := ⟨e2, e3, e4, e5, by omega, by omega⟩
  clear e1 e2 e3 e4 e5
  generalize hA : w9.heap.size + 2 = A at *
  have q6 : n8 < wc ∧ wc < A ∧ n8 < ec ∧ ec < A ∧ A < w10.heap.size ∧ w10.heap.size ≤ A + 1 := by omega
  clear q5 hA hz9
  replace zr0 := (Kp.frozC k3 _ _ (by simp only [List.mem_cons, List.not_mem_nil, or_false, not_or]; first | omega | simp_all | (refine ⟨?_, ?_⟩ <;> first | omega | assumption) | assumption) (by first | (simp; done) | (simp; omega)) hr0).trans zr0
  replace zr1 := (Kp.frozC k3 _ _ (by simp only [List.mem_cons, List.not_mem_nil, or_false, not_or]; first | omega | simp_all | (refine ⟨?_, ?_⟩ <;> first | omega | assumption) | assumption) (by first | (simp; done) | (simp; omega)) hr1).trans zr1
  replace zj0 := (Kp.frozC k3 _ _ (by simp only [List.mem_cons, List.not_mem_nil, or_false, not_or]; first | omega | simp_all | (refine ⟨?_, ?_⟩ <;> first | omega | assumption) | assumption) (by first | (simp; done) | (simp; omega)) hj0).trans zj0
  replace zv0 := (Kp.frozC k3 _ _ (by simp only [List.mem_cons, List.not_mem_nil, or_false, not_or]; first | omega | simp_all | (refine ⟨?_, ?_⟩ <;> first | omega | assumption) | assumption) (by first | (simp; done) | (simp; omega)) hv0).trans zv0
  replace zp0 := (Kp.frozC k3 _ _ (by simp only [List.mem_cons, List.not_mem_nil, or_false, not_or]; first | omega | simp_all | (refine ⟨?_, ?_⟩ <;> first | omega | assumption) | assumption) (by first | (simp; done) | (simp; omega)) hp0).trans zp0
  replace zp1 := (Kp.frozC k3 _ _ (by simp only [List.mem_cons, List.not_mem_nil, or_false, not_or]; first | omega | simp_all | (refine ⟨?_, ?_⟩ <;> first | omega | assumption) | assumption) (by first | (simp; done) | (simp; omega)) hp1).trans zp1
  replace zp2 := (Kp.frozC k3 _ _ (by simp only [List.mem_cons, List.not_mem_nil, or_false, not_or]; first | omega | simp_all | (refine ⟨?_, ?_⟩ <;> first | omega | assumption) | assumption) (by first | (simp; done) | (simp; omega)) hp2).trans zp2
  replace zp3 := (Kp.frozC k3 _ _ (by simp only [List.mem_cons, List.not_mem_nil, or_false, not_or]; first | omega | simp_all | (refine ⟨?_, ?_⟩ <;> first | omega | assumption) | assumption) (by first | (simp; done) | (simp; omega)) hp3).trans zp3
  replace zq0 := (Kp.frozC k3 _ _ (by simp only [List.mem_cons, List.not_mem_nil, or_false, not_or]; first | omega | simp_all | (refine ⟨?_, ?_⟩ <;> first | omega | assumption) | assumption) (by first | (simp; done) | (simp; omega)) hq0).trans zq0
  replace hC0 := Kp.cellC k3 _ _ (by simp only [List.mem_cons, List.not_mem_nil, or_false, not_or]; first | omega | simp_all | (refine ⟨?_, ?_⟩ <;> first | omega | assumption) | assumption) (by first | (simp; done) | (simp; omega)) hC0
  replace hC1 := Kp.cellC k3 _ _ (by simp only [List.mem_cons, List.not_mem_nil, or_false, not_or]; first | omega | simp_all | (refine ⟨?_, ?_⟩ <;> first | omega | assumption) | assumption) (by first | (simp; done) | (simp; omega)) hC1
  replace hr0 := Kp.cellC k3 _ _ (by simp only [List.mem_cons, List.not_mem_nil, or_false, not_or]; first | omega | simp_all | (refine ⟨?_, ?_⟩ <;> first | omega | assumption) | assumption) (by first | (simp; done) | (simp; omega)) hr0
  replace hr1 := Kp.cellC k3 _ _ (by simp only [List.mem_cons, List.not_mem_nil, or_false, not_or]; first | omega | simp_all | (refine ⟨?_, ?_⟩ <;> first | omega | assumption) | assumption) (by first | (simp; done) | (simp; omega)) hr1
  replace hj0 := Kp.cellC k3 _ _ (by simp only [List.mem_cons, List.not_mem_nil, or_false, not_or]; first | omega | simp_all | (refine ⟨?_, ?_⟩ <;> first | omega | assumption) | assumption) (by first | (simp; done) | (simp; omega)) hj0
  replace hv0 := Kp.cellC k3 _ _ (by simp only [List.mem_cons, List.not_mem_nil, or_false, not_or]; first | omega | simp_all | (refine ⟨?_, ?_⟩ <;> first | omega | assumption) | assumption) (by first | (simp; done) | (simp; omega)) hv0
  replace hp0 := Kp.cellC k3 _ _ (by simp only [List.mem_cons, List.not_mem_nil, or_false, not_or]; first | omega | simp_all | (refine ⟨?_, ?_⟩ <;> first | omega | assumption) | assumption) (by first | (simp; done) | (simp; omega)) hp0
  replace hp1 := Kp.cellC k3 _ _ (by simp only [List.mem_cons, List.not_mem_nil, or_false, not_or]; first | omega | simp_all | (refine ⟨?_, ?_⟩ <;> first | omega | assumption) | assumption) (by first | (simp; done) | (simp; omega)) hp1
  replace hp2 := Kp.cellC k3 _ _ (by simp only [List.mem_cons, List.not_mem_nil, or_false, not_or]; first | omega | simp_all | (refine ⟨?_, ?_⟩ <;> first | omega | assumption) | assumption) (by first | (simp; done) | (simp; omega)) hp2
  replace hp3 := Kp.cellC k3 _ _ (by simp only [List.mem_cons, List.not_mem_nil, or_false, not_or]; first | omega | simp_all | (refine ⟨?_, ?_⟩ <;> first | omega | assumption) | assumption) (by first | (simp; done) | (simp; omega)) hp3
  replace hq0 := Kp.cellC k3 _ _ (by simp only [List.mem_cons, List.not_mem_nil, or_false, not_or]; first | omega | simp_all | (refine ⟨?_, ?_⟩ <;> first | omega | assumption) | assumption) (by first | (simp; done) | (simp; omega)) hq0
  replace kp := kp.callN (k3) (by intro x hx; first | (exact absurd hx List.not_mem_nil) | (simp at hx; first | (left; simp [hx]; done) | (right; omega) | (rcases hx with rfl | hx <;> first | (left; simp; done) | (left; simp [hx]; done) | (right; omega)))) (by intro x hx; simp at hx; try (subst hx); first | (left; simp; done) | (right; left; simp; done) | (right; right; dsimp only; omega))
  replace kz := kz.callN k3 (by simp) (by simp)
  clear k3
  have hl' : ∀ B ∈ A :: l, wI.heap.size ≤ B ∧ B < w10.heap.size := fun B hB => by
    rcases List.mem_cons.1 hB with rfl | hB
    · omega
    · have := hl B hB; omega
  have hfr : ∀ (a : Addr) (wr : Bool), w10.heap.size ≤ a.block → OkS wI.heap.size (A :: l) [] a wr := fun a wr h => ok_fr (N := w10.heap.size) (fun B hB => (hl' B hB).2) (by omega) h (by simp) wr
  have o1 : OkS wI.heap.size (A :: l) [] ⟨C, 0, none⟩ false := ok_rd (by decide) (by decide)
  have o2 : OkS wI.heap.size (A :: l) [] ⟨C, 1, none⟩ false := ok_rd (by decide) (by decide)
  rw [Frame.finish_at]
  try walk_nrm
  refine F.oq rfl rfl rfl (by simp [go_sem]) fun d K h => ?_; go_simp; refine h _ ?_; clear h K d; try walk_nrm
  refine F.es ?_
  refine F.sr ?_
  simp only [rg, Nat.reduceAdd]
  iterate 3 (refine F.oq rfl rfl rfl (by simp [go_sem]) fun d K h => ?_; go_simp; refine h _ ?_; clear h K d; try walk_nrm)
  refine F.re ?_
  refine F.bl ?_
  refine F.ctl (fun _ => stepG_loop) ?_
  refine F.sr ?_
  simp only [rg, Nat.reduceAdd]
  refine F.oq rfl rfl rfl (by simp [go_sem]) fun d K h => ?_; go_simp; refine h _ ?_; clear h K d; try walk_nrm
  refine F.es ?_
  refine F.ct rfl ?_
  refine F.sk ?_
  refine F.sq ?_
  refine F.bl ?_
  refine F.sr ?_
  simp only [rg, Nat.reduceAdd]
  iterate 2 (refine F.oq rfl rfl rfl (by simp [go_sem]) fun d K h => ?_; go_simp; refine h _ ?_; clear h K d; try walk_nrm)
  refine F.ol rfl rfl rfl fun d K hK => ?_
  go_simp
  refine hK _ (fun e hm => ?_) ?_
  · simp [go_sem, *] at hm
    rcases hm with rfl | rfl <;> exact evr (w := w10) (by assumption) (by first | assumption | (apply hfr <;> dsimp only <;> omega) | (apply hok; simp))
  clear hK K d
  try walk_nrm
  refine F.op rfl rfl (by decide) (fun d K hK => ?_)
  go_simp
  rw [alloc_at']
  refine hK _ _ ⟨DX.alloc _ _ (fun e he => ?_), ?_⟩
  · have hm := mem_listed he
    simp [go_sem] at hm
  clear hK K d
  try walk_nrm
  generalize ew11 : World.alloc w10 _ = w11
  generalize hn11 : (World.heap w10).size = n11
  have sz11 := sz_al2 ew11 hn11
  replace zr0 := fz_al zr0 hr0 ew11
  replace zr1 := fz_al zr1 hr1 ew11
  replace zj0 := fz_al zj0 hj0 ew11
  replace zv0 := fz_al zv0 hv0 ew11
  replace zp0 := fz_al zp0 hp0 ew11
  replace zp1 := fz_al zp1 hp1 ew11
  replace zp2 := fz_al zp2 hp2 ew11
  replace zp3 := fz_al zp3 hp3 ew11
  replace zq0 := fz_al zq0 hq0 ew11
  replace hC0 := cl_al hC0 ew11
  replace hC1 := cl_al hC1 ew11
  replace hr0 := cl_al hr0 ew11
  replace hr1 := cl_al hr1 ew11
  replace hj0 := cl_al hj0 ew11
  replace hv0 := cl_al hv0 ew11
  replace hp0 := cl_al hp0 ew11
  replace hp1 := cl_al hp1 ew11
  replace hp2 := cl_al hp2 ew11
  replace hp3 := cl_al hp3 ew11
  replace hq0 := cl_al hq0 ew11
  have hi0 := cl_new (i := 0) ew11 hn11 rfl
  have zi0 := fz_new ew11 hn11 0
  try simp only [List.getElem_toArray, List.getElem_cons_zero, List.getElem_cons_succ] at hi0
  replace kp := kp.alN ew11
  refine F.op rfl rfl (by decide) (fun d K hK => ?_)
  go_simp
  rw [alloc_at']
  refine hK _ _ ⟨DX.alloc _ _ (fun e he => ?_), ?_⟩
  · have hm := mem_listed he
    simp [go_sem] at hm
  clear hK K d
  try walk_nrm
  generalize ew12 : World.alloc w11 _ = w12
  generalize hn12 : (World.heap w11).size = n12
  have sz12 := sz_al2 ew12 hn12
  replace zr0 := fz_al zr0 hr0 ew12
  replace zr1 := fz_al zr1 hr1 ew12
  replace zj0 := fz_al zj0 hj0 ew12
  replace zv0 := fz_al zv0 hv0 ew12
  replace zp0 := fz_al zp0 hp0 ew12
  replace zp1 := fz_al zp1 hp1 ew12
  replace zp2 := fz_al zp2 hp2 ew12
  replace zp3 := fz_al zp3 hp3 ew12
  replace zq0 := fz_al zq0 hq0 ew12
  replace zi0 := fz_al zi0 hi0 ew12
  replace hC0 := cl_al hC0 ew12
  replace hC1 := cl_al hC1 ew12
  replace hr0 := cl_al hr0 ew12
  replace hr1 := cl_al hr1 ew12
  replace hj0 := cl_al hj0 ew12
  replace hv0 := cl_al hv0 ew12
  replace hp0 := cl_al hp0 ew12
  replace hp1 := cl_al hp1 ew12
  replace hp2 := cl_al hp2 ew12
  replace hp3 := cl_al hp3 ew12
  replace hq0 := cl_al hq0 ew12
  replace hi0 := cl_al hi0 ew12
  have hc0 := cl_new (i := 0) ew12 hn12 rfl
  have zc0 := fz_new ew12 hn12 0
  have hc1 := cl_new (i := 1) ew12 hn12 rfl
  have zc1 := fz_new ew12 hn12 1
  try simp only [List.getElem_toArray, List.getElem_cons_zero, List.getElem_cons_succ] at hc0 hc1
  replace kp := kp.alN ew12
  refine F.op rfl rfl (by decide) (fun d K hK => ?_)
  go_simp
  rw [setCell_at']
  refine hK _ _ ⟨DX.set _ (by (first | assumption | (apply hfr <;> dsimp only <;> omega) | (apply hok; simp))) (fun e he => ?_), ?_⟩
  · have hm := mem_listed he
    simp [go_sem, storedEv, evst_slice, evst_ptr, evst_iface, evst_nil, evst_bool, evst_func, *] at hm
    subst hm
    exact .inl ⟨_, rfl, rfl, by (first | assumption | (apply hfr <;> dsimp only <;> omega) | (apply hok; simp)), by simp only [size_at, size_set]; first | omega | exact lt_of_cell (by assumption)⟩
  clear hK K d
  try walk_nrm
  generalize ew13 : World.setCell w12 _ _ = w13
  have sz13 := sz_st2 ew13
  replace zr0 := fz_st zr0 ew13
  replace zr1 := fz_st zr1 ew13
  replace zj0 := fz_st zj0 ew13
  replace zv0 := fz_st zv0 ew13
  replace zp0 := fz_st zp0 ew13
  replace zp1 := fz_st zp1 ew13
  replace zp2 := fz_st zp2 ew13
  replace zp3 := fz_st zp3 ew13
  replace zq0 := fz_st zq0 ew13
  replace zi0 := fz_st zi0 ew13
  replace zc0 := fz_st zc0 ew13
  replace zc1 := fz_st zc1 ew13
  replace hC0 := cl_st hC0 ew13 (by intro e; simp at e <;> omega)
  replace hC1 := cl_st hC1 ew13 (by intro e; simp at e <;> omega)
  replace hr0 := cl_st hr0 ew13 (by intro e; simp at e <;> omega)
  replace hr1 := cl_st hr1 ew13 (by intro e; simp at e <;> omega)
  replace hj0 := cl_st hj0 ew13 (by intro e; simp at e <;> omega)
  replace hv0 := cl_st hv0 ew13 (by intro e; simp at e <;> omega)
  replace hp0 := cl_st hp0 ew13 (by intro e; simp at e <;> omega)
  replace hp1 := cl_st hp1 ew13 (by intro e; simp at e <;> omega)
  replace hp2 := cl_st hp2 ew13 (by intro e; simp at e <;> omega)
  replace hp3 := cl_st hp3 ew13 (by intro e; simp at e <;> omega)
  replace hq0 := cl_st hq0 ew13 (by intro e; simp at e <;> omega)
  replace hi0 := cl_st' hi0 ew13
  replace hc0 := cl_st hc0 ew13 (by intro e; simp at e <;> omega)
  replace hc1 := cl_st hc1 ew13 (by intro e; simp at e <;> omega)
  replace kp := kp.stN ew13 (by first | (left; simp; done) | (right; left; simp; done) | (right; right; dsimp only; omega))
  refine F.op rfl rfl (by decide) (fun d K hK => ?_)
  go_simp
  repeat rw [setCell_at']
  refine hK _ _ ⟨DX.set2 _ (by (first | assumption | (apply hfr <;> dsimp only <;> omega) | (apply hok; simp))) (by (first | assumption | (apply hfr <;> dsimp only <;> omega) | (apply hok; simp))) (fun e he => ?_), ?_⟩
  · have hm := mem_listed he
    simp [go_sem, storedEv, evst_slice, evst_ptr, evst_iface, evst_nil, evst_bool, evst_func, *] at hm
    rcases hm with rfl | rfl <;> exact .inl ⟨_, rfl, rfl, by (first | assumption | (apply hfr <;> dsimp only <;> omega) | (apply hok; simp)), by simp only [size_at, size_set]; first | omega | exact lt_of_cell (by assumption)⟩
  clear hK K d
  try walk_nrm
  generalize ew14 : World.setCell w13 _ _ = w14
  have sz14 := sz_st2 ew14
  replace zr0 := fz_st zr0 ew14
  replace zr1 := fz_st zr1 ew14
  replace zj0 := fz_st zj0 ew14
  replace zv0 := fz_st zv0 ew14
  replace zp0 := fz_st zp0 ew14
  replace zp1 := fz_st zp1 ew14
  replace zp2 := fz_st zp2 ew14
  replace zp3 := fz_st zp3 ew14
  replace zq0 := fz_st zq0 ew14
  replace zi0 := fz_st zi0 ew14
  replace zc0 := fz_st zc0 ew14
  replace zc1 := fz_st zc1 ew14
  replace hC0 := cl_st hC0 ew14 (by intro e; simp at e <;> omega)
  replace hC1 := cl_st hC1 ew14 (by intro e; simp at e <;> omega)
  replace hr0 := cl_st hr0 ew14 (by intro e; simp at e <;> omega)
  replace hr1 := cl_st hr1 ew14 (by intro e; simp at e <;> omega)
  replace hj0 := cl_st hj0 ew14 (by intro e; simp at e <;> omega)
  replace hv0 := cl_st hv0 ew14 (by intro e; simp at e <;> omega)
  replace hp0 := cl_st hp0 ew14 (by intro e; simp at e <;> omega)
  replace hp1 := cl_st hp1 ew14 (by intro e; simp at e <;> omega)
  replace hp2 := cl_st hp2 ew14 (by intro e; simp at e <;> omega)
  replace hp3 := cl_st hp3 ew14 (by intro e; simp at e <;> omega)
  replace hq0 := cl_st hq0 ew14 (by intro e; simp at e <;> omega)
  replace hi0 := cl_st hi0 ew14 (by intro e; simp at e <;> omega)
  replace hc0 := cl_st' hc0 ew14
  replace hc1 := cl_st hc1 ew14 (by intro e; simp at e <;> omega)
  replace kp := kp.stN ew14 (by first | (left; simp; done) | (right; left; simp; done) | (right; right; dsimp only; omega))
  generalize ew15 : World.setCell w14 _ _ = w15
  have sz15 := sz_st2 ew15
  replace zr0 := fz_st zr0 ew15
  replace zr1 := fz_st zr1 ew15
  replace zj0 := fz_st zj0 ew15
  replace zv0 := fz_st zv0 ew15
  replace zp0 := fz_st zp0 ew15
  replace zp1 := fz_st zp1 ew15
  replace zp2 := fz_st zp2 ew15
  replace zp3 := fz_st zp3 ew15
  replace zq0 := fz_st zq0 ew15
  replace zi0 := fz_st zi0 ew15
  replace zc0 := fz_st zc0 ew15
  replace zc1 := fz_st zc1 ew15
  replace hC0 := cl_st hC0 ew15 (by intro e; simp at e <;> omega)
  replace hC1 := cl_st hC1 ew15 (by intro e; simp at e <;> omega)
  replace hr0 := cl_st hr0 ew15 (by intro e; simp at e <;> omega)
  replace hr1 := cl_st hr1 ew15 (by intro e; simp at e <;> omega)
  replace hj0 := cl_st hj0 ew15 (by intro e; simp at e <;> omega)
  replace hv0 := cl_st hv0 ew15 (by intro e; simp at e <;> omega)
  replace hp0 := cl_st hp0 ew15 (by intro e; simp at e <;> omega)
  replace hp1 := cl_st hp1 ew15 (by intro e; simp at e <;> omega)
  replace hp2 := cl_st hp2 ew15 (by intro e; simp at e <;> omega)
  replace hp3 := cl_st hp3 ew15 (by intro e; simp at e <;> omega)
  replace hq0 := cl_st hq0 ew15 (by intro e; simp at e <;> omega)
  replace hi0 := cl_st hi0 ew15 (by intro e; simp at e <;> omega)
  replace hc0 := cl_st hc0 ew15 (by intro e; simp at e <;> omega)
  replace hc1 := cl_st' hc1 ew15
  replace kp := kp.stN ew15 (by first | (left; simp; done) | (right; left; simp; done) | (right; right; dsimp only; omega))
  refine F.er ?_
  simp only [rg, Nat.reduceAdd]
  refine F.oq rfl rfl rfl (by simp [go_sem]) fun d K h => ?_; go_simp; refine h _ ?_; clear h K d; try walk_nrm
  refine F.ol rfl rfl rfl fun d K h => ?_; go_simp; refine h _ (fun e m => ?_) ?_; simp [go_sem, *] at m; subst m; exact evr (w := w15) (by assumption) (by first | assumption | (apply hfr <;> dsimp only <;> omega) | (apply hok; simp)); clear h K d; try walk_nrm
  refine F.oq rfl rfl rfl (by simp [go_sem]) fun d K h => ?_; go_simp; refine h _ ?_; clear h K d; try walk_nrm
  refine F.ol rfl rfl rfl fun d K h => ?_; go_simp; refine h _ (fun e m => ?_) ?_; simp [go_sem, *] at m; subst m; exact evr (w := w15) (by assumption) (by first | assumption | (apply hfr <;> dsimp only <;> omega) | (apply hok; simp)); clear h K d; try walk_nrm
  refine F.oq rfl rfl rfl (by simp [go_sem]) fun d K h => ?_; go_simp; refine h _ ?_; clear h K d; try walk_nrm
  replace oc1 := ((((oc1.al ew11).al ew12).st ew13).st ew14).st ew15
  replace oc2 := ((((oc2.al ew11).al ew12).st ew13).st ew14).st ew15
  have ka : Kp [] w10 w15 := ((((Kp.alloc (L := []) ew11).alN ew12).stN ew13 (.inr (.inr (by dsimp only; omega)))).stN ew14 (.inr (.inr (by dsimp only; omega)))).stN ew15 (.inr (.inr (by dsimp only; omega)))
  have q7 : A < n11 ∧ n11 < n12 ∧ n12 < w15.heap.size := by have := (Kp.setC ew13).size; have := (Kp.setC ew14).size; have := (Kp.setC ew15).size; exact ⟨by omega, by omega, by omega⟩
  clear ew11 ew12 ew13 ew14 ew15 hn11 hn12 sz11 sz12 hc0 hc1 zc0 zc1 o1 o2
  replace kz := kz.callN ka (by simp) (by simp)
  have hs10 : w10.heap.size ≤ w15.heap.size := ka.size
  have IA : wI.heap.size ≤ A := by omega
  have b1 := ka.cell _ _ (by simp) ag.a1
  have b2 := ka.cell _ _ (by simp) ag.a2
  have y1 := (ka.froz _ _ (by simp) ag.a1).trans (ag.z 1)
  have y2 := (ka.froz _ _ (by simp) ag.a2).trans (ag.z 2)
  refine F.enter rfl rfl (by decide) (fun _ => run_call_body rfl Tryz.func36 (by rfl) (by rfl)) (fun _ => events_call_body rfl Tryz.func36 (by rfl) (by rfl) _) ?_
  walk_nrm
  refine ((begin_x w10.heap.size A n5 n8 n11 at' w15 hs10 hfr (by omega) b1 b2 y1 y2 (ok_rd (by decide) (by decide)) (ok_wr (by decide) (by decide) IA (by simp [StL]) _) (ok_rd (by decide) (by decide)) (ok_wr (by decide) (by decide) IA (by simp [StL]) _)).keepCh oc1).keepCh oc2 _ F _ _ (fun v w16 hp => ?_)
  obtain ⟨⟨⟨ba, bw, tch, T, bt, P, en, rfl, kb, f1, f2, f3, f4, f5, f6, f7, f8, f9, f10, f11, f12, f13, f14, f15, f16, f17, f18, f19, f20, f21, f22⟩, oc1'⟩, oc2'⟩ := hp
  clear oc1 oc2 b1 b2 y1 y2
  have hAf : ∀ x ∈ [(⟨A, 1, none⟩ : Addr), ⟨A, 2, none⟩], x.block = A := by intro x hx; simp at hx; rcases hx with rfl | rfl <;> rfl
  replace kz := kz.callN kb (by simp) (fun x hx => .inr (.inr (by rw [hAf x hx]; omega)))
  replace kp := kp.callN kb (by simp) (fun x hx => .inr (.inr (by rw [hAf x hx]; omega)))
  replace zr0 := (kb.frozC _ _ (by simp) (by simp <;> omega) hr0).trans zr0
  replace zr1 := (kb.frozC _ _ (by simp) (by simp <;> omega) hr1).trans zr1
  replace zj0 := (kb.frozC _ _ (by simp) (by simp <;> omega) hj0).trans zj0
  replace zp0 := (kb.frozC _ _ (by simp) (by simp <;> omega) hp0).trans zp0
  replace zp1 := (kb.frozC _ _ (by simp) (by simp <;> omega) hp1).trans zp1
  replace zp2 := (kb.frozC _ _ (by simp) (by simp <;> omega) hp2).trans zp2
  replace zp3 := (kb.frozC _ _ (by simp) (by simp <;> omega) hp3).trans zp3
  replace hr0 := kb.cellC _ _ (by simp) (by simp <;> omega) hr0
  replace hr1 := kb.cellC _ _ (by simp) (by simp <;> omega) hr1
  replace hj0 := kb.cellC _ _ (by simp) (by simp <;> omega) hj0
  replace hv0 := kb.cellC _ _ (by simp) (by simp <;> omega) hv0
  replace hp0 := kb.cellC _ _ (by simp) (by simp <;> omega) hp0
  replace hp1 := kb.cellC _ _ (by simp) (by simp <;> omega) hp1
  replace hp2 := kb.cellC _ _ (by simp) (by simp <;> omega) hp2
  replace hp3 := kb.cellC _ _ (by simp) (by simp <;> omega) hp3
  replace hq0 := kb.cellC _ _ (by simp) (by simp <;> omega) hq0
  replace hi0 := kb.cellC _ _ (by simp) (by simp <;> omega) hi0
  have a0 := kb.cellC _ _ (by simp) (by simp <;> omega) (ka.cell _ _ (by simp) ag.a0)
  have za0 := (kb.frozC _ _ (by simp) (by simp <;> omega) (ka.cell _ _ (by simp) ag.a0)).trans ((ka.froz _ _ (by simp) ag.a0).trans (ag.z 0))
  have a3 := kb.cellC _ _ (by simp) (by simp <;> omega) (ka.cell _ _ (by simp) ag.a3)
  have a4 := kb.cellC _ _ (by simp) (by simp <;> omega) (ka.cell _ _ (by simp) ag.a4)
  have a5 := kb.cellC _ _ (by simp) (by simp <;> omega) (ka.cell _ _ (by simp) ag.a5)
  have za5 := (kb.frozC _ _ (by simp) (by simp <;> omega) (ka.cell _ _ (by simp) ag.a5)).trans ((ka.froz _ _ (by simp) ag.a5).trans (ag.z 5))
  have a6 := kb.cellC _ _ (by simp) (by simp <;> omega) (ka.cell _ _ (by simp) ag.a6)
  have za6 := (kb.frozC _ _ (by simp) (by simp <;> omega) (ka.cell _ _ (by simp) ag.a6)).trans ((ka.froz _ _ (by simp) ag.a6).trans (ag.z 6))
  clear hC0 hC1
  rw [Frame.finish_at]
  try walk_nrm
  refine F.re ?_
  refine F.ib ?_
  refine F.rr ?_
  simp only [rg, Nat.reduceAdd]
  iterate 2 (refine F.oq rfl rfl rfl (by simp [go_sem]) fun d K h => ?_; go_simp; refine h _ ?_; clear h K d; try walk_nrm)
  refine F.re ?_
  refine F.ctl (fun _ => stepG_inLoop) ?_
  refine F.sr ?_
  simp only [rg, Nat.reduceAdd]
  refine F.oq rfl rfl rfl (by simp [go_sem]) fun d K h => ?_; go_simp; refine h _ ?_; clear h K d; try walk_nrm
  refine F.es ?_
  refine F.cf rfl ?_
  refine F.ctl (fun _ => stepG_exit rfl) ?_
  refine F.sr ?_
  simp only [rg, Nat.reduceAdd]
  refine F.oq rfl rfl rfl (by simp [go_sem]) fun d K h => ?_; go_simp; refine h _ ?_; clear h K d; try walk_nrm
  refine F.enter rfl rfl (by decide) (fun _ => run_call_body rfl Tryz.func39 (by rfl) (by rfl)) (fun _ => events_call_body rfl Tryz.func39 (by rfl) (by rfl) _) ?_
  walk_nrm
  have hlP : ∀ B ∈ A :: l, wI.heap.size ≤ B ∧ B < P := fun B hB => by have := hl' B hB; omega
  have hJe : n3 ≠ ec := by omega
  have hOe : n7 ≠ ec := by omega
  have hTl : T ∉ A :: l := fun z => by have := hl' T z; omega
  have hOl : n7 ∉ A :: l := fun z => by
    rcases List.mem_cons.1 z with z | z
    · omega
    · have := hl n7 z; omega
  have oO : Off P n3 HD A T n7 := ⟨by omega, by omega, by omega, by omega, by omega⟩
  have obo : Off P n3 HD A T n8 := ⟨by omega, by omega, by omega, by omega, by omega⟩
  have obi : Off P n3 HD A T n11 := ⟨by omega, by omega, by omega, by omega, by omega⟩
  have obl : Off P n3 HD A T n5 := ⟨by omega, by omega, by omega, by omega, by omega⟩
  have on1 : Off P n3 HD A T n1 := ⟨by omega, by omega, by omega, by omega, by omega⟩
  refine run39_at P A T n3 wc ec tch ba bt bw n5 n8 n11 at' en _ _ w16 (List.mem_cons_self ..) hlP hn (by omega) (by omega) (by omega) (by omega) (by omega) ⟨by omega, by omega⟩ ⟨by omega, by omega⟩ ⟨by omega, by omega⟩ ⟨e6, by omega, by omega⟩ (fun k hk => ?_) (by omega) (by omega) (by omega) a0 f20 a3 a4 a5 a6 za0 f21 za5 za6 f22 f15 f17 f16 f18 hj0 zj0 oc1' oc2' f19 (by omega) (by omega) (by omega) ?_
  · rcases hk with rfl | rfl | rfl
    · exact ⟨by omega, by omega⟩
    · exact ⟨by omega, by omega⟩
    · exact ⟨by omega, Ne.symm (ch_ne f19 f18.t0)⟩
  intro X' w1 en1 bg bf bwx btx R B
  have nX' := R.nX
  have hok : ∀ a wr, wI.heap.size ≤ a.block → a.block < s4 → a.block ∉ l → OkS wI.heap.size (A :: l) (st0 (mkEnv P X' A T n3 wc ec tch)) a wr := fun a wr h1 h2 h3 => ok_wrl (b := a.block) (fun z => by
    rcases List.mem_cons.1 z with z | z
    · omega
    · exact h3 z) h1 (by show a.block ≠ A; omega) (by show a.block ≠ X'; have : P ≤ X' := nX'; omega) (by show a.block ≠ T; omega) a wr rfl
  refine cli_at R hTl (by show wI.heap.size ≤ P; omega) (by show n3 < P; omega) (by show wI.heap.size ≤ n3; omega) (by show A ≠ n3; omega) (by show T ≠ n3; omega) _ _ bg bf bwx btx n7 n8 n11 n5 HD (.iface ty (.pointer (some ⟨X, 0, none⟩))) at' tm kd nn tm' w16 w1 en1 (Cx P) Mx (fun x q cap w w' L C => hCx P x q cap w w' L C) (by show P ≤ w16.heap.size; omega) oc2' B (by omega) oO hOl hOe hJe (by show HD ≠ A; omega) (by show HD < P; omega) obo obi obl (by omega) (by omega) (by omega) hq0 hi0 hv0 hp0 hp1 hp2 hp3 (fun i hi => by match i, hi with | 0, _ => exact zp0 | 1, _ => exact zp1 | 2, _ => exact zp2 | 3, _ => exact zp3) ?_ ?_
  · refine h38 _ _ w1 s3 s4 HD X en1 (envok R hTl (by show n3 < P; omega) (by show wI.heap.size ≤ n3; omega) (by show A ≠ n3; omega) (by show T ≠ n3; omega)) rfl B.cw (hSQ _ _ _ _ _ _ _ [] sq (kz.callN B.kp (by simp) (fun x hx => .inr (.inr ?_))) (by simp)) (by show w0.heap.size ≤ n3; omega) (by show n3 < s3; omega) (by omega) (by omega) (by show s4 ≤ A; omega) (by show s4 ≤ T; omega) (by show s4 ≤ P; omega) hok (fun k => ok_rd (by decide) (by decide)) (fun a ha => ok_old (fun B hB => by rcases List.mem_cons.1 hB with rfl | hB; omega; exact (hl B hB).1) ha) (by omega)
    have hxA : x.block = A := by simp at hx; rcases hx with rfl | rfl | rfl <;> rfl
    omega
  intro x q cap w' ev m xs hcx hm hstay p0 p1 p2 p3 pj prow hsz'
  obtain ⟨hkm, prow⟩ := prow
  have hev : 0 < m → ∃ g cap, ev = .slice (some ⟨g, 0, none⟩) m cap ∧ P < g ∧ ChAt w' g xs := fun h0 => by
    obtain ⟨g, cap, h1, h2, _, h3⟩ := chAt_of h0 prow
    exact ⟨g, cap, h1, by have : P ≤ X' := nX'; have : X' + 1 ≤ g := h2; omega, h3⟩
  obtain ⟨xe, ce, rfl⟩ := row_form prow
  replace F := fut0 (P := Tryz.prog) (Post := Post) (wI := wI) (l := A :: l) (n + 1)
  have hnot : ∀ y, Off P n3 HD A T y → y ≠ n7 → y ∉ [n3, HD, A, T, n7] := fun y hy h7 => by simp only [List.mem_cons, List.not_mem_nil, or_false, not_or]; exact ⟨hy.2.1, hy.2.2.1, hy.2.2.2.1, hy.2.2.2.2, h7⟩
  have s1 := hstay ⟨n1, 0, none⟩ _ on1.1 (hnot n1 on1 (by omega)) hr0
  have s2 := hstay ⟨n1, 1, none⟩ _ on1.1 (hnot n1 on1 (by omega)) hr1
  replace zr0 := s1.2.trans zr0
  replace zr1 := s2.2.trans zr1
  replace hr0 := s1.1
  replace hr1 := s2.1
  replace hq0 := (hstay ⟨n8, 0, none⟩ _ obo.1 (hnot n8 obo (by omega)) hq0).1
  have pj' : w'.cell? ⟨n3, 0, none⟩ = some (.slice xe m ce) := pj
  have i1 : n1 ≠ n3 := by omega
  have i2 : n1 ≠ n8 := by omega
  have i3 : n1 ≠ n7 := by omega
  have o1 : OkS wI.heap.size (A :: l) [] ⟨n8, 0, none⟩ false := ok_rd (by decide) (by decide)
  have o2 : OkS wI.heap.size (A :: l) [] ⟨n3, 0, none⟩ false := ok_rd (by decide) (by decide)
  have o3 : OkS wI.heap.size (A :: l) [] ⟨n1, 0, none⟩ true := ok_wr (by decide) (by decide) (by omega) (by simp [StL]) _
  have o4 : OkS wI.heap.size (A :: l) [] ⟨n1, 1, none⟩ true := ok_wr (by decide) (by decide) (by omega) (by simp [StL]) _
  have o5 : OkS wI.heap.size (A :: l) [] ⟨n1, 0, none⟩ false := ok_rd (by decide) (by decide)
  have o6 : OkS wI.heap.size (A :: l) [] ⟨n1, 1, none⟩ false := ok_rd (by decide) (by decide)
  have kp0 := kp
  clear kp s1 s2 ka kb kz ag sq hok B R a0 a3 a4 a5 a6 za0 za5 za6 f15 f16 f17 f18 f19 f20 f21 f22 oc1' oc2' hi0 hv0 hp0 hp1 hp2 hp3 zp0 zp1 zp2 zp3 hj0 zj0 pj prow h38 hst hchk hSQ
  have kp : Kp [] w' w' [⟨n1, 0, none⟩, ⟨n1, 1, none⟩] := Kp.refl _
  rw [Frame.finish_at]
  try walk_nrm
  refine F.esr ?_
  simp only [rg, Nat.reduceAdd]
  refine F.ol rfl rfl rfl fun d K h => ?_; go_simp; refine h _ (fun e m => ?_) ?_; simp [go_sem, *] at m; subst m; exact evr (w := w') (by assumption) (by first | assumption | (apply hfr <;> dsimp only <;> omega) | (apply hok; simp)); clear h K d; try walk_nrm
  refine F.oq rfl rfl rfl (by simp [go_sem]) fun d K h => ?_; go_simp; refine h _ ?_; clear h K d; try walk_nrm
  refine F.ol rfl rfl rfl fun d K h => ?_; go_simp; refine h _ (fun e m => ?_) ?_; simp [go_sem, *] at m; subst m; exact evr (w := w') (by assumption) (by first | assumption | (apply hfr <;> dsimp only <;> omega) | (apply hok; simp)); clear h K d; try walk_nrm
  refine F.oq rfl rfl rfl (by simp [go_sem]) fun d K h => ?_; go_simp; refine h _ ?_; clear h K d; try walk_nrm
  refine F.op rfl rfl (by decide) (fun d K hK => ?_)
  go_simp
  repeat rw [setCell_at']
  refine hK _ _ ⟨DX.set2 _ (by (first | assumption | (apply hfr <;> dsimp only <;> omega) | (apply hok; simp))) (by (first | assumption | (apply hfr <;> dsimp only <;> omega) | (apply hok; simp))) (fun e he => ?_), ?_⟩
  · have hm := mem_listed he
    simp [go_sem, storedEv, evst_slice, evst_ptr, evst_iface, evst_nil, evst_bool, evst_func, *] at hm
    rcases hm with rfl | rfl <;> exact .inl ⟨_, rfl, rfl, by (first | assumption | (apply hfr <;> dsimp only <;> omega) | (apply hok; simp)), by simp only [size_at, size_set]; first | omega | exact lt_of_cell (by assumption)⟩
  clear hK K d
  try walk_nrm
  generalize ew31 : World.setCell w' _ _ = w31
  have sz31 := sz_st2 ew31
  replace zr0 := fz_st zr0 ew31
  replace zr1 := fz_st zr1 ew31
  replace hr0 := cl_st' hr0 ew31
  replace hr1 := cl_st hr1 ew31 (by intro e; simp at e <;> omega)
  replace hq0 := cl_st hq0 ew31 (by intro e; simp at e <;> omega)
  replace pj' := cl_st pj' ew31 (by intro e; simp at e <;> omega)
  replace p0 := cl_st p0 ew31 (by intro e; simp at e <;> omega)
  replace p1 := cl_st p1 ew31 (by intro e; simp at e <;> omega)
  replace p2 := cl_st p2 ew31 (by intro e; simp at e <;> omega)
  replace p3 := cl_st p3 ew31 (by intro e; simp at e <;> omega)
  replace kp := kp.stN ew31 (by first | (left; simp; done) | (right; left; simp; done) | (right; right; dsimp only; omega))
  generalize ew32 : World.setCell w31 _ _ = w32
  have sz32 := sz_st2 ew32
  replace zr0 := fz_st zr0 ew32
  replace zr1 := fz_st zr1 ew32
  replace hr0 := cl_st hr0 ew32 (by intro e; simp at e <;> omega)
  replace hr1 := cl_st' hr1 ew32
  replace hq0 := cl_st hq0 ew32 (by intro e; simp at e <;> omega)
  replace pj' := cl_st pj' ew32 (by intro e; simp at e <;> omega)
  replace p0 := cl_st p0 ew32 (by intro e; simp at e <;> omega)
  replace p1 := cl_st p1 ew32 (by intro e; simp at e <;> omega)
  replace p2 := cl_st p2 ew32 (by intro e; simp at e <;> omega)
  replace p3 := cl_st p3 ew32 (by intro e; simp at e <;> omega)
  replace kp := kp.stN ew32 (by first | (left; simp; done) | (right; left; simp; done) | (right; right; dsimp only; omega))
  iterate 2 (refine F.oq rfl rfl rfl (by simp [go_sem]) fun d K h => ?_; go_simp; refine h _ ?_; clear h K d; try walk_nrm)
  refine F.re ?_
  refine F.ctl (fun _ => stepG_ret') ?_
  refine F.leaveE (v := .tuple #[.agg #[.slice (some ⟨n7, 0, none⟩) 1 1, .slice xe m ce], .int .i64 0, .int .i64 0]) rfl rfl Tryz.func24 (fun d => ?_) (fun d es hes => DX.still _ (fun e he => ?_)) ?_
  · simp [results, go_sem, *]
  · have hm := hes e he
    simp [results, go_sem, *] at hm
    rcases hm with rfl | rfl <;> exact .inl ⟨_, rfl, rfl, by assumption, lt_of_cell (by assumption)⟩
  have hks := kp.size
  refine hret A n7 P x q cap xe m ce xs _ (by omega) (by omega) (by omega) (by omega) (by omega) (hCx P x q cap _ _ _ _ kp (by simp) (by simp; omega) hcx) hm hkm (fun h0 => ?_) p0 p1 p2 p3 (fun a v ha _ hv => ?_) (by omega)
  · obtain ⟨g, cap, h1, h2, h3⟩ := hev h0
    simp only [Value.slice.injEq] at h1
    exact ⟨g, h1.1, by omega, h3.kp kp (by simp) (by simp; omega)⟩
  have t1 := kp0.cell a v (by simp) hv
  have t2 := kp0.froz a v (by simp) hv
  have t3 := hstay a v (by show a.block < P; omega) (by simp only [List.mem_cons, List.not_mem_nil, or_false, not_or]; refine ⟨?_, ?_, ?_, ?_, ?_⟩ <;> (try show a.block ≠ n3) <;> (try show a.block ≠ A) <;> (try show a.block ≠ T) <;> omega) t1
  have ha1 : a ∉ [(⟨n1, 0, none⟩ : Addr), ⟨n1, 1, none⟩] := fun z => by simp at z; rcases z with rfl | rfl <;> (dsimp only at ha; omega)
  exact ⟨kp.cellC a v (by simp) ha1 t3.1, (kp.frozC a v (by simp) ha1 t3.1).trans (t3.2.trans t2)⟩
end

end Go.Proofs.YtobagnjnbmgidaaGreatDoor
