/- What the agenda's goroutine does with an entry: a task is started; a task is woken. -/
import Derived.Test.YtobagnjnbmgidaaGreatDoorV13
import Derived.Test.YtobagnjnbmgidaaGreatDoorX41
set_option linter.unusedSimpArgs false
set_option linter.unusedVariables false
set_option maxHeartbeats 8000000
set_option maxRecDepth 100000
namespace Go.Proofs.YtobagnjnbmgidaaGreatDoor
open Go.Conc Go.RowKit

/-- Served at either case, it comes to the loop's head. -/
def HomeA (A wch ech : Nat) (cs : List Frame) (g : Goroutine) : Prop := ∀ kk : Nat, kk < 2 → ∀ Φ, CF Tryz.prog true Φ → (∀ g', Hd39 A cs g' → Φ g') → Φ (Go.Conc.served g (commResult (cases0 wch ech) .select kk (.agg #[]) true))
/-- On its way to the agenda's seat, reading these places. -/
def WayA (A wch ech : Nat) (cs : List Frame) (pl : List (Addr × Value)) (a : Goroutine) : Prop := ∀ (K : World → Prop) (Still : Loc → Prop) (B : Nat) (w : World), (∀ w, K w → ∀ p ∈ pl, w.cell? p.1 = some p.2) → (∀ p ∈ pl, Still (.cell p.1) ∧ p.1.block < B) →
  ∃ n, Goes Tryz.prog true (RK K) (DS Still B) (fun g _ => ∃ g₂, AtIn Tryz.prog true K Still B (seat0 wch ech (HomeA A wch ech cs)) g g₂) n a w
def plA (A wch ech : Nat) : List (Addr × Value) := [(⟨A, 3, none⟩, .chan (some wch)), (⟨A, 4, none⟩, .chan (some ech))]
/-- About to spawn. -/
def SpawnA (A wch ech X bg bf : Nat) (cs : List Frame) (a : Goroutine) : Prop :=
  a.status = .running ∧ ∃ a', (∀ w, stepG Tryz.prog true a w = .spawn a' (born Tryz.prog (call89 bg bf)) w #[]) ∧ WayA A wch ech cs ((⟨X, 0, none⟩, .pointer (some ⟨A, 0, none⟩)) :: plA A wch ech) a'
/-- About to give. -/
def GiveA (A wch ech tch : Nat) (cs : List Frame) (a : Goroutine) : Prop :=
  a.status = .running ∧ (∀ w, stepG Tryz.prog true a w = .comm a #[scase tch (.int .i64 1) (.tuple #[])] true .send w #[]) ∧ WayA A wch ech cs (plA A wch ech) (Go.Conc.served a undef)

variable {Ok : Addr → Bool → Prop} {Ψ : Goroutine → World → Prop}

theorem start_u (F : Fut Tryz.prog true (DX Ok) Ψ) (A T wch ech ba bt0 bw0 : Nat) (fa : Array Value) (fr : Frame) (cs : List Frame) (w0 : World) (hfr39 : Back39 A cs fr)
    (hba : w0.cell? ⟨ba, 0, none⟩ = some (.pointer (some ⟨A, 0, none⟩))) (hbt0 : w0.cell? ⟨bt0, 0, none⟩ = some (.pointer (some ⟨T, 0, none⟩))) (hbw0 : w0.cell? ⟨bw0, 0, none⟩ = some (.func (.func 37) #[] fa))
    (o1 : Ok ⟨ba, 0, none⟩ false) (o2 : Ok ⟨bt0, 0, none⟩ false) (o3 : Ok ⟨bw0, 0, none⟩ false) (hfr : ∀ (a : Addr) (wr : Bool), w0.heap.size ≤ a.block → Ok a wr)
    (hc : ∀ c cs' w1 X bt bw bg bf, (∀ Φ, CF Tryz.prog true Φ → (∀ a, SpawnA A wch ech X bg bf cs a → Φ a) → Φ (G (c.finish (.tuple #[])) cs')) → Kp [] w0 w1 → (∀ b ∈ [X, bt, bw, bg, bf], w0.heap.size ≤ b ∧ b < w1.heap.size) →
      w1.cell? ⟨X, 0, none⟩ = some (.pointer (some ⟨A, 0, none⟩)) → w1.cell? ⟨bt, 0, none⟩ = some (.pointer (some ⟨T, 0, none⟩)) → w1.cell? ⟨bw, 0, none⟩ = some (.func (.func 37) #[] fa) → w1.cell? ⟨bg, 0, none⟩ = some (.pointer (some ⟨A, 5, none⟩)) →
      w1.cell? ⟨bf, 0, none⟩ = some (.func (.func 62) #[] #[.pointer (some ⟨bw, 0, none⟩), .pointer (some ⟨bt, 0, none⟩), .pointer (some ⟨X, 0, none⟩)]) → Ψ (G (Frame.enter Tryz.prog 88 #[.pointer (some ⟨A, 5, none⟩), .int .i64 1] .normal) (c :: cs')) w1) :
    Ψ (G (Frame.enter Tryz.prog 50 (#[] ++ #[.pointer (some ⟨ba, 0, none⟩), .pointer (some ⟨bt0, 0, none⟩), .pointer (some ⟨bw0, 0, none⟩)]) .normal) (fr :: cs)) w0 := by
  have hrsf := rst_func; have e0 : (#[] : Array Value) ++ #[.pointer (some ⟨ba, 0, none⟩), .pointer (some ⟨bt0, 0, none⟩), .pointer (some ⟨bw0, 0, none⟩)] = #[.pointer (some ⟨ba, 0, none⟩), .pointer (some ⟨bt0, 0, none⟩), .pointer (some ⟨bw0, 0, none⟩)] := rfl; rw [e0]; clear e0; rw [enter_at _ Tryz.func50 rfl]; simp only [Tryz.ntmps50, List.size_toArray, List.length_cons, List.length_nil, Nat.reduceAdd, Nat.reduceSub, Array.replicate_succ, Array.replicate_zero, List.push_toArray, List.append_toArray, List.nil_append, List.cons_append]; refine F.rr ?_; simp only [rg, Nat.reduceAdd]; refine F.ol rfl rfl rfl fun d K h => ?_; go_simp; refine h _ (fun e m => ?_) ?_; simp [go_sem, *] at m; subst m; exact evr (w := w0) (by assumption) (by first | assumption | (apply hfr <;> dsimp only <;> omega)); clear h K d; try walk_nrm
  refine F.ol rfl rfl rfl fun d K h => ?_; go_simp; refine h _ (fun e m => ?_) ?_; simp [go_sem, *] at m; subst m; exact evr (w := w0) (by assumption) (by first | assumption | (apply hfr <;> dsimp only <;> omega)); clear h K d; try walk_nrm
  refine F.ol rfl rfl rfl fun d K h => ?_; go_simp; refine h _ (fun e m => ?_) ?_; simp [go_sem, *] at m; subst m; exact evr (w := w0) (by assumption) (by first | assumption | (apply hfr <;> dsimp only <;> omega)); clear h K d; try walk_nrm
  refine F.enter rfl rfl (by decide) (fun _ => run_call_body rfl Tryz.func51 (by rfl) (by rfl)) (fun _ => events_call_body rfl Tryz.func51 (by rfl) (by rfl) _) ?_; walk_nrm; rw [enter_at _ Tryz.func51 rfl]; simp only [Tryz.ntmps51, List.size_toArray, List.length_cons, List.length_nil, Nat.reduceAdd, Nat.reduceSub, Array.replicate_succ, Array.replicate_zero, List.push_toArray, List.append_toArray, List.nil_append, List.cons_append]; refine F.sr ?_; simp only [rg, Nat.reduceAdd]; refine F.op rfl rfl (by decide) (fun d K hK => ?_); go_simp; rw [alloc_at']; refine hK _ _ ⟨DX.alloc _ _ (fun e he => ?_), ?_⟩
  · have hm := mem_listed he
    simp [go_sem] at hm
  clear hK K d; try walk_nrm
  generalize ew1 : World.alloc w0 _ = w1; generalize hn1 : (World.heap w0).size = n1; have sz1 := sz_al2 ew1 hn1; replace hba := cl_al hba ew1; replace hbt0 := cl_al hbt0 ew1; replace hbw0 := cl_al hbw0 ew1; have hx0 := cl_new (i := 0) ew1 hn1 rfl; have zx0 := fz_new ew1 hn1 0; try simp only [List.getElem_toArray, List.getElem_cons_zero, List.getElem_cons_succ] at hx0
  have kp : Kp [] w0 w0 [] := Kp.refl _; replace kp := kp.alN ew1; refine F.op rfl rfl (by decide) (fun d K hK => ?_); go_simp; rw [alloc_at']; refine hK _ _ ⟨DX.alloc _ _ (fun e he => ?_), ?_⟩
  · have hm := mem_listed he
    simp [go_sem] at hm
  clear hK K d; try walk_nrm
  generalize ew2 : World.alloc w1 _ = w2; generalize hn2 : (World.heap w1).size = n2; have sz2 := sz_al2 ew2 hn2; replace zx0 := fz_al zx0 hx0 ew2; replace hba := cl_al hba ew2; replace hbt0 := cl_al hbt0 ew2; replace hbw0 := cl_al hbw0 ew2; replace hx0 := cl_al hx0 ew2; have ht1 := cl_new (i := 0) ew2 hn2 rfl; have zt1 := fz_new ew2 hn2 0; try simp only [List.getElem_toArray, List.getElem_cons_zero, List.getElem_cons_succ] at ht1
  replace kp := kp.alN ew2; refine F.op rfl rfl (by decide) (fun d K hK => ?_); go_simp; rw [alloc_at']; refine hK _ _ ⟨DX.alloc _ _ (fun e he => ?_), ?_⟩
  · have hm := mem_listed he
    simp [go_sem] at hm
  clear hK K d; try walk_nrm
  generalize ew3 : World.alloc w2 _ = w3; generalize hn3 : (World.heap w2).size = n3; have sz3 := sz_al2 ew3 hn3; replace zx0 := fz_al zx0 hx0 ew3; replace zt1 := fz_al zt1 ht1 ew3; replace hba := cl_al hba ew3; replace hbt0 := cl_al hbt0 ew3; replace hbw0 := cl_al hbw0 ew3; replace hx0 := cl_al hx0 ew3; replace ht1 := cl_al ht1 ew3; have hwk := cl_new (i := 0) ew3 hn3 rfl; have zwk := fz_new ew3 hn3 0; try simp only [List.getElem_toArray, List.getElem_cons_zero, List.getElem_cons_succ] at hwk
  replace kp := kp.alN ew3; refine F.esr ?_; simp only [rg, Nat.reduceAdd]; refine F.ol rfl rfl rfl fun d K h => ?_; go_simp; refine h _ (fun e m => ?_) ?_; simp [go_sem, *] at m; subst m; exact evr (w := w3) (by assumption) (by first | assumption | (apply hfr <;> dsimp only <;> omega)); clear h K d; try walk_nrm
  iterate 3 (refine F.oq rfl rfl rfl (by simp [go_sem]) fun d K h => ?_; go_simp; refine h _ ?_; clear h K d; try walk_nrm)
  refine F.enter rfl rfl (by decide) (fun _ => run_call_body rfl Tryz.func61 (by rfl) (by rfl)) (fun _ => events_call_body rfl Tryz.func61 (by rfl) (by rfl) _) ?_; walk_nrm; rw [enter_at _ Tryz.func61 rfl]; simp only [Tryz.ntmps61, List.size_toArray, List.length_cons, List.length_nil, Nat.reduceAdd, Nat.reduceSub, Array.replicate_succ, Array.replicate_zero, List.push_toArray, List.append_toArray, List.nil_append, List.cons_append]; refine F.sr ?_; simp only [rg, Nat.reduceAdd]; refine F.op rfl rfl (by decide) (fun d K hK => ?_); go_simp; rw [alloc_at']; refine hK _ _ ⟨DX.alloc _ _ (fun e he => ?_), ?_⟩
  · have hm := mem_listed he
    simp [go_sem] at hm
  clear hK K d; try walk_nrm
  generalize ew4 : World.alloc w3 _ = w4; generalize hn4 : (World.heap w3).size = n4; have sz4 := sz_al2 ew4 hn4; replace zx0 := fz_al zx0 hx0 ew4; replace zt1 := fz_al zt1 ht1 ew4; replace zwk := fz_al zwk hwk ew4; replace hba := cl_al hba ew4; replace hbt0 := cl_al hbt0 ew4; replace hbw0 := cl_al hbw0 ew4; replace hx0 := cl_al hx0 ew4; replace ht1 := cl_al ht1 ew4; replace hwk := cl_al hwk ew4; have hg0 := cl_new (i := 0) ew4 hn4 rfl; have zg0 := fz_new ew4 hn4 0; try simp only [List.getElem_toArray, List.getElem_cons_zero, List.getElem_cons_succ] at hg0
  replace kp := kp.alN ew4; refine F.op rfl rfl (by decide) (fun d K hK => ?_); go_simp; rw [alloc_at']; refine hK _ _ ⟨DX.alloc _ _ (fun e he => ?_), ?_⟩
  · have hm := mem_listed he
    simp [go_sem] at hm
  clear hK K d; try walk_nrm
  generalize ew5 : World.alloc w4 _ = w5; generalize hn5 : (World.heap w4).size = n5; have sz5 := sz_al2 ew5 hn5; replace zx0 := fz_al zx0 hx0 ew5; replace zt1 := fz_al zt1 ht1 ew5; replace zwk := fz_al zwk hwk ew5; replace zg0 := fz_al zg0 hg0 ew5; replace hba := cl_al hba ew5; replace hbt0 := cl_al hbt0 ew5; replace hbw0 := cl_al hbw0 ew5; replace hx0 := cl_al hx0 ew5; replace ht1 := cl_al ht1 ew5; replace hwk := cl_al hwk ew5; replace hg0 := cl_al hg0 ew5; have hfn := cl_new (i := 0) ew5 hn5 rfl; have zfn := fz_new ew5 hn5 0; try simp only [List.getElem_toArray, List.getElem_cons_zero, List.getElem_cons_succ] at hfn
  replace kp := kp.alN ew5; refine F.esr ?_; simp only [rg, Nat.reduceAdd]; refine F.ol rfl rfl rfl fun d K h => ?_; go_simp; refine h _ (fun e m => ?_) ?_; simp [go_sem, *] at m; subst m; exact evr (w := w5) (by assumption) (by first | assumption | (apply hfr <;> dsimp only <;> omega)); clear h K d; try walk_nrm
  refine F.enter rfl rfl (by decide) (fun _ => run_call_body rfl Tryz.func88 (by rfl) (by rfl)) (fun _ => events_call_body rfl Tryz.func88 (by rfl) (by rfl) _) ?_; walk_nrm; refine hc _ _ w5 n1 n2 n3 n4 n5 ?_ kp (by intro b hb; simp at hb; rcases hb with rfl | rfl | rfl | rfl | rfl <;> omega) hx0 ht1 hwk hg0 hfn; clear F; intro Φ F ht; rw [Frame.finish_at]; try walk_nrm
  refine F.er ?_; simp only [rg, Nat.reduceAdd]; refine F.oq rfl rfl rfl (by simp [go_sem]) (fun w hw => by go_simp; first | exact ⟨rfl, rfl⟩ | exact rfl) ?_; try walk_nrm
  refine ht _ ⟨rfl, ?_⟩
  apply Exists.intro
  constructor
  · intro w
    rw [stepG_spawn (d := call89 n4 n5) (f := .func 89) (c := #[.pointer (some ⟨n4, 0, none⟩), .pointer (some ⟨n5, 0, none⟩)]) (w' := w) rfl rfl (by decide) (by simp [execOp, call89, resolve, Deferred.ofValue, Act.eval]) rfl]; rw [listed_nil (by simp [execOp, resolve, Deferred.ofValue, Act.eval])]
  · intro K Still B w hK hS
    clear F; have F := qf_seat (P := Tryz.prog) (K := K) (Still := Still) (B := B) true (seat0 wch ech (HomeA A wch ech cs)) w; have fX : ∀ w, K w → w.cell? ⟨n1, 0, none⟩ = some (.pointer (some ⟨A, 0, none⟩)) := fun w h => hK w h (⟨n1, 0, none⟩, _) (by simp)
    have f3 : ∀ w, K w → w.cell? ⟨A, 3, none⟩ = some (.chan (some wch)) := fun w h => hK w h (⟨A, 3, none⟩, _) (by simp [plA])
    have f4 : ∀ w, K w → w.cell? ⟨A, 4, none⟩ = some (.chan (some ech)) := fun w h => hK w h (⟨A, 4, none⟩, _) (by simp [plA])
    have sX := hS (⟨n1, 0, none⟩, .pointer (some ⟨A, 0, none⟩)) (by simp); have s3 := hS (⟨A, 3, none⟩, .chan (some wch)) (by simp [plA]); have s4 := hS (⟨A, 4, none⟩, .chan (some ech)) (by simp [plA]); try walk_nrm
    refine F.re ?_; refine F.ctl (fun _ => stepG_end) ?_; refine F.leave rfl rfl Tryz.func61 (resultsC_none (by rfl) _) ?_; rw [Frame.finish_at]; try walk_nrm
    refine F.er ?_; simp only [rg, Nat.reduceAdd]
    apply F.op rfl rfl (by decide)
    · intro w hw e he
      have hfact := fX w hw; simp [go_sem, hfact] at he; subst he; exact ⟨_, rfl, sX.1, sX.2⟩
    · intro w hw
      have hfact := fX w hw; go_simp
      first | exact ⟨rfl, rfl⟩ | exact rfl
    try walk_nrm
    refine F.enter rfl rfl (by decide) (fun _ => run_call_body rfl Tryz.func63 (by rfl) (by rfl)) (fun _ => events_call_body rfl Tryz.func63 (by rfl) (by rfl) _) ?_; walk_nrm; refine way63 A wch ech f3 f4 s3.1 s4.1 s3.2 _ _ (fun g hg kk hkk Φ F ht => hg kk hkk Φ F ?_) _; rw [Frame.finish_at]; try walk_nrm
    refine F.re ?_; refine F.ctl (fun _ => stepG_end) ?_; refine F.leave rfl rfl Tryz.func51 (resultsC_none (by rfl) _) ?_; rw [Frame.finish_at]; try walk_nrm
    refine F.re ?_; refine F.ctl (fun _ => stepG_end) ?_; refine F.leave rfl rfl Tryz.func50 (resultsC_none (by rfl) _) ?_; exact hfr39 Φ F ht

theorem wake_u (F : Fut Tryz.prog true (DX Ok) Ψ) (A T x wch ech tch : Nat) (fr : Frame) (cs : List Frame) (w0 : World) (hfr39 : Back39 A cs fr)
    (hX0 : w0.cell? ⟨x, 0, none⟩ = some (.pointer (some ⟨T, 0, none⟩))) (hX1 : w0.cell? ⟨x, 1, none⟩ = some (.int .i64 0)) (zX1 : w0.frozen? ⟨x, 1, none⟩ = false) (hT0 : w0.cell? ⟨T, 0, none⟩ = some (.pointer (some ⟨A, 0, none⟩))) (hT3 : w0.cell? ⟨T, 3, none⟩ = some (.chan (some tch)))
    (o1 : Ok ⟨x, 0, none⟩ false) (o2 : Ok ⟨x, 1, none⟩ false) (o3 : Ok ⟨x, 1, none⟩ true) (o4 : Ok ⟨T, 0, none⟩ false) (o5 : Ok ⟨T, 3, none⟩ false) (nxT : x ≠ T)
    (hc : ∀ a w1, GiveA A wch ech tch cs a → Kp [] w0 w1 [⟨x, 1, none⟩] → Ψ a w1) :
    Ψ (G (Frame.enter Tryz.prog 144 (#[.pointer (some ⟨x, 0, none⟩)] ++ #[]) .normal) (fr :: cs)) w0 := by
  have hi0 : ((0 : Int) == 0) = true := rfl; have lx : x < w0.heap.size := lt_of_cell hX1; rw [Array.append_empty]; rw [enter_at _ Tryz.func144 rfl]; simp only [Tryz.ntmps144, List.size_toArray, List.length_cons, List.length_nil, Nat.reduceAdd, Nat.reduceSub, Array.replicate_succ, Array.replicate_zero, List.push_toArray, List.append_toArray, List.nil_append, List.cons_append]; refine F.sr ?_; simp only [rg, Nat.reduceAdd]; iterate 3 (refine F.oq rfl rfl rfl (by simp [go_sem]) fun d K h => ?_; go_simp; refine h _ ?_; clear h K d; try walk_nrm)
  refine F.ol rfl rfl rfl fun d K h => ?_; go_simp; refine h _ (fun e m => ?_) ?_; simp [go_sem, *] at m; subst m; exact evr (w := w0) (by assumption) (by first | assumption | (apply hfr <;> dsimp only <;> omega)); clear h K d; try walk_nrm
  refine F.oq rfl rfl rfl (by simp [go_sem]) fun d K h => ?_; go_simp; refine h _ ?_; clear h K d; try walk_nrm
  refine F.re ?_; refine F.ct rfl ?_; refine F.sr ?_; simp only [rg, Nat.reduceAdd]; iterate 3 (refine F.oq rfl rfl rfl (by simp [go_sem]) fun d K h => ?_; go_simp; refine h _ ?_; clear h K d; try walk_nrm)
  refine F.op rfl rfl (by decide) (fun d K hK => ?_); go_simp; rw [setCell_at']; refine hK _ _ ⟨DX.set _ (by (first | assumption | (apply hfr <;> dsimp only <;> omega))) (fun e he => ?_), ?_⟩
  · have hm := mem_listed he
    simp [go_sem, storedEv, evst_slice, evst_ptr, evst_iface, evst_nil, evst_bool, evst_func, *] at hm; subst hm; exact .inl ⟨_, rfl, rfl, by (first | assumption | (apply hfr <;> dsimp only <;> omega)), by simp only [size_at, size_set]; first | omega | exact lt_of_cell (by assumption)⟩
  clear hK K d; try walk_nrm
  generalize ew1 : World.setCell w0 _ _ = w1; have sz1 := sz_st2 ew1; replace zX1 := fz_st zX1 ew1; replace hX0 := cl_st hX0 ew1 (by simp <;> omega); replace hX1 := cl_st' hX1 ew1; replace hT0 := cl_st hT0 ew1 (by simp <;> omega); replace hT3 := cl_st hT3 ew1 (by simp <;> omega); have kp : Kp [] w0 w0 [⟨x, 1, none⟩] := Kp.refl _; replace kp := kp.stN ew1 (by first | (left; simp; done) | (right; left; simp; done) | (right; right; dsimp only; omega)); refine F.er ?_; simp only [rg, Nat.reduceAdd]; iterate 3 (refine F.oq rfl rfl rfl (by simp [go_sem]) fun d K h => ?_; go_simp; refine h _ ?_; clear h K d; try walk_nrm)
  refine F.ol rfl rfl rfl fun d K h => ?_; go_simp; refine h _ (fun e m => ?_) ?_; simp [go_sem, *] at m; subst m; exact evr (w := w1) (by assumption) (by first | assumption | (apply hfr <;> dsimp only <;> omega)); clear h K d; try walk_nrm
  iterate 2 (refine F.oq rfl rfl rfl (by simp [go_sem]) fun d K h => ?_; go_simp; refine h _ ?_; clear h K d; try walk_nrm)
  refine F.ol rfl rfl rfl fun d K h => ?_; go_simp; refine h _ (fun e m => ?_) ?_; simp [go_sem, *] at m; subst m; exact evr (w := w1) (by assumption) (by first | assumption | (apply hfr <;> dsimp only <;> omega)); clear h K d; try walk_nrm
  refine F.oq rfl rfl rfl (by simp [go_sem]) fun d K h => ?_; go_simp; refine h _ ?_; clear h K d; try walk_nrm
  refine F.enter rfl rfl (by decide) (fun _ => run_call_body rfl Tryz.func155 (by rfl) (by rfl)) (fun _ => events_call_body rfl Tryz.func155 (by rfl) (by rfl) _) ?_; walk_nrm; rw [enter_at _ Tryz.func155 rfl]; simp only [Tryz.ntmps155, List.size_toArray, List.length_cons, List.length_nil, Nat.reduceAdd, Nat.reduceSub, Array.replicate_succ, Array.replicate_zero, List.push_toArray, List.append_toArray, List.nil_append, List.cons_append]; refine F.sq ?_; refine F.drawB (γ := Unit) (n := 12) mixed [[], [0], [1], [2], [3], [4], [5], [], [7], [8], [9], [6, 10]] rfl (by kernel_rfl) (fun b g => [(4, sel (b 0) (.pointer (some ⟨x, 0, none⟩)) (undef)), (5, sel (b 1) (.pointer (some ⟨x, 0, none⟩)) (undef)), (6, sel (b 2) (.pointer (some ⟨x, 0, none⟩)) (undef)), (7, sel (b 3) (.pointer (some ⟨T, 0, none⟩)) (undef)), (8, sel (b 4) (.pointer (some ⟨T, 0, none⟩)) (undef)), (9, sel (b 5) (.pointer (some ⟨T, 3, none⟩)) (undef)), (10, sel (b 6) (.chan (some tch)) (undef)), (11, sel (b 7) (.pointer (some ⟨x, 0, none⟩)) (undef)), (12, sel (b 8) (.pointer (some ⟨x, 0, none⟩)) (undef)), (13, sel (b 9) (.pointer (some ⟨x, 1, none⟩)) (undef)), (14, sel (b 10) (.int .i64 1) (undef))]) (fun b g w => (b 11 = false → w = w1) ∧ (b 11 = true → ( False))) (()) (by simp only [pu, Nat.reduceAdd, Nat.reduceEqDiff, reduceIte]) (⟨fun _ => rfl, fun h => by cases h⟩) (all_cons ?_ (all_cons ?_ (all_cons ?_ (all_cons ?_ (all_cons ?_ (all_cons ?_ (all_cons ?_ (all_cons ?_ (all_cons ?_ (all_cons ?_ (all_cons ?_ (all_cons ?_ (all_nil))))))))))))) ?_
  · intro b g w hI hcl hbi hdp rest hre hkk
    obtain ⟨hwf, hwt⟩ := hI; replace hbi : b 0 = false := hbi; have nb1 := nbf (hcl 1 0 rfl) hbi; have nb2 := nbf (hcl 2 1 rfl) nb1; have nb3 := nbf (hcl 3 2 rfl) nb2; have nb4 := nbf (hcl 4 3 rfl) nb3; have nb5 := nbf (hcl 5 4 rfl) nb4; have nb6 := nbf (hcl 6 5 rfl) nb5; have nb11 := nbf (hcl 11 6 rfl) nb6; have ewc := (hwf nb11).symm; subst ewc; simp only [nb1, nb2, nb3, nb4, nb5, nb6, nb11, hbi, pu, Nat.reduceAdd, Nat.reduceEqDiff, reduceIte]; refine F.oq rfl rfl rfl (by simp [go_sem]) fun d K h => ?_; go_simp; refine h _ ?_; clear h K d; try walk_nrm
    have hk2 := hkk g _ ⟨fun _ => rfl, fun h => no nb11 h⟩; simp only [nb1, nb2, nb3, nb4, nb5, nb6, nb11, hbi, pu, Nat.reduceAdd, Nat.reduceEqDiff, reduceIte] at hk2; exact hk2
  · intro b g w hI hcl hbi hdp rest hre hkk
    obtain ⟨hwf, hwt⟩ := hI; replace hbi : b 1 = false := hbi; have d0 := hdp 0 rfl; have nb2 := nbf (hcl 2 1 rfl) hbi; have nb3 := nbf (hcl 3 2 rfl) nb2; have nb4 := nbf (hcl 4 3 rfl) nb3; have nb5 := nbf (hcl 5 4 rfl) nb4; have nb6 := nbf (hcl 6 5 rfl) nb5; have nb11 := nbf (hcl 11 6 rfl) nb6; have ewc := (hwf nb11).symm; subst ewc; simp only [d0, nb2, nb3, nb4, nb5, nb6, nb11, hbi, pu, Nat.reduceAdd, Nat.reduceEqDiff, reduceIte]; refine F.oq rfl rfl rfl (by simp [go_sem]) fun d K h => ?_; go_simp; refine h _ ?_; clear h K d; try walk_nrm
    have hk2 := hkk g _ ⟨fun _ => rfl, fun h => no nb11 h⟩; simp only [d0, nb2, nb3, nb4, nb5, nb6, nb11, hbi, pu, Nat.reduceAdd, Nat.reduceEqDiff, reduceIte] at hk2; exact hk2
  · intro b g w hI hcl hbi hdp rest hre hkk
    obtain ⟨hwf, hwt⟩ := hI; replace hbi : b 2 = false := hbi; have d1 := hdp 1 rfl; have nb3 := nbf (hcl 3 2 rfl) hbi; have nb4 := nbf (hcl 4 3 rfl) nb3; have nb5 := nbf (hcl 5 4 rfl) nb4; have nb6 := nbf (hcl 6 5 rfl) nb5; have nb11 := nbf (hcl 11 6 rfl) nb6; have ewc := (hwf nb11).symm; subst ewc; simp only [d1, nb3, nb4, nb5, nb6, nb11, hbi, pu, Nat.reduceAdd, Nat.reduceEqDiff, reduceIte]; refine F.oq rfl rfl rfl (by simp [go_sem]) fun d K h => ?_; go_simp; refine h _ ?_; clear h K d; try walk_nrm
    have hk2 := hkk g _ ⟨fun _ => rfl, fun h => no nb11 h⟩; simp only [d1, nb3, nb4, nb5, nb6, nb11, hbi, pu, Nat.reduceAdd, Nat.reduceEqDiff, reduceIte] at hk2; exact hk2
  · intro b g w hI hcl hbi hdp rest hre hkk
    obtain ⟨hwf, hwt⟩ := hI; replace hbi : b 3 = false := hbi; have d2 := hdp 2 rfl; have nb4 := nbf (hcl 4 3 rfl) hbi; have nb5 := nbf (hcl 5 4 rfl) nb4; have nb6 := nbf (hcl 6 5 rfl) nb5; have nb11 := nbf (hcl 11 6 rfl) nb6; have ewc := (hwf nb11).symm; subst ewc; simp only [d2, nb4, nb5, nb6, nb11, hbi, pu, Nat.reduceAdd, Nat.reduceEqDiff, reduceIte]; refine F.ol rfl rfl rfl fun d K h => ?_; go_simp; refine h _ (fun e m => ?_) ?_; simp [go_sem, *] at m; subst m; exact evr (w := w1) (by assumption) (by first | assumption | (apply hfr <;> dsimp only <;> omega)); clear h K d; try walk_nrm
    have hk2 := hkk g _ ⟨fun _ => rfl, fun h => no nb11 h⟩; simp only [d2, nb4, nb5, nb6, nb11, hbi, pu, Nat.reduceAdd, Nat.reduceEqDiff, reduceIte] at hk2; exact hk2
  · intro b g w hI hcl hbi hdp rest hre hkk
    obtain ⟨hwf, hwt⟩ := hI; replace hbi : b 4 = false := hbi; have d3 := hdp 3 rfl; have nb5 := nbf (hcl 5 4 rfl) hbi; have nb6 := nbf (hcl 6 5 rfl) nb5; have nb11 := nbf (hcl 11 6 rfl) nb6; have ewc := (hwf nb11).symm; subst ewc; simp only [d3, nb5, nb6, nb11, hbi, pu, Nat.reduceAdd, Nat.reduceEqDiff, reduceIte]; refine F.oq rfl rfl rfl (by simp [go_sem]) fun d K h => ?_; go_simp; refine h _ ?_; clear h K d; try walk_nrm
    have hk2 := hkk g _ ⟨fun _ => rfl, fun h => no nb11 h⟩; simp only [d3, nb5, nb6, nb11, hbi, pu, Nat.reduceAdd, Nat.reduceEqDiff, reduceIte] at hk2; exact hk2
  · intro b g w hI hcl hbi hdp rest hre hkk
    obtain ⟨hwf, hwt⟩ := hI; replace hbi : b 5 = false := hbi; have d4 := hdp 4 rfl; have nb6 := nbf (hcl 6 5 rfl) hbi; have nb11 := nbf (hcl 11 6 rfl) nb6; have ewc := (hwf nb11).symm; subst ewc; simp only [d4, nb6, nb11, hbi, pu, Nat.reduceAdd, Nat.reduceEqDiff, reduceIte]; refine F.oq rfl rfl rfl (by simp [go_sem]) fun d K h => ?_; go_simp; refine h _ ?_; clear h K d; try walk_nrm
    have hk2 := hkk g _ ⟨fun _ => rfl, fun h => no nb11 h⟩; simp only [d4, nb6, nb11, hbi, pu, Nat.reduceAdd, Nat.reduceEqDiff, reduceIte] at hk2; exact hk2
  · intro b g w hI hcl hbi hdp rest hre hkk
    obtain ⟨hwf, hwt⟩ := hI; replace hbi : b 6 = false := hbi; have d5 := hdp 5 rfl; have nb11 := nbf (hcl 11 6 rfl) hbi; have ewc := (hwf nb11).symm; subst ewc; simp only [d5, nb11, hbi, pu, Nat.reduceAdd, Nat.reduceEqDiff, reduceIte]; refine F.ol rfl rfl rfl fun d K h => ?_; go_simp; refine h _ (fun e m => ?_) ?_; simp [go_sem, *] at m; subst m; exact evr (w := w1) (by assumption) (by first | assumption | (apply hfr <;> dsimp only <;> omega)); clear h K d; try walk_nrm
    have hk2 := hkk g _ ⟨fun _ => rfl, fun h => no nb11 h⟩; simp only [d5, nb11, hbi, pu, Nat.reduceAdd, Nat.reduceEqDiff, reduceIte] at hk2; exact hk2
  · intro b g w hI hcl hbi hdp rest hre hkk
    obtain ⟨hwf, hwt⟩ := hI; replace hbi : b 7 = false := hbi; have nb8 := nbf (hcl 8 7 rfl) hbi; have nb9 := nbf (hcl 9 8 rfl) nb8; have nb10 := nbf (hcl 10 9 rfl) nb9; have nb11 := nbf (hcl 11 10 rfl) nb10; have ewc := (hwf nb11).symm; subst ewc; simp only [nb8, nb9, nb10, nb11, hbi, pu, Nat.reduceAdd, Nat.reduceEqDiff, reduceIte]; refine F.oq rfl rfl rfl (by simp [go_sem]) fun d K h => ?_; go_simp; refine h _ ?_; clear h K d; try walk_nrm
    have hk2 := hkk g _ ⟨fun _ => rfl, fun h => no nb11 h⟩; simp only [nb8, nb9, nb10, nb11, hbi, pu, Nat.reduceAdd, Nat.reduceEqDiff, reduceIte] at hk2; exact hk2
  · intro b g w hI hcl hbi hdp rest hre hkk
    obtain ⟨hwf, hwt⟩ := hI; replace hbi : b 8 = false := hbi; have d7 := hdp 7 rfl; have nb9 := nbf (hcl 9 8 rfl) hbi; have nb10 := nbf (hcl 10 9 rfl) nb9; have nb11 := nbf (hcl 11 10 rfl) nb10; have ewc := (hwf nb11).symm; subst ewc; simp only [d7, nb9, nb10, nb11, hbi, pu, Nat.reduceAdd, Nat.reduceEqDiff, reduceIte]; refine F.oq rfl rfl rfl (by simp [go_sem]) fun d K h => ?_; go_simp; refine h _ ?_; clear h K d; try walk_nrm
    have hk2 := hkk g _ ⟨fun _ => rfl, fun h => no nb11 h⟩; simp only [d7, nb9, nb10, nb11, hbi, pu, Nat.reduceAdd, Nat.reduceEqDiff, reduceIte] at hk2; exact hk2
  · intro b g w hI hcl hbi hdp rest hre hkk
    obtain ⟨hwf, hwt⟩ := hI; replace hbi : b 9 = false := hbi; have d8 := hdp 8 rfl; have nb10 := nbf (hcl 10 9 rfl) hbi; have nb11 := nbf (hcl 11 10 rfl) nb10; have ewc := (hwf nb11).symm; subst ewc; simp only [d8, nb10, nb11, hbi, pu, Nat.reduceAdd, Nat.reduceEqDiff, reduceIte]; refine F.oq rfl rfl rfl (by simp [go_sem]) fun d K h => ?_; go_simp; refine h _ ?_; clear h K d; try walk_nrm
    have hk2 := hkk g _ ⟨fun _ => rfl, fun h => no nb11 h⟩; simp only [d8, nb10, nb11, hbi, pu, Nat.reduceAdd, Nat.reduceEqDiff, reduceIte] at hk2; exact hk2
  · intro b g w hI hcl hbi hdp rest hre hkk
    obtain ⟨hwf, hwt⟩ := hI; replace hbi : b 10 = false := hbi; have d9 := hdp 9 rfl; have nb11 := nbf (hcl 11 10 rfl) hbi; have ewc := (hwf nb11).symm; subst ewc; simp only [d9, nb11, hbi, pu, Nat.reduceAdd, Nat.reduceEqDiff, reduceIte]; refine F.ol rfl rfl rfl fun d K h => ?_; go_simp; refine h _ (fun e m => ?_) ?_; simp [go_sem, *] at m; subst m; exact evr (w := w1) (by assumption) (by first | assumption | (apply hfr <;> dsimp only <;> omega)); clear h K d; try walk_nrm
    have hk2 := hkk g _ ⟨fun _ => rfl, fun h => no nb11 h⟩; simp only [d9, nb11, hbi, pu, Nat.reduceAdd, Nat.reduceEqDiff, reduceIte] at hk2; exact hk2
  · intro b g w hI hcl hbi hdp rest hre hkk
    obtain ⟨hwf, hwt⟩ := hI; replace hbi : b 11 = false := hbi; have d6 := hdp 6 rfl; have d10 := hdp 10 rfl; have d9 := hcl 10 9 rfl d10; have d8 := hcl 9 8 rfl d9; have d7 := hcl 8 7 rfl d8; have d5 := hcl 6 5 rfl d6; have d4 := hcl 5 4 rfl d5; have d3 := hcl 4 3 rfl d4; have d2 := hcl 3 2 rfl d3; have d1 := hcl 2 1 rfl d2; have d0 := hcl 1 0 rfl d1; have ewc := (hwf hbi).symm; subst ewc; simp only [d6, d10, d9, d8, d7, d5, d4, d3, d2, d1, d0, hbi, pu, Nat.reduceAdd, Nat.reduceEqDiff, reduceIte]
    have hrest : rest = [] := hre (by
      intro j hj hji
      match j, hj, hji with
      | 0, _, _ => exact d0
      | 1, _, _ => exact d1
      | 2, _, _ => exact d2
      | 3, _, _ => exact d3
      | 4, _, _ => exact d4
      | 5, _, _ => exact d5
      | 6, _, _ => exact d6
      | 7, _, _ => exact d7
      | 8, _, _ => exact d8
      | 9, _, _ => exact d9
      | 10, _, _ => exact d10
      | 11, _, h => exact absurd rfl h
      | j + 12, h, _ => omega)
    subst hrest; refine hc _ w1 ⟨rfl, fun w => ?_, fun K Still B w hK hS => ?_⟩ kp
    · rw [stepG_comm (cases := #[scase tch (.int .i64 1) (.tuple #[])]) (blocking := true) (shape := .send) (w' := w) rfl rfl (by decide) (by simp [execOp, scase, Act.eval])]
      rw [listed_nil (by simp [go_sem, execOp, Act.eval])]
    · clear F
      have F := qf_seat (P := Tryz.prog) (K := K) (Still := Still) (B := B) true (seat0 wch ech (HomeA A wch ech cs)) w; have f3 : ∀ w, K w → w.cell? ⟨A, 3, none⟩ = some (.chan (some wch)) := fun w h => hK w h (⟨A, 3, none⟩, _) (by simp [plA])
      have f4 : ∀ w, K w → w.cell? ⟨A, 4, none⟩ = some (.chan (some ech)) := fun w h => hK w h (⟨A, 4, none⟩, _) (by simp [plA])
      have s3 := hS (⟨A, 3, none⟩, .chan (some wch)) (by simp [plA]); have s4 := hS (⟨A, 4, none⟩, .chan (some ech)) (by simp [plA]); rw [served_fr, Frame.finish_at]; try walk_nrm
      refine F.er ?_; simp only [rg, Nat.reduceAdd]
      apply F.opq rfl rfl (by decide)
      · intro w hw
        simp [go_sem]
      · intro w hw
        go_simp
        first | exact ⟨rfl, rfl⟩ | exact rfl
      try walk_nrm
      refine F.enter rfl rfl (by decide) (fun _ => run_call_body rfl Tryz.func63 (by rfl) (by rfl)) (fun _ => events_call_body rfl Tryz.func63 (by rfl) (by rfl) _) ?_; walk_nrm; refine way63 A wch ech f3 f4 s3.1 s4.1 s3.2 _ _ (fun g hg kk hkk Φ F ht => hg kk hkk Φ F ?_) _; rw [Frame.finish_at]; try walk_nrm
      refine F.re ?_; refine F.ctl (fun _ => stepG_end) ?_; refine F.leave rfl rfl Tryz.func155 (resultsC_none (by rfl) _) ?_; rw [Frame.finish_at]; try walk_nrm
      refine F.re ?_; refine F.ctl (fun _ => stepG_end) ?_; refine F.leave rfl rfl Tryz.func144 (resultsC_none (by rfl) _) ?_; exact hfr39 Φ F ht
  intro b g w hI hall; obtain ⟨hwf, hwt⟩ := hI; simp only [hall 0 (by decide), hall 1 (by decide), hall 2 (by decide), hall 3 (by decide), hall 4 (by decide), hall 5 (by decide), hall 6 (by decide), hall 7 (by decide), hall 8 (by decide), hall 9 (by decide), hall 10 (by decide), hall 11 (by decide), pu, Nat.reduceAdd, Nat.reduceEqDiff, reduceIte]; exact (hwt (hall 11 (by decide))).elim
end Go.Proofs.YtobagnjnbmgidaaGreatDoor
