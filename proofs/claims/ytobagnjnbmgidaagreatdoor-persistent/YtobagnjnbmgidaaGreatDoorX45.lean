/- Goroutine 0 waits for the group. -/
import Derived.Test.YtobagnjnbmgidaaGreatDoorX44
set_option linter.unusedSimpArgs false
set_option linter.unusedVariables false
namespace Go.Proofs.YtobagnjnbmgidaaGreatDoor
open Go.Conc Go.RowKit

section
variable {P : Program} {K : World → Prop} {Shun : Loc → Prop} {B : Nat} {Gp : Grp} {Anchor : Goroutine → Prop} {g g' g₁ g₂ : Goroutine}
theorem ms_disable (hs : g.status = .running) (h : ∀ w, K w → stepG P true g w = .go g' w #[mkE .disable]) (hn : ∃ n, MS P K Shun B Gp Anchor 1 n g') : ∃ n, MS P K Shun B Gp Anchor 0 n g := by obtain ⟨n, x⟩ := hn; exact ⟨n + 1, .disable hs h x⟩
theorem ms_load (hs : g.status = .running) (h1 : ∀ w, K w → Num .u64 Gp.st w 4294967296 → stepG P true g w = .go g₁ w #[rdE Gp.st]) (h0 : ∀ w, K w → Num .u64 Gp.st w 0 → stepG P true g w = .go g₂ w #[rdE Gp.st]) (n1 : ∃ n, MS P K Shun B Gp Anchor 2 n g₁) (n0 : ∃ n, MS P K Shun B Gp Anchor 6 n g₂) : ∃ n, MS P K Shun B Gp Anchor 1 n g := by
  obtain ⟨n, x⟩ := n1
  obtain ⟨m, y⟩ := n0
  exact ⟨n + m + 1, .load hs h1 h0 (x.mono _ (by omega)) (y.mono _ (by omega))⟩
theorem ms_load9 (hs : g.status = .running) (h0 : ∀ w, K w → Num .u64 Gp.st w 0 → stepG P true g w = .go g' w #[rdE Gp.st]) (n0 : ∃ n, MS P K Shun B Gp Anchor 6 n g') : ∃ n, MS P K Shun B Gp Anchor 9 n g := by obtain ⟨n, x⟩ := n0; exact ⟨n + 1, .load9 hs h0 x⟩
theorem ms_load5 (hs : g.status = .running) (h0 : ∀ w, K w → Num .u64 Gp.st w 0 → stepG P true g w = .go g' w #[rdE Gp.st]) (n0 : ∃ n, MS P K Shun B Gp Anchor 6 n g') : ∃ n, MS P K Shun B Gp Anchor 5 n g := by obtain ⟨n, x⟩ := n0; exact ⟨n + 1, .load5 hs h0 x⟩
theorem ms_swap (hs : g.status = .running) (h1 : ∀ w, K w → Num .u64 Gp.st w 4294967296 → stepG P true g w = .go g₁ (w.setCell Gp.st (.int .u64 4294967297)) #[rdE Gp.st, wrE Gp.st]) (h0 : ∀ w, K w → Num .u64 Gp.st w 0 → stepG P true g w = .go g₂ w #[rdE Gp.st]) (n1 : ∃ n, MS P K Shun B Gp Anchor 3 n g₁) (n0 : ∃ n, MS P K Shun B Gp Anchor 9 n g₂) : ∃ n, MS P K Shun B Gp Anchor 2 n g := by
  obtain ⟨n, x⟩ := n1
  obtain ⟨m, y⟩ := n0
  exact ⟨n + m + 1, .swap hs h1 h0 (x.mono _ (by omega)) (y.mono _ (by omega))⟩
theorem ms_write (hs : g.status = .running) (h : ∀ w, K w → stepG P true g w = .go g' w #[mkE (.write Gp.se)]) (hn : ∃ n, MS P K Shun B Gp Anchor 4 n g') : ∃ n, MS P K Shun B Gp Anchor 3 n g := by obtain ⟨n, x⟩ := hn; exact ⟨n + 1, .write hs h x⟩
theorem ms_sem (hs : g.status = .running) (ho : g.offers = none) (h1 : ∀ w, K w → Num .u32 Gp.se w 1 → stepG P true g w = .go g' (w.setCell Gp.se (.int .u32 0)) (semEvents Gp.se)) (h0 : ∀ w, K w → Num .u32 Gp.se w 0 → stepG P true g w = .go { g with status := .blocked } w #[]) (hn : ∃ n, MS P K Shun B Gp Anchor 5 n g') : ∃ n, MS P K Shun B Gp Anchor 4 n g := by obtain ⟨n, x⟩ := hn; exact ⟨n + 1, .sem hs ho h1 h0 x⟩
theorem ms_enable (hs : g.status = .running) (h : ∀ w, K w → stepG P true g w = .go g' w #[mkE .enable]) (hn : ∃ n, MS P K Shun B Gp Anchor 7 n g') : ∃ n, MS P K Shun B Gp Anchor 6 n g := by obtain ⟨n, x⟩ := hn; exact ⟨n + 1, .enable hs h x⟩
theorem ms_acquire (hs : g.status = .running) (h : ∀ w, K w → stepG P true g w = .go g' w #[mkE (.acquire Gp.st)]) (hn : ∃ n, MS P K Shun B Gp Anchor 8 n g') : ∃ n, MS P K Shun B Gp Anchor 7 n g := by obtain ⟨n, x⟩ := hn; exact ⟨n + 1, .acquire hs h x⟩
end

/-- The group that lies in an agenda. -/
def grp (A : Nat) : Grp := ⟨⟨A, 5, none⟩, ⟨A, 6, none⟩, by simp⟩

set_option maxRecDepth 100000 in
set_option maxHeartbeats 8000000 in
theorem wait56_ms {K : World → Prop} {Shun : Loc → Prop} {B : Nat} {Anchor : Goroutine → Prop} (A : Nat) (hc5 : ∀ w, K w → ∃ v, w.cell? ⟨A, 5, none⟩ = some v) (hc6 : ∀ w, K w → ∃ v, w.cell? ⟨A, 6, none⟩ = some v) (c : Frame) (cs : List Frame)
    (hend : ∃ n, MS Tryz.prog K Shun B (grp A) Anchor 8 n (G (c.finish (.tuple #[])) cs)) :
    ∃ n, MS Tryz.prog K Shun B (grp A) Anchor 0 n (G (Frame.enter Tryz.prog 56 #[.pointer (some ⟨A, 5, none⟩)] .normal) (c :: cs)) := by
  have F := qf_ms (P := Tryz.prog) (K := K) (Shun := Shun) (B := B) (Gp := grp A) (Anchor := Anchor) 0
  have w1 : IntKind.u64.wrap 1 = 1 := by decide
  have w2 : IntKind.u64.wrap 4294967297 = 4294967297 := by decide
  have w3 : IntKind.i32.wrap 1 = 1 := by decide
  have w4 : IntKind.u32.wrap 0 = 0 := by decide
  have w5 : IntKind.u64.wrap 0 = 0 := by decide
  have w6 : IntKind.i32.wrap 0 = 0 := by decide
  have n1 := nb1
  have n2 := nb2
  have n3 := nb3
  have n4 := nb4
  rw [enter_at _ Tryz.func56 rfl]
  simp only [Tryz.ntmps56, List.size_toArray, List.length_cons, List.length_nil, Nat.reduceAdd, Nat.reduceSub, Array.replicate_succ, Array.replicate_zero, List.push_toArray, List.append_toArray, List.nil_append, List.cons_append]
  refine F.sq ?_
  refine F.ct rfl ?_
  refine F.rr ?_
  simp only [rg, Nat.reduceAdd]
  refine ms_disable rfl (fun w hw => stepG_mark0 .disable (by simp) rfl rfl (by decide) rfl Tryz.func66 (by rfl) (by kernel_rfl) (by kernel_rfl) (by kernel_rfl)) ?_
  walk_nrm
  clear F
  have F := qf_ms (P := Tryz.prog) (K := K) (Shun := Shun) (B := B) (Gp := grp A) (Anchor := Anchor) 1
  refine F.re ?_
  refine F.bl ?_
  refine F.ctl (fun _ => stepG_loop) ?_
  refine F.bl ?_
  refine F.sr ?_
  simp only [rg, Nat.reduceAdd]
  iterate 3 (refine F.oq rfl rfl rfl (fun w hw => by simp [go_sem]) (fun w hw => by go_simp; first | exact ⟨rfl, rfl⟩ | exact rfl) ?_; try walk_nrm)
  refine F.enter rfl rfl (by decide) (fun _ => run_call_body rfl Tryz.func67 (by rfl) (by rfl)) (fun _ => events_call_body rfl Tryz.func67 (by rfl) (by rfl) _) ?_
  walk_nrm
  rw [enter_at _ Tryz.func67 rfl]
  simp only [Tryz.ntmps67, List.size_toArray, List.length_cons, List.length_nil, Nat.reduceAdd, Nat.reduceSub, Array.replicate_succ, Array.replicate_zero, List.push_toArray, List.append_toArray, List.nil_append, List.cons_append]
  refine F.sr ?_
  simp only [rg, Nat.reduceAdd]
  refine F.oq rfl rfl rfl (fun w hw => by simp [go_sem]) (fun w hw => by go_simp; first | exact ⟨rfl, rfl⟩ | exact rfl) ?_; try walk_nrm
  refine F.esr ?_
  simp only [rg, Nat.reduceAdd]
  iterate 3 (refine F.oq rfl rfl rfl (fun w hw => by simp [go_sem]) (fun w hw => by go_simp; first | exact ⟨rfl, rfl⟩ | exact rfl) ?_; try walk_nrm)
  refine ms_load rfl (fun w hw hn => stepG_load_atomic (ad := ⟨A, 5, none⟩) (v := 4294967296) rfl rfl (by decide) rfl Tryz.func96 (by rfl) (by kernel_rfl) (by kernel_rfl) .u64 (by kernel_rfl) rfl hn.1) (fun w hw hn => stepG_load_atomic (ad := ⟨A, 5, none⟩) (v := 0) rfl rfl (by decide) rfl Tryz.func96 (by rfl) (by kernel_rfl) (by kernel_rfl) .u64 (by kernel_rfl) rfl hn.1) ?_ ?_
  rotate_left
  · walk_nrm
    clear F
    have F := qf_ms (P := Tryz.prog) (K := K) (Shun := Shun) (B := B) (Gp := grp A) (Anchor := Anchor) 6
    refine F.oq rfl rfl rfl (fun w hw => by simp [go_sem]) (fun w hw => by go_simp; first | exact ⟨rfl, rfl⟩ | exact rfl) ?_; try walk_nrm
    refine F.re ?_
    refine F.ctl (fun _ => stepG_ret') ?_
    refine F.leave rfl rfl Tryz.func67 (resultsC_tmp (by rfl) _) ?_
    rw [Frame.finish_at]
    try walk_nrm
    refine F.oq rfl rfl rfl (fun w hw => by simp [go_sem]) (fun w hw => by go_simp; first | exact ⟨rfl, rfl⟩ | exact rfl) ?_; try walk_nrm
    refine F.esr ?_
    simp only [rg, Nat.reduceAdd]
    iterate 4 (refine F.oq rfl rfl rfl (fun w hw => by simp [go_sem]) (fun w hw => by go_simp; first | exact ⟨rfl, rfl⟩ | exact rfl) ?_; try walk_nrm)
    refine F.esr ?_
    simp only [rg, Nat.reduceAdd]
    iterate 4 (refine F.oq rfl rfl rfl (fun w hw => by simp [go_sem]) (fun w hw => by go_simp; first | exact ⟨rfl, rfl⟩ | exact rfl) ?_; try walk_nrm)
    refine F.es ?_
    refine F.sr ?_
    simp only [rg, Nat.reduceAdd]
    iterate 2 (refine F.oq rfl rfl rfl (fun w hw => by simp [go_sem]) (fun w hw => by go_simp; first | exact ⟨rfl, rfl⟩ | exact rfl) ?_; try walk_nrm)
    refine F.re ?_
    refine F.ct rfl ?_
    refine F.sq ?_
    refine F.ct rfl ?_
    refine F.sr ?_
    simp only [rg, Nat.reduceAdd]
    refine ms_enable rfl (fun w hw => stepG_mark0 .enable (by simp) rfl rfl (by decide) rfl Tryz.func68 (by rfl) (by kernel_rfl) (by kernel_rfl) (by kernel_rfl)) ?_
    walk_nrm
    clear F
    have F := qf_ms (P := Tryz.prog) (K := K) (Shun := Shun) (B := B) (Gp := grp A) (Anchor := Anchor) 7
    refine F.er ?_
    simp only [rg, Nat.reduceAdd]
    refine F.oq rfl rfl rfl (fun w hw => by simp [go_sem]) (fun w hw => by go_simp; first | exact ⟨rfl, rfl⟩ | exact rfl) ?_; try walk_nrm
    apply F.opq rfl rfl (by decide)
    · intro w hw
      obtain ⟨v, hv⟩ := hc5 w hw
      simp [go_sem, cv174e hv]
    · intro w hw
      obtain ⟨v, hv⟩ := hc5 w hw
      go_simp
      simp only [cv174 hv]
      go_simp
      first | exact ⟨rfl, rfl⟩ | exact rfl
    try walk_nrm
    refine ms_acquire rfl (fun w hw => stepG_markAt .acquire (by simp) rfl rfl (by decide) rfl Tryz.func69 (by rfl) (by kernel_rfl) (by kernel_rfl) (by kernel_rfl) (ad := ⟨A, 5, none⟩) (by simp [Act.eval])) ?_
    walk_nrm
    clear F
    have F := qf_ms (P := Tryz.prog) (K := K) (Shun := Shun) (B := B) (Gp := grp A) (Anchor := Anchor) 8
    refine F.es ?_
    refine F.sr ?_
    simp only [rg, Nat.reduceAdd]
    iterate 8 (refine F.oq rfl rfl rfl (fun w hw => by simp [go_sem]) (fun w hw => by go_simp; first | exact ⟨rfl, rfl⟩ | exact rfl) ?_; try walk_nrm)
    refine F.unwanted rfl rfl ?_
    try walk_nrm
    refine F.unwanted rfl rfl ?_
    try walk_nrm
    refine F.oq rfl rfl rfl (fun w hw => by simp [go_sem]) (fun w hw => by go_simp; first | exact ⟨rfl, rfl⟩ | exact rfl) ?_; try walk_nrm
    refine F.re ?_
    refine F.cf rfl ?_
    refine F.sk ?_
    refine F.ctl (fun _ => stepG_ret') ?_
    refine F.leave rfl rfl Tryz.func56 (resultsC_none (by rfl) _) ?_
    exact hend
  walk_nrm
  clear F
  have F := qf_ms (P := Tryz.prog) (K := K) (Shun := Shun) (B := B) (Gp := grp A) (Anchor := Anchor) 2
  refine F.oq rfl rfl rfl (fun w hw => by simp [go_sem]) (fun w hw => by go_simp; first | exact ⟨rfl, rfl⟩ | exact rfl) ?_; try walk_nrm
  refine F.re ?_
  refine F.ctl (fun _ => stepG_ret') ?_
  refine F.leave rfl rfl Tryz.func67 (resultsC_tmp (by rfl) _) ?_
  rw [Frame.finish_at]
  try walk_nrm
  refine F.oq rfl rfl rfl (fun w hw => by simp [go_sem]) (fun w hw => by go_simp; first | exact ⟨rfl, rfl⟩ | exact rfl) ?_; try walk_nrm
  refine F.esr ?_
  simp only [rg, Nat.reduceAdd]
  iterate 4 (refine F.oq rfl rfl rfl (fun w hw => by simp [go_sem]) (fun w hw => by go_simp; first | exact ⟨rfl, rfl⟩ | exact rfl) ?_; try walk_nrm)
  refine F.esr ?_
  simp only [rg, Nat.reduceAdd]
  iterate 4 (refine F.oq rfl rfl rfl (fun w hw => by simp [go_sem]) (fun w hw => by go_simp; first | exact ⟨rfl, rfl⟩ | exact rfl) ?_; try walk_nrm)
  refine F.es ?_
  refine F.sr ?_
  simp only [rg, Nat.reduceAdd]
  iterate 2 (refine F.oq rfl rfl rfl (fun w hw => by simp [go_sem]) (fun w hw => by go_simp; first | exact ⟨rfl, rfl⟩ | exact rfl) ?_; try walk_nrm)
  refine F.re ?_
  refine F.cf rfl ?_
  refine F.sk ?_
  refine F.sr ?_
  simp only [rg, Nat.reduceAdd]
  iterate 6 (refine F.oq rfl rfl rfl (fun w hw => by simp [go_sem]) (fun w hw => by go_simp; first | exact ⟨rfl, rfl⟩ | exact rfl) ?_; try walk_nrm)
  refine F.enter rfl rfl (by decide) (fun _ => run_call_body rfl Tryz.func71 (by rfl) (by rfl)) (fun _ => events_call_body rfl Tryz.func71 (by rfl) (by rfl) _) ?_
  walk_nrm
  rw [enter_at _ Tryz.func71 rfl]
  simp only [Tryz.ntmps71, List.size_toArray, List.length_cons, List.length_nil, Nat.reduceAdd, Nat.reduceSub, Array.replicate_succ, Array.replicate_zero, List.push_toArray, List.append_toArray, List.nil_append, List.cons_append]
  refine F.sr ?_
  simp only [rg, Nat.reduceAdd]
  refine F.oq rfl rfl rfl (fun w hw => by simp [go_sem]) (fun w hw => by go_simp; first | exact ⟨rfl, rfl⟩ | exact rfl) ?_; try walk_nrm
  refine F.esr ?_
  simp only [rg, Nat.reduceAdd]
  iterate 5 (refine F.oq rfl rfl rfl (fun w hw => by simp [go_sem]) (fun w hw => by go_simp; first | exact ⟨rfl, rfl⟩ | exact rfl) ?_; try walk_nrm)
  refine ms_swap rfl (fun w hw hn => stepG_cas_hit (ad := ⟨A, 5, none⟩) (v := 4294967296) (n := 4294967297) rfl rfl (by decide) rfl Tryz.func97 (by rfl) (by kernel_rfl) (by kernel_rfl) .u64 (by kernel_rfl) rfl rfl rfl hn.1 hn.2) (fun w hw hn => stepG_cas_miss (ad := ⟨A, 5, none⟩) (v := 0) (old := 4294967296) (n := 4294967297) rfl rfl (by decide) rfl Tryz.func97 (by rfl) (by kernel_rfl) (by kernel_rfl) .u64 (by kernel_rfl) rfl rfl rfl hn.1 hn.2 (by decide)) ?_ ?_
  rotate_left
  · walk_nrm
    clear F
    have F := qf_ms (P := Tryz.prog) (K := K) (Shun := Shun) (B := B) (Gp := grp A) (Anchor := Anchor) 9
    refine F.oq rfl rfl rfl (fun w hw => by simp [go_sem]) (fun w hw => by go_simp; first | exact ⟨rfl, rfl⟩ | exact rfl) ?_; try walk_nrm
    refine F.re ?_
    refine F.ctl (fun _ => stepG_ret') ?_
    refine F.leave rfl rfl Tryz.func71 (resultsC_tmp (by rfl) _) ?_
    rw [Frame.finish_at]
    try walk_nrm
    refine F.re ?_
    refine F.cf rfl ?_
    refine F.sk ?_
    refine F.ib ?_
    refine F.ctl (fun _ => stepG_inLoop) ?_
    refine F.bl ?_
    refine F.sr ?_
    simp only [rg, Nat.reduceAdd]
    iterate 3 (refine F.oq rfl rfl rfl (fun w hw => by simp [go_sem]) (fun w hw => by go_simp; first | exact ⟨rfl, rfl⟩ | exact rfl) ?_; try walk_nrm)
    refine F.enter rfl rfl (by decide) (fun _ => run_call_body rfl Tryz.func67 (by rfl) (by rfl)) (fun _ => events_call_body rfl Tryz.func67 (by rfl) (by rfl) _) ?_
    walk_nrm
    rw [enter_at _ Tryz.func67 rfl]
    simp only [Tryz.ntmps67, List.size_toArray, List.length_cons, List.length_nil, Nat.reduceAdd, Nat.reduceSub, Array.replicate_succ, Array.replicate_zero, List.push_toArray, List.append_toArray, List.nil_append, List.cons_append]
    refine F.sr ?_
    simp only [rg, Nat.reduceAdd]
    refine F.oq rfl rfl rfl (fun w hw => by simp [go_sem]) (fun w hw => by go_simp; first | exact ⟨rfl, rfl⟩ | exact rfl) ?_; try walk_nrm
    refine F.esr ?_
    simp only [rg, Nat.reduceAdd]
    iterate 3 (refine F.oq rfl rfl rfl (fun w hw => by simp [go_sem]) (fun w hw => by go_simp; first | exact ⟨rfl, rfl⟩ | exact rfl) ?_; try walk_nrm)
    refine ms_load9 rfl (fun w hw hn => stepG_load_atomic (ad := ⟨A, 5, none⟩) (v := 0) rfl rfl (by decide) rfl Tryz.func96 (by rfl) (by kernel_rfl) (by kernel_rfl) .u64 (by kernel_rfl) rfl hn.1) ?_
    walk_nrm
    clear F
    have F := qf_ms (P := Tryz.prog) (K := K) (Shun := Shun) (B := B) (Gp := grp A) (Anchor := Anchor) 6
    refine F.oq rfl rfl rfl (fun w hw => by simp [go_sem]) (fun w hw => by go_simp; first | exact ⟨rfl, rfl⟩ | exact rfl) ?_; try walk_nrm
    refine F.re ?_
    refine F.ctl (fun _ => stepG_ret') ?_
    refine F.leave rfl rfl Tryz.func67 (resultsC_tmp (by rfl) _) ?_
    rw [Frame.finish_at]
    try walk_nrm
    refine F.oq rfl rfl rfl (fun w hw => by simp [go_sem]) (fun w hw => by go_simp; first | exact ⟨rfl, rfl⟩ | exact rfl) ?_; try walk_nrm
    refine F.esr ?_
    simp only [rg, Nat.reduceAdd]
    iterate 4 (refine F.oq rfl rfl rfl (fun w hw => by simp [go_sem]) (fun w hw => by go_simp; first | exact ⟨rfl, rfl⟩ | exact rfl) ?_; try walk_nrm)
    refine F.esr ?_
    simp only [rg, Nat.reduceAdd]
    iterate 4 (refine F.oq rfl rfl rfl (fun w hw => by simp [go_sem]) (fun w hw => by go_simp; first | exact ⟨rfl, rfl⟩ | exact rfl) ?_; try walk_nrm)
    refine F.es ?_
    refine F.sr ?_
    simp only [rg, Nat.reduceAdd]
    iterate 2 (refine F.oq rfl rfl rfl (fun w hw => by simp [go_sem]) (fun w hw => by go_simp; first | exact ⟨rfl, rfl⟩ | exact rfl) ?_; try walk_nrm)
    refine F.re ?_
    refine F.ct rfl ?_
    refine F.sq ?_
    refine F.ct rfl ?_
    refine F.sr ?_
    simp only [rg, Nat.reduceAdd]
    refine ms_enable rfl (fun w hw => stepG_mark0 .enable (by simp) rfl rfl (by decide) rfl Tryz.func68 (by rfl) (by kernel_rfl) (by kernel_rfl) (by kernel_rfl)) ?_
    walk_nrm
    clear F
    have F := qf_ms (P := Tryz.prog) (K := K) (Shun := Shun) (B := B) (Gp := grp A) (Anchor := Anchor) 7
    refine F.er ?_
    simp only [rg, Nat.reduceAdd]
    refine F.oq rfl rfl rfl (fun w hw => by simp [go_sem]) (fun w hw => by go_simp; first | exact ⟨rfl, rfl⟩ | exact rfl) ?_; try walk_nrm
    apply F.opq rfl rfl (by decide)
    · intro w hw
      obtain ⟨v, hv⟩ := hc5 w hw
      simp [go_sem, cv174e hv]
    · intro w hw
      obtain ⟨v, hv⟩ := hc5 w hw
      go_simp
      simp only [cv174 hv]
      go_simp
      first | exact ⟨rfl, rfl⟩ | exact rfl
    try walk_nrm
    refine ms_acquire rfl (fun w hw => stepG_markAt .acquire (by simp) rfl rfl (by decide) rfl Tryz.func69 (by rfl) (by kernel_rfl) (by kernel_rfl) (by kernel_rfl) (ad := ⟨A, 5, none⟩) (by simp [Act.eval])) ?_
    walk_nrm
    clear F
    have F := qf_ms (P := Tryz.prog) (K := K) (Shun := Shun) (B := B) (Gp := grp A) (Anchor := Anchor) 8
    refine F.es ?_
    refine F.sr ?_
    simp only [rg, Nat.reduceAdd]
    iterate 8 (refine F.oq rfl rfl rfl (fun w hw => by simp [go_sem]) (fun w hw => by go_simp; first | exact ⟨rfl, rfl⟩ | exact rfl) ?_; try walk_nrm)
    refine F.unwanted rfl rfl ?_
    try walk_nrm
    refine F.unwanted rfl rfl ?_
    try walk_nrm
    refine F.oq rfl rfl rfl (fun w hw => by simp [go_sem]) (fun w hw => by go_simp; first | exact ⟨rfl, rfl⟩ | exact rfl) ?_; try walk_nrm
    refine F.re ?_
    refine F.cf rfl ?_
    refine F.sk ?_
    refine F.ctl (fun _ => stepG_ret') ?_
    refine F.leave rfl rfl Tryz.func56 (resultsC_none (by rfl) _) ?_
    exact hend
  walk_nrm
  clear F
  have F := qf_ms (P := Tryz.prog) (K := K) (Shun := Shun) (B := B) (Gp := grp A) (Anchor := Anchor) 3
  refine F.oq rfl rfl rfl (fun w hw => by simp [go_sem]) (fun w hw => by go_simp; first | exact ⟨rfl, rfl⟩ | exact rfl) ?_; try walk_nrm
  refine F.re ?_
  refine F.ctl (fun _ => stepG_ret') ?_
  refine F.leave rfl rfl Tryz.func71 (resultsC_tmp (by rfl) _) ?_
  rw [Frame.finish_at]
  try walk_nrm
  refine F.re ?_
  refine F.ct rfl ?_
  refine F.sq ?_
  refine F.sr ?_
  simp only [rg, Nat.reduceAdd]
  iterate 4 (refine F.oq rfl rfl rfl (fun w hw => by simp [go_sem]) (fun w hw => by go_simp; first | exact ⟨rfl, rfl⟩ | exact rfl) ?_; try walk_nrm)
  refine F.re ?_
  refine F.ct rfl ?_
  refine F.rr ?_
  simp only [rg, Nat.reduceAdd]
  iterate 3 (refine F.oq rfl rfl rfl (fun w hw => by simp [go_sem]) (fun w hw => by go_simp; first | exact ⟨rfl, rfl⟩ | exact rfl) ?_; try walk_nrm)
  apply F.opq rfl rfl (by decide)
  · intro w hw
    obtain ⟨v, hv⟩ := hc6 w hw
    simp [go_sem, cv182e hv]
  · intro w hw
    obtain ⟨v, hv⟩ := hc6 w hw
    go_simp
    simp only [cv182 hv]
    go_simp
    first | exact ⟨rfl, rfl⟩ | exact rfl
  try walk_nrm
  refine ms_write rfl (fun w hw => stepG_markAt .write (by simp) rfl rfl (by decide) rfl Tryz.func73 (by rfl) (by kernel_rfl) (by kernel_rfl) (by kernel_rfl) (ad := ⟨A, 6, none⟩) (by simp [Act.eval])) ?_
  walk_nrm
  clear F
  have F := qf_ms (P := Tryz.prog) (K := K) (Shun := Shun) (B := B) (Gp := grp A) (Anchor := Anchor) 4
  refine F.esr ?_
  simp only [rg, Nat.reduceAdd]
  refine F.oq rfl rfl rfl (fun w hw => by simp [go_sem]) (fun w hw => by go_simp; first | exact ⟨rfl, rfl⟩ | exact rfl) ?_; try walk_nrm
  refine F.es ?_
  refine F.sr ?_
  simp only [rg, Nat.reduceAdd]
  iterate 4 (refine F.oq rfl rfl rfl (fun w hw => by simp [go_sem]) (fun w hw => by go_simp; first | exact ⟨rfl, rfl⟩ | exact rfl) ?_; try walk_nrm)
  refine F.unwanted rfl rfl ?_
  try walk_nrm
  refine F.oq rfl rfl rfl (fun w hw => by simp [go_sem]) (fun w hw => by go_simp; first | exact ⟨rfl, rfl⟩ | exact rfl) ?_; try walk_nrm
  refine F.re ?_
  refine F.cf rfl ?_
  refine F.sk ?_
  refine F.sr ?_
  simp only [rg, Nat.reduceAdd]
  iterate 4 (refine F.oq rfl rfl rfl (fun w hw => by simp [go_sem]) (fun w hw => by go_simp; first | exact ⟨rfl, rfl⟩ | exact rfl) ?_; try walk_nrm)
  refine ms_sem rfl rfl (fun w hw hn => stepG_semacquire (ad := ⟨A, 6, none⟩) (n := 1) rfl rfl (by decide) rfl Tryz.func75 (by rfl) (by kernel_rfl) (by kernel_rfl) (by kernel_rfl) (by simp [Act.eval]) hn.1 (by decide) hn.2) (fun w hw hn => stepG_semacquire_wait (ad := ⟨A, 6, none⟩) rfl rfl rfl Tryz.func75 (by rfl) (by kernel_rfl) (by kernel_rfl) (by kernel_rfl) (by simp [Act.eval]) hn.1) ?_
  walk_nrm
  clear F
  have F := qf_ms (P := Tryz.prog) (K := K) (Shun := Shun) (B := B) (Gp := grp A) (Anchor := Anchor) 5
  refine F.esr ?_
  simp only [rg, Nat.reduceAdd]
  iterate 3 (refine F.oq rfl rfl rfl (fun w hw => by simp [go_sem]) (fun w hw => by go_simp; first | exact ⟨rfl, rfl⟩ | exact rfl) ?_; try walk_nrm)
  refine F.enter rfl rfl (by decide) (fun _ => run_call_body rfl Tryz.func67 (by rfl) (by rfl)) (fun _ => events_call_body rfl Tryz.func67 (by rfl) (by rfl) _) ?_
  walk_nrm
  rw [enter_at _ Tryz.func67 rfl]
  simp only [Tryz.ntmps67, List.size_toArray, List.length_cons, List.length_nil, Nat.reduceAdd, Nat.reduceSub, Array.replicate_succ, Array.replicate_zero, List.push_toArray, List.append_toArray, List.nil_append, List.cons_append]
  refine F.sr ?_
  simp only [rg, Nat.reduceAdd]
  refine F.oq rfl rfl rfl (fun w hw => by simp [go_sem]) (fun w hw => by go_simp; first | exact ⟨rfl, rfl⟩ | exact rfl) ?_; try walk_nrm
  refine F.esr ?_
  simp only [rg, Nat.reduceAdd]
  iterate 3 (refine F.oq rfl rfl rfl (fun w hw => by simp [go_sem]) (fun w hw => by go_simp; first | exact ⟨rfl, rfl⟩ | exact rfl) ?_; try walk_nrm)
  refine ms_load5 rfl (fun w hw hn => stepG_load_atomic (ad := ⟨A, 5, none⟩) (v := 0) rfl rfl (by decide) rfl Tryz.func96 (by rfl) (by kernel_rfl) (by kernel_rfl) .u64 (by kernel_rfl) rfl hn.1) ?_
  walk_nrm
  clear F
  have F := qf_ms (P := Tryz.prog) (K := K) (Shun := Shun) (B := B) (Gp := grp A) (Anchor := Anchor) 6
  refine F.oq rfl rfl rfl (fun w hw => by simp [go_sem]) (fun w hw => by go_simp; first | exact ⟨rfl, rfl⟩ | exact rfl) ?_; try walk_nrm
  refine F.re ?_
  refine F.ctl (fun _ => stepG_ret') ?_
  refine F.leave rfl rfl Tryz.func67 (resultsC_tmp (by rfl) _) ?_
  rw [Frame.finish_at]
  try walk_nrm
  iterate 2 (refine F.oq rfl rfl rfl (fun w hw => by simp [go_sem]) (fun w hw => by go_simp; first | exact ⟨rfl, rfl⟩ | exact rfl) ?_; try walk_nrm)
  refine F.es ?_
  refine F.ct rfl ?_
  refine F.sr ?_
  simp only [rg, Nat.reduceAdd]
  refine ms_enable rfl (fun w hw => stepG_mark0 .enable (by simp) rfl rfl (by decide) rfl Tryz.func68 (by rfl) (by kernel_rfl) (by kernel_rfl) (by kernel_rfl)) ?_
  walk_nrm
  clear F
  have F := qf_ms (P := Tryz.prog) (K := K) (Shun := Shun) (B := B) (Gp := grp A) (Anchor := Anchor) 7
  refine F.er ?_
  simp only [rg, Nat.reduceAdd]
  refine F.oq rfl rfl rfl (fun w hw => by simp [go_sem]) (fun w hw => by go_simp; first | exact ⟨rfl, rfl⟩ | exact rfl) ?_; try walk_nrm
  apply F.opq rfl rfl (by decide)
  · intro w hw
    obtain ⟨v, hv⟩ := hc5 w hw
    simp [go_sem, cv174e hv]
  · intro w hw
    obtain ⟨v, hv⟩ := hc5 w hw
    go_simp
    simp only [cv174 hv]
    go_simp
    first | exact ⟨rfl, rfl⟩ | exact rfl
  try walk_nrm
  refine ms_acquire rfl (fun w hw => stepG_markAt .acquire (by simp) rfl rfl (by decide) rfl Tryz.func69 (by rfl) (by kernel_rfl) (by kernel_rfl) (by kernel_rfl) (ad := ⟨A, 5, none⟩) (by simp [Act.eval])) ?_
  walk_nrm
  clear F
  have F := qf_ms (P := Tryz.prog) (K := K) (Shun := Shun) (B := B) (Gp := grp A) (Anchor := Anchor) 8
  refine F.es ?_
  refine F.sr ?_
  simp only [rg, Nat.reduceAdd]
  refine F.oq rfl rfl rfl (fun w hw => by simp [go_sem]) (fun w hw => by go_simp; first | exact ⟨rfl, rfl⟩ | exact rfl) ?_; try walk_nrm
  refine F.re ?_
  refine F.cf rfl ?_
  refine F.sk ?_
  refine F.ctl (fun _ => stepG_ret') ?_
  refine F.leave rfl rfl Tryz.func56 (resultsC_none (by rfl) _) ?_
  exact hend

end Go.Proofs.YtobagnjnbmgidaaGreatDoor
