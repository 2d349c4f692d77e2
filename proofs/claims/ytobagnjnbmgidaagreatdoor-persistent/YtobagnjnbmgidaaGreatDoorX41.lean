/- Goroutine 0's seat. -/
import Derived.Test.YtobagnjnbmgidaaGreatDoorG6
import Derived.Test.YtobagnjnbmgidaaGreatDoorX30
import Derived.Conc.AtomicLaws2
import Derived.Conc.SmallLaws
set_option linter.unusedSimpArgs false
set_option linter.unusedVariables false
namespace Go.Proofs.YtobagnjnbmgidaaGreatDoor
open Go.Conc Go.RowKit

def cases0 (wc ec : Nat) : Array CommCase := #[rcase wc (.agg #[]), rcase ec (.agg #[])]
def seat0 (wc ec : Nat) (Home : Goroutine → Prop) : Seat := { cases := cases0 wc ec, shape := .select, home := Home }
/-- Served at either case, it comes to tgt by control alone. -/
def HomeT (wc ec : Nat) (tgt g : Goroutine) : Prop := ∀ kk : Nat, kk < 2 → ∀ Φ, CF Tryz.prog true Φ → Φ tgt → Φ (Go.Conc.served g (commResult (cases0 wc ec) .select kk (.agg #[]) true))
theorem seat0_wf {wc ec : Nat} (h : wc ≠ ec) (Home : Goroutine → Prop) : (seat0 wc ec Home).Wf := by
  refine ⟨fun cc hcc => ?_, fun k m c z z' h1 h2 => ?_⟩
  · simp only [seat0, cases0, List.mem_toArray, List.mem_cons, List.not_mem_nil, or_false] at hcc
    rcases hcc with rfl | rfl
    · exact ⟨_, _, rfl⟩
    · exact ⟨_, _, rfl⟩
  · simp only [seat0, cases0] at h1 h2
    rcases k with _ | _ | k <;> rcases m with _ | _ | m <;> simp [rcase] at h1 h2 <;> first | rfl | omega
theorem seat0_has {wc ec c : Nat} {Home : Goroutine → Prop} (h : (seat0 wc ec Home).has c) : c = wc ∨ c = ec := by
  obtain ⟨k, z, hk⟩ := h
  simp only [seat0, cases0] at hk
  rcases k with _ | _ | k <;> simp [rcase] at hk <;> omega

set_option maxRecDepth 100000 in
set_option maxHeartbeats 4000000 in
theorem way63 {K : World → Prop} {Still : Loc → Prop} {B : Nat} {Home : Goroutine → Prop} (A wc ec : Nat) (h3 : ∀ w, K w → w.cell? ⟨A, 3, none⟩ = some (.chan (some wc))) (h4 : ∀ w, K w → w.cell? ⟨A, 4, none⟩ = some (.chan (some ec))) (s3 : Still (.cell ⟨A, 3, none⟩)) (s4 : Still (.cell ⟨A, 4, none⟩)) (lA : A < B) (c : Frame) (cs : List Frame)
    (hH : ∀ g, HomeT wc ec (G (c.finish (.tuple #[])) cs) g → Home g) (w : World) :
    ∃ n, Goes Tryz.prog true (RK K) (DS Still B) (fun g _ => ∃ g₂, AtIn Tryz.prog true K Still B (seat0 wc ec Home) g g₂) n (G (Frame.enter Tryz.prog 63 #[.pointer (some ⟨A, 0, none⟩)] .normal) (c :: cs)) w := by
  have F := qf_seat (P := Tryz.prog) (K := K) (Still := Still) (B := B) true (seat0 wc ec Home) w
  have e3 : EvC Still B ⟨.cell ⟨A, 3, none⟩, false, false⟩ := ⟨_, rfl, s3, lA⟩
  have e4 : EvC Still B ⟨.cell ⟨A, 4, none⟩, false, false⟩ := ⟨_, rfl, s4, lA⟩
  rw [enter_at _ Tryz.func63 rfl]
  simp only [Tryz.ntmps63, List.size_toArray, List.length_cons, List.length_nil, Nat.reduceAdd, Nat.reduceSub, Array.replicate_succ, Array.replicate_zero, List.push_toArray, List.append_toArray, List.nil_append, List.cons_append]
  refine F.sq ?_
  refine F.sr ?_
  simp only [rg, Nat.reduceAdd]
  iterate 3 (refine F.oq rfl rfl rfl (fun w hw => by simp [go_sem]) (fun w hw => by go_simp; first | exact ⟨rfl, rfl⟩ | exact rfl) ?_; try walk_nrm)
  apply F.op rfl rfl (by decide)
  · intro w hw e he
    have hfact := h3 w hw
    simp [go_sem, hfact] at he
    subst he
    exact e3
  · intro w hw
    have hfact := h3 w hw
    go_simp
    first | exact ⟨rfl, rfl⟩ | exact rfl
  try walk_nrm
  refine F.er ?_
  simp only [rg, Nat.reduceAdd]
  iterate 3 (refine F.oq rfl rfl rfl (fun w hw => by simp [go_sem]) (fun w hw => by go_simp; first | exact ⟨rfl, rfl⟩ | exact rfl) ?_; try walk_nrm)
  apply F.op rfl rfl (by decide)
  · intro w hw e he
    have hfact := h4 w hw
    simp [go_sem, hfact] at he
    subst he
    exact e4
  · intro w hw
    have hfact := h4 w hw
    go_simp
    first | exact ⟨rfl, rfl⟩ | exact rfl
  try walk_nrm
  refine F.esr ?_
  simp only [rg, Nat.reduceAdd]
  refine ⟨0, fun w₁ r => ⟨_, rfl, rfl, rfl, rfl, hH _ ?_, #[], by simp, fun w hw => ?_⟩⟩
  · clear F
    intro kk hkk Φ F ht
    rw [served_fr, Frame.finish_at]
    have hg0 : goInt 0 = .int .i64 0 := rfl
    have hg1 : goInt 1 = .int .i64 1 := rfl
    rcases kk with _ | _ | kk
    · simp only [commResult, cases0, rcase]
      try walk_nrm
      simp [hg0]
      iterate 3 (refine F.oq rfl rfl rfl (fun w hw => by simp [go_sem]) (fun w hw => by go_simp; first | exact ⟨rfl, rfl⟩ | exact rfl) ?_; try walk_nrm)
      refine F.re ?_
      refine F.bl ?_
      refine F.ct rfl ?_
      refine F.sk ?_
      refine F.ib ?_
      refine F.ctl (fun _ => stepG_end) ?_
      refine F.leave rfl rfl Tryz.func63 (resultsC_none (by rfl) _) ?_
      exact ht
    · simp only [commResult, cases0, rcase]
      try walk_nrm
      simp [hg1]
      iterate 3 (refine F.oq rfl rfl rfl (fun w hw => by simp [go_sem]) (fun w hw => by go_simp; first | exact ⟨rfl, rfl⟩ | exact rfl) ?_; try walk_nrm)
      refine F.re ?_
      refine F.bl ?_
      refine F.cf rfl ?_
      refine F.ct rfl ?_
      refine F.sk ?_
      refine F.ib ?_
      refine F.ctl (fun _ => stepG_end) ?_
      refine F.leave rfl rfl Tryz.func63 (resultsC_none (by rfl) _) ?_
      exact ht
    · omega
  · rw [stepG_comm (cases := cases0 wc ec) (blocking := true) (shape := .select) (w' := w) rfl rfl (by decide) (by simp [go_sem, execOp, rcase, cases0, Act.eval])]
    rw [listed_nil (by simp [go_sem, execOp, Act.eval])]
    rfl
end Go.Proofs.YtobagnjnbmgidaaGreatDoor
