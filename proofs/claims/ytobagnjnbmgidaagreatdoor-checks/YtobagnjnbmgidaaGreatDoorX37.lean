/- A new agenda. -/
import Derived.Test.YtobagnjnbmgidaaGreatDoorX36
set_option linter.unusedSimpArgs false
set_option linter.unusedVariables false
namespace Go.Proofs.YtobagnjnbmgidaaGreatDoor
open Go.Conc Go.RowKit
variable {main : Bool} {Ok : Addr → Bool → Prop}

def bn (b : Bool) : Nat := if b then 1 else 0
def OpenCh (w : World) (c : Nat) : Prop := w.heap[c]? = some (.chan 0 #[] false 0 0 false)
theorem OpenCh.al {w w' : World} {o : Obj} {c : Nat} (h : OpenCh w c) (e : w.alloc o = w') : OpenCh w' c := by
  subst e; unfold OpenCh; rw [Below.heap_alloc _ _ _ (Array.getElem?_eq_some_iff.1 h).1]; exact h
theorem OpenCh.st {w w' : World} {a : Addr} {v : Value} {c : Nat} (h : OpenCh w c) (e : w.setCell a v = w') : OpenCh w' c := by
  subst e
  unfold OpenCh at h ⊢
  simp only [World.setCell, Array.getElem?_modify, h]
  split <;> rfl
/-- The agenda's block, as it is made. -/
structure AgNew (w : World) (A wc ec : Nat) : Prop where
  a0 : w.cell? ⟨A, 0, none⟩ = some (.int .i64 0)
  a1 : w.cell? ⟨A, 1, none⟩ = some (.slice none 0 0)
  a2 : w.cell? ⟨A, 2, none⟩ = some (.int .i64 0)
  a3 : w.cell? ⟨A, 3, none⟩ = some (.chan (some wc))
  a4 : w.cell? ⟨A, 4, none⟩ = some (.chan (some ec))
  a5 : w.cell? ⟨A, 5, none⟩ = some (.int .u64 0)
  a6 : w.cell? ⟨A, 6, none⟩ = some (.int .u32 0)
  z : ∀ i, w.frozen? ⟨A, i, none⟩ = false

set_option maxRecDepth 100000 in
set_option maxHeartbeats 4000000 in
theorem new_agenda_x (w0 : World) :
    CallsX Tryz.prog main (DX Ok) 35 #[] w0 fun v w' => ∃ wc ec, v = .pointer (some ⟨w0.heap.size + 2, 0, none⟩) ∧ Kp [] w0 w' ∧ w'.heap.size = w0.heap.size + 3 ∧ w0.heap.size ≤ wc ∧ wc < w0.heap.size + 2 ∧ w0.heap.size ≤ ec ∧ ec < w0.heap.size + 2 ∧ wc ≠ ec ∧ OpenCh w' wc ∧ OpenCh w' ec ∧ AgNew w' (w0.heap.size + 2) wc ec := by
  intro Ψ F c cs hc
  generalize hn0 : w0.heap.size = n0 at hc
  have hn0' : n0 ≤ w0.heap.size ∧ w0.heap.size ≤ n0 := by omega
  clear hn0
  rw [enter_at _ Tryz.func35 rfl]
  simp only [Tryz.ntmps35, List.size_toArray, List.length_cons, List.length_nil, Nat.reduceAdd, Nat.reduceSub, Array.replicate_succ, Array.replicate_zero, List.push_toArray, List.append_toArray, List.nil_append, List.cons_append]
  have kp : Kp [] w0 w0 := Kp.refl _
  have hsz : n0 + (bn false + bn false + bn false) ≤ w0.heap.size ∧ w0.heap.size ≤ n0 + (bn false + bn false + bn false) := by simp [bn]; omega
  refine F.sr ?_
  simp only [rg, Nat.reduceAdd]
  refine F.oq rfl rfl rfl (fun _ => by simp [go_sem]) fun d K hK => ?_; go_simp; refine hK _ ?_; clear hK K d; try walk_nrm
  refine F.es ?_
  refine F.drawA (γ := Nat × Nat) (n := 5) mixed [[], [], [0, 1], [2], [0, 1, 2, 3]] rfl (by kernel_rfl) (fun b g => [(1, sel (b 0) (.chan (some g.1)) (undef)), (2, sel (b 1) (.chan (some g.2)) (undef)), (3, sel (b 2) (.agg #[.int .i64 0, .slice none 0 0, .int .i64 0, .chan (some g.1), .chan (some g.2), .int .u64 0, .int .u32 0]) (undef)), (4, sel (b 3) (.pointer (some ⟨n0 + 2, 0, none⟩)) (undef)), (0, sel (b 4) (.pointer (some ⟨n0 + 2, 0, none⟩)) (.pointer none))]) (fun b g w => (Kp [] w0 w) ∧ (n0 + (bn (b 0) + bn (b 1) + bn (b 3)) ≤ w.heap.size ∧ w.heap.size ≤ n0 + (bn (b 0) + bn (b 1) + bn (b 3))) ∧ (b 0 = true → n0 ≤ g.1 ∧ g.1 < n0 + 2 ∧ g.1 < w.heap.size ∧ OpenCh w g.1) ∧ (b 1 = true → n0 ≤ g.2 ∧ g.2 < n0 + 2 ∧ g.2 < w.heap.size ∧ OpenCh w g.2) ∧ (b 0 = true → b 1 = true → g.1 ≠ g.2) ∧ (b 3 = true → AgNew w (n0 + 2) g.1 g.2)) ((0, 0)) (by simp only [pu, Nat.reduceAdd, Nat.reduceEqDiff, reduceIte]) (⟨kp, hsz, fun h => (by cases h), fun h => (by cases h), fun h => (by cases h), fun h => (by cases h)⟩) (all_cons ?_ (all_cons ?_ (all_cons ?_ (all_cons ?_ (all_cons ?_ (all_nil)))))) ?_
  · intro b g w hI hcl hbi hdp rest hre hkk
    obtain ⟨kp, hsz, h0, h1, h2, h3⟩ := hI
    replace hbi : b 0 = false := hbi
    have nb2 : b 2 = false := nbf (fun h => hcl 2 (by decide) h 0 (by decide)) hbi
    have nb3 : b 3 = false := by
        cases hx : b 3 with
        | false => rfl
        | true => have := hcl 3 (by decide) hx 2 (by decide); rw [show b 2 = false from nb2] at this; cases this
    have nb4 : b 4 = false := nbf (fun h => hcl 4 (by decide) h 0 (by decide)) hbi
    simp only [nb2, nb3, nb4, hbi, pu, Nat.reduceAdd, Nat.reduceEqDiff, reduceIte]
    have hbb : bn (b 1) ≤ 1 := by simp only [bn]; split <;> omega
    have hb3 : bn (b 3) = 0 := by rw [nb3]; rfl
    have hbi' : bn (b 0) = 0 := by rw [hbi]; rfl
    refine F.op rfl rfl (by decide) (fun d K hK => ?_)
    go_simp
    rw [mc99]
    go_simp
    rw [alloc_at']
    refine hK _ _ ⟨DX.alloc _ _ (fun e he => ?_), ?_⟩
    · have hm := mem_listed he
      simp [go_sem, mc99, mc99e] at hm
    clear hK K d
    try walk_nrm
    generalize ew1 : World.alloc w _ = w1
    generalize hn1 : (World.heap w).size = n1
    have sz1 := sz_al ew1 hn1
    have hk2 := hkk (n1, g.2) _ ⟨kp.alN ew1, (by have e0 : bn (tick b 0 0) = 1 := (by simp [tick, bn]); have e1 : tick b 0 1 = b 1 := (by simp [tick]); have e3 : tick b 0 3 = b 3 := (by simp [tick]); rw [e0, e1, e3]; omega), fun _ => ⟨by omega, by omega, by omega, hp_new ew1 hn1⟩, fun h => ⟨(h1 (by simpa [tick] using h)).1, (h1 (by simpa [tick] using h)).2.1, by have := (h1 (by simpa [tick] using h)).2.2.1; omega, (h1 (by simpa [tick] using h)).2.2.2.al ew1⟩, fun _ h => (fun z => by have := (h1 (by simpa [tick] using h)).2.2.1; dsimp only at z; omega), fun h => absurd (show b 3 = true from (by simpa [tick] using h)) (by rw [nb3]; decide)⟩
    simp only [nb2, nb3, nb4, hbi, pu, Nat.reduceAdd, Nat.reduceEqDiff, reduceIte] at hk2
    exact hk2
  · intro b g w hI hcl hbi hdp rest hre hkk
    obtain ⟨kp, hsz, h0, h1, h2, h3⟩ := hI
    replace hbi : b 1 = false := hbi
    have nb2 : b 2 = false := nbf (fun h => hcl 2 (by decide) h 1 (by decide)) hbi
    have nb3 : b 3 = false := by
        cases hx : b 3 with
        | false => rfl
        | true => have := hcl 3 (by decide) hx 2 (by decide); rw [show b 2 = false from nb2] at this; cases this
    have nb4 : b 4 = false := nbf (fun h => hcl 4 (by decide) h 1 (by decide)) hbi
    simp only [nb2, nb3, nb4, hbi, pu, Nat.reduceAdd, Nat.reduceEqDiff, reduceIte]
    have hbb : bn (b 0) ≤ 1 := by simp only [bn]; split <;> omega
    have hb3 : bn (b 3) = 0 := by rw [nb3]; rfl
    have hbi' : bn (b 1) = 0 := by rw [hbi]; rfl
    refine F.op rfl rfl (by decide) (fun d K hK => ?_)
    go_simp
    rw [mc99]
    go_simp
    rw [alloc_at']
    refine hK _ _ ⟨DX.alloc _ _ (fun e he => ?_), ?_⟩
    · have hm := mem_listed he
      simp [go_sem, mc99, mc99e] at hm
    clear hK K d
    try walk_nrm
    generalize ew1 : World.alloc w _ = w1
    generalize hn1 : (World.heap w).size = n1
    have sz1 := sz_al ew1 hn1
    have hk2 := hkk (g.1, n1) _ ⟨kp.alN ew1, (by have e0 : bn (tick b 1 1) = 1 := (by simp [tick, bn]); have e1 : tick b 1 0 = b 0 := (by simp [tick]); have e3 : tick b 1 3 = b 3 := (by simp [tick]); rw [e0, e1, e3]; omega), fun h => ⟨(h0 (by simpa [tick] using h)).1, (h0 (by simpa [tick] using h)).2.1, by have := (h0 (by simpa [tick] using h)).2.2.1; omega, (h0 (by simpa [tick] using h)).2.2.2.al ew1⟩, fun _ => ⟨by omega, by omega, by omega, hp_new ew1 hn1⟩, fun h _ => (fun z => by have := (h0 (by simpa [tick] using h)).2.2.1; dsimp only at z; omega), fun h => absurd (show b 3 = true from (by simpa [tick] using h)) (by rw [nb3]; decide)⟩
    simp only [nb2, nb3, nb4, hbi, pu, Nat.reduceAdd, Nat.reduceEqDiff, reduceIte] at hk2
    exact hk2
  · intro b g w hI hcl hbi hdp rest hre hkk
    obtain ⟨kp, hsz, h0, h1, h2, h3⟩ := hI
    replace hbi : b 2 = false := hbi
    have d0 : b 0 = true := hdp 0 (by decide)
    have d1 : b 1 = true := hdp 1 (by decide)
    have nb3 : b 3 = false := nbf (fun h => hcl 3 (by decide) h 2 (by decide)) hbi
    have nb4 : b 4 = false := nbf (fun h => hcl 4 (by decide) h 2 (by decide)) hbi
    simp only [d0, d1, nb3, nb4, hbi, pu, Nat.reduceAdd, Nat.reduceEqDiff, reduceIte]
    refine F.oq rfl rfl rfl (fun _ => by simp [go_sem]) fun d K hK => ?_; go_simp; refine hK _ ?_; clear hK K d; try walk_nrm
    have hk2 := hkk g _ ⟨kp, hsz, h0, h1, h2, h3⟩
    simp only [d0, d1, nb3, nb4, hbi, pu, Nat.reduceAdd, Nat.reduceEqDiff, reduceIte] at hk2
    exact hk2
  · intro b g w hI hcl hbi hdp rest hre hkk
    obtain ⟨kp, hsz, h0, h1, h2, h3⟩ := hI
    replace hbi : b 3 = false := hbi
    have d2 : b 2 = true := hdp 2 (by decide)
    have d0 : b 0 = true := hcl 2 (by decide) d2 0 (by decide)
    have d1 : b 1 = true := hcl 2 (by decide) d2 1 (by decide)
    have nb4 : b 4 = false := nbf (fun h => hcl 4 (by decide) h 3 (by decide)) hbi
    simp only [d2, d0, d1, nb4, hbi, pu, Nat.reduceAdd, Nat.reduceEqDiff, reduceIte]
    have e0 : bn (b 0) = 1 := by rw [d0]; rfl
    have e1 : bn (b 1) = 1 := by rw [d1]; rfl
    have e3 : bn (b 3) = 0 := by rw [hbi]; rfl
    have hs3 : w.heap.size = n0 + 2 := by omega
    clear hsz
    refine F.op rfl rfl (by decide) (fun d K hK => ?_)
    go_simp
    rw [alloc_at']
    refine hK _ _ ⟨DX.alloc _ _ (fun e he => ?_), ?_⟩
    · have hm := mem_listed he
      simp [go_sem] at hm
    clear hK K d
    try walk_nrm
    generalize ew1 : World.alloc w _ = w1
    have sz1 := sz_al ew1 hs3
    have ag : AgNew w1 (n0 + 2) g.1 g.2 := ⟨cl_new (i := 0) ew1 hs3 rfl, cl_new (i := 1) ew1 hs3 rfl, cl_new (i := 2) ew1 hs3 rfl, cl_new (i := 3) ew1 hs3 rfl, cl_new (i := 4) ew1 hs3 rfl, cl_new (i := 5) ew1 hs3 rfl, cl_new (i := 6) ew1 hs3 rfl, fun i => fz_new ew1 hs3 i⟩
    have hk2 := hkk g _ ⟨kp.alN ew1, (by have t0 : tick b 3 0 = b 0 := (by simp [tick]); have t1 : tick b 3 1 = b 1 := (by simp [tick]); have t3 : bn (tick b 3 3) = 1 := (by simp [tick, bn]); rw [t0, t1, t3]; omega), fun _ => ⟨(h0 d0).1, (h0 d0).2.1, by have := (h0 d0).2.2.1; omega, (h0 d0).2.2.2.al ew1⟩, fun _ => ⟨(h1 d1).1, (h1 d1).2.1, by have := (h1 d1).2.2.1; omega, (h1 d1).2.2.2.al ew1⟩, fun _ _ => h2 d0 d1, fun _ => ag⟩
    simp only [d2, d0, d1, nb4, hbi, pu, Nat.reduceAdd, Nat.reduceEqDiff, reduceIte] at hk2
    exact hk2
  · intro b g w hI hcl hbi hdp rest hre hkk
    obtain ⟨kp, hsz, h0, h1, h2, h3⟩ := hI
    replace hbi : b 4 = false := hbi
    have d0 : b 0 = true := hdp 0 (by decide)
    have d1 : b 1 = true := hdp 1 (by decide)
    have d2 : b 2 = true := hdp 2 (by decide)
    have d3 : b 3 = true := hdp 3 (by decide)
    simp only [d0, d1, d2, d3, hbi, pu, Nat.reduceAdd, Nat.reduceEqDiff, reduceIte]
    refine F.oq rfl rfl rfl (fun _ => by simp [go_sem]) fun d K hK => ?_; go_simp; refine hK _ ?_; clear hK K d; try walk_nrm
    have hk2 := hkk g _ ⟨kp, hsz, h0, h1, h2, h3⟩
    simp only [d0, d1, d2, d3, hbi, pu, Nat.reduceAdd, Nat.reduceEqDiff, reduceIte] at hk2
    exact hk2
  intro b g w hI hall
  obtain ⟨kp, hsz, h0, h1, h2, h3⟩ := hI
  simp only [hall 0 (by decide), hall 1 (by decide), hall 2 (by decide), hall 3 (by decide), hall 4 (by decide), pu, Nat.reduceAdd, Nat.reduceEqDiff, reduceIte]
  have f0 := h0 (hall 0 (by decide))
  have f1 := h1 (hall 1 (by decide))
  have f2 := h2 (hall 0 (by decide)) (hall 1 (by decide))
  have f3 := h3 (hall 3 (by decide))
  rw [hall 0 (by decide), hall 1 (by decide), hall 3 (by decide)] at hsz
  simp only [bn, if_true] at hsz
  refine F.re ?_
  refine F.ctl (fun _ => stepG_ret') ?_
  refine F.leave rfl rfl Tryz.func35 (resultsC_tmp (by rfl) _) ?_
  exact hc _ _ ⟨g.1, g.2, rfl, kp, by omega, f0.1, f0.2.1, f1.1, f1.2.1, f2, f0.2.2.2, f1.2.2.2, f3⟩

end Go.Proofs.YtobagnjnbmgidaaGreatDoor
