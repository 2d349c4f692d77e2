/- A new agenda. -/
import Derived.Test.YtobagnjnbmgidaaGreatDoorX34
import Derived.Test.YtobagnjnbmgidaaGreatDoorX12
import Derived.Test.YtobagnjnbmgidaaGreatDoorN5
set_option linter.unusedSimpArgs false
set_option linter.unusedVariables false
set_option maxHeartbeats 8000000
set_option maxRecDepth 100000
namespace Go.Proofs.YtobagnjnbmgidaaGreatDoor
section
open Go.Conc Go.RowKit
variable {main : Bool} {Ok : Addr → Bool → Prop}

def bn (b : Bool) : Nat := if b then 1 else 0
def OpenCh (w : World) (c : Nat) : Prop := w.heap[c]? = some (.chan 0 #[] false 0 0 false)
theorem OpenCh.al {w w' : World} {o : Obj} {c : Nat} (h : OpenCh w c) (e : w.alloc o = w') : OpenCh w' c := by
  subst e; unfold OpenCh; rw [Below.heap_alloc _ _ _ (Array.getElem?_eq_some_iff.1 h).1]; exact h
theorem OpenCh.st {w w' : World} {a : Addr} {v : Value} {c : Nat} (h : OpenCh w c) (e : w.setCell a v = w') : OpenCh w' c := by
  subst e; unfold OpenCh at h ⊢; simp only [World.setCell, Array.getElem?_modify, h]
  split <;> rfl
structure AgNew (w : World) (A wc ec : Nat) : Prop where
  a0 : w.cell? ⟨A, 0, none⟩ = some (.int .i64 0)
  a1 : w.cell? ⟨A, 1, none⟩ = some (.slice none 0 0)
  a2 : w.cell? ⟨A, 2, none⟩ = some (.int .i64 0)
  a3 : w.cell? ⟨A, 3, none⟩ = some (.chan (some wc))
  a4 : w.cell? ⟨A, 4, none⟩ = some (.chan (some ec))
  a5 : w.cell? ⟨A, 5, none⟩ = some (.int .u64 0)
  a6 : w.cell? ⟨A, 6, none⟩ = some (.int .u32 0)
  z : ∀ i, w.frozen? ⟨A, i, none⟩ = false

theorem new_agenda_x (w0 : World) :
    CallsX Tryz.prog main (DX Ok) 35 #[] w0 fun v w' => ∃ wc ec, v = .pointer (some ⟨w0.heap.size + 2, 0, none⟩) ∧ Kp [] w0 w' ∧ w'.heap.size = w0.heap.size + 3 ∧ w0.heap.size ≤ wc ∧ wc < w0.heap.size + 2 ∧ w0.heap.size ≤ ec ∧ ec < w0.heap.size + 2 ∧ wc ≠ ec ∧ OpenCh w' wc ∧ OpenCh w' ec ∧ AgNew w' (w0.heap.size + 2) wc ec := by
  intro Ψ F c cs hc; generalize hn0 : w0.heap.size = n0 at hc; have hn0' : n0 ≤ w0.heap.size ∧ w0.heap.size ≤ n0 := by omega
  clear hn0; rw [enter_at _ Tryz.func35 rfl]; simp only [Tryz.ntmps35, List.size_toArray, List.length_cons, List.length_nil, Nat.reduceAdd, Nat.reduceSub, Array.replicate_succ, Array.replicate_zero, List.push_toArray, List.append_toArray, List.nil_append, List.cons_append]; have kp : Kp [] w0 w0 := Kp.refl _; have hsz : n0 + (bn false + bn false + bn false) ≤ w0.heap.size ∧ w0.heap.size ≤ n0 + (bn false + bn false + bn false) := by simp [bn]; omega
  refine F.sr ?_; simp only [rg, Nat.reduceAdd]; refine F.oq rfl rfl rfl (by simp [go_sem]) fun d K h => ?_; go_simp; refine h _ ?_; clear h K d; try walk_nrm
  refine F.es ?_; refine F.drawB (γ := Nat × Nat) (n := 5) mixed [[], [], [0, 1], [2], [0, 1, 2, 3]] rfl (by kernel_rfl) (fun b g => [(1, sel (b 0) (.chan (some g.1)) (undef)), (2, sel (b 1) (.chan (some g.2)) (undef)), (3, sel (b 2) (.agg #[.int .i64 0, .slice none 0 0, .int .i64 0, .chan (some g.1), .chan (some g.2), .int .u64 0, .int .u32 0]) (undef)), (4, sel (b 3) (.pointer (some ⟨n0 + 2, 0, none⟩)) (undef)), (0, sel (b 4) (.pointer (some ⟨n0 + 2, 0, none⟩)) (.pointer none))]) (fun b g w => (Kp [] w0 w) ∧ (n0 + (bn (b 0) + bn (b 1) + bn (b 3)) ≤ w.heap.size ∧ w.heap.size ≤ n0 + (bn (b 0) + bn (b 1) + bn (b 3))) ∧ (b 0 = true → n0 ≤ g.1 ∧ g.1 < n0 + 2 ∧ g.1 < w.heap.size ∧ OpenCh w g.1) ∧ (b 1 = true → n0 ≤ g.2 ∧ g.2 < n0 + 2 ∧ g.2 < w.heap.size ∧ OpenCh w g.2) ∧ (b 0 = true → b 1 = true → g.1 ≠ g.2) ∧ (b 3 = true → AgNew w (n0 + 2) g.1 g.2)) ((0, 0)) (by simp only [pu, Nat.reduceAdd, Nat.reduceEqDiff, reduceIte]) (⟨kp, hsz, fun h => (by cases h), fun h => (by cases h), fun h => (by cases h), fun h => (by cases h)⟩) (all_cons ?_ (all_cons ?_ (all_cons ?_ (all_cons ?_ (all_cons ?_ (all_nil)))))) ?_
  · intro b g w hI hcl hbi hdp rest hre hkk
    obtain ⟨kp, hsz, h0, h1, h2, h3⟩ := hI; replace hbi : b 0 = false := hbi; have nb2 := nbf (hcl 2 0 rfl) hbi; have nb3 := nbf (hcl 3 2 rfl) nb2; have nb4 := nbf (hcl 4 0 rfl) hbi; simp only [nb2, nb3, nb4, hbi, pu, Nat.reduceAdd, Nat.reduceEqDiff, reduceIte]; have hbb : bn (b 1) ≤ 1 := by simp only [bn]; split <;> omega
    have hb3 : bn (b 3) = 0 := by rw [nb3]; rfl
    have hbi' : bn (b 0) = 0 := by rw [hbi]; rfl
    refine F.op rfl rfl (by decide) (fun d K hK => ?_); go_simp; rw [mc99]; go_simp; rw [alloc_at']; refine hK _ _ ⟨DX.alloc _ _ (fun e he => ?_), ?_⟩
    · have hm := mem_listed he
      simp [go_sem, mc99, mc99e] at hm
    clear hK K d; try walk_nrm
    generalize ew1 : World.alloc w _ = w1; generalize hn1 : (World.heap w).size = n1; have sz1 := sz_al ew1 hn1; have hk2 := hkk (n1, g.2) _ ⟨kp.alN ew1, (by have e0 : bn (tick b 0 0) = 1 := (by simp [tick, bn]); have e1 : tick b 0 1 = b 1 := (by simp [tick]); have e3 : tick b 0 3 = b 3 := (by simp [tick]); rw [e0, e1, e3]; omega), fun _ => ⟨by omega, by omega, by omega, hp_new ew1 hn1⟩, fun h => ⟨(h1 (by simpa [tick] using h)).1, (h1 (by simpa [tick] using h)).2.1, by have := (h1 (by simpa [tick] using h)).2.2.1; omega, (h1 (by simpa [tick] using h)).2.2.2.al ew1⟩, fun _ h => (fun z => by have := (h1 (by simpa [tick] using h)).2.2.1; dsimp only at z; omega), fun h => absurd (show b 3 = true from (by simpa [tick] using h)) (by rw [nb3]; decide)⟩; simp only [nb2, nb3, nb4, hbi, pu, Nat.reduceAdd, Nat.reduceEqDiff, reduceIte] at hk2; exact hk2
  · intro b g w hI hcl hbi hdp rest hre hkk
    obtain ⟨kp, hsz, h0, h1, h2, h3⟩ := hI; replace hbi : b 1 = false := hbi; have nb2 := nbf (hcl 2 1 rfl) hbi; have nb3 := nbf (hcl 3 2 rfl) nb2; have nb4 := nbf (hcl 4 1 rfl) hbi; simp only [nb2, nb3, nb4, hbi, pu, Nat.reduceAdd, Nat.reduceEqDiff, reduceIte]; have hbb : bn (b 0) ≤ 1 := by simp only [bn]; split <;> omega
    have hb3 : bn (b 3) = 0 := by rw [nb3]; rfl
    have hbi' : bn (b 1) = 0 := by rw [hbi]; rfl
    refine F.op rfl rfl (by decide) (fun d K hK => ?_); go_simp; rw [mc99]; go_simp; rw [alloc_at']; refine hK _ _ ⟨DX.alloc _ _ (fun e he => ?_), ?_⟩
    · have hm := mem_listed he
      simp [go_sem, mc99, mc99e] at hm
    clear hK K d; try walk_nrm
    generalize ew1 : World.alloc w _ = w1; generalize hn1 : (World.heap w).size = n1; have sz1 := sz_al ew1 hn1; have hk2 := hkk (g.1, n1) _ ⟨kp.alN ew1, (by have e0 : bn (tick b 1 1) = 1 := (by simp [tick, bn]); have e1 : tick b 1 0 = b 0 := (by simp [tick]); have e3 : tick b 1 3 = b 3 := (by simp [tick]); rw [e0, e1, e3]; omega), fun h => ⟨(h0 (by simpa [tick] using h)).1, (h0 (by simpa [tick] using h)).2.1, by have := (h0 (by simpa [tick] using h)).2.2.1; omega, (h0 (by simpa [tick] using h)).2.2.2.al ew1⟩, fun _ => ⟨by omega, by omega, by omega, hp_new ew1 hn1⟩, fun h _ => (fun z => by have := (h0 (by simpa [tick] using h)).2.2.1; dsimp only at z; omega), fun h => absurd (show b 3 = true from (by simpa [tick] using h)) (by rw [nb3]; decide)⟩; simp only [nb2, nb3, nb4, hbi, pu, Nat.reduceAdd, Nat.reduceEqDiff, reduceIte] at hk2; exact hk2
  · intro b g w hI hcl hbi hdp rest hre hkk
    obtain ⟨kp, hsz, h0, h1, h2, h3⟩ := hI; replace hbi : b 2 = false := hbi; have d0 := hdp 0 rfl; have d1 := hdp 1 rfl; simp only [d0, d1, hbi, pu, Nat.reduceAdd, Nat.reduceEqDiff, reduceIte]; refine F.oq rfl rfl rfl (by simp [go_sem]) fun d K h => ?_; go_simp; refine h _ ?_; clear h K d; try walk_nrm
    have hk2 := hkk g _ ⟨kp, hsz, h0, h1, h2, h3⟩; simp only [d0, d1, hbi, pu, Nat.reduceAdd, Nat.reduceEqDiff, reduceIte] at hk2; exact hk2
  · intro b g w hI hcl hbi hdp rest hre hkk
    obtain ⟨kp, hsz, h0, h1, h2, h3⟩ := hI; replace hbi : b 3 = false := hbi; have d2 := hdp 2 rfl; have d0 := hcl 2 0 rfl d2; have d1 := hcl 2 1 rfl d2; simp only [d2, d0, d1, hbi, pu, Nat.reduceAdd, Nat.reduceEqDiff, reduceIte]; have e0 : bn (b 0) = 1 := by rw [d0]; rfl
    have e1 : bn (b 1) = 1 := by rw [d1]; rfl
    have e3 : bn (b 3) = 0 := by rw [hbi]; rfl
    have hs3 : w.heap.size = n0 + 2 := by omega
    clear hsz; refine F.op rfl rfl (by decide) (fun d K hK => ?_); go_simp; rw [alloc_at']; refine hK _ _ ⟨DX.alloc _ _ (fun e he => ?_), ?_⟩
    · have hm := mem_listed he
      simp [go_sem] at hm
    clear hK K d; try walk_nrm
    generalize ew1 : World.alloc w _ = w1; have sz1 := sz_al ew1 hs3; have ag : AgNew w1 (n0 + 2) g.1 g.2 := ⟨cl_new (i := 0) ew1 hs3 rfl, cl_new (i := 1) ew1 hs3 rfl, cl_new (i := 2) ew1 hs3 rfl, cl_new (i := 3) ew1 hs3 rfl, cl_new (i := 4) ew1 hs3 rfl, cl_new (i := 5) ew1 hs3 rfl, cl_new (i := 6) ew1 hs3 rfl, fun i => fz_new ew1 hs3 i⟩; have hk2 := hkk g _ ⟨kp.alN ew1, (by have t0 : tick b 3 0 = b 0 := (by simp [tick]); have t1 : tick b 3 1 = b 1 := (by simp [tick]); have t3 : bn (tick b 3 3) = 1 := (by simp [tick, bn]); rw [t0, t1, t3]; omega), fun _ => ⟨(h0 d0).1, (h0 d0).2.1, by have := (h0 d0).2.2.1; omega, (h0 d0).2.2.2.al ew1⟩, fun _ => ⟨(h1 d1).1, (h1 d1).2.1, by have := (h1 d1).2.2.1; omega, (h1 d1).2.2.2.al ew1⟩, fun _ _ => h2 d0 d1, fun _ => ag⟩; simp only [d2, d0, d1, hbi, pu, Nat.reduceAdd, Nat.reduceEqDiff, reduceIte] at hk2; exact hk2
  · intro b g w hI hcl hbi hdp rest hre hkk
    obtain ⟨kp, hsz, h0, h1, h2, h3⟩ := hI; replace hbi : b 4 = false := hbi; have d0 := hdp 0 rfl; have d1 := hdp 1 rfl; have d2 := hdp 2 rfl; have d3 := hdp 3 rfl; simp only [d0, d1, d2, d3, hbi, pu, Nat.reduceAdd, Nat.reduceEqDiff, reduceIte]; refine F.oq rfl rfl rfl (by simp [go_sem]) fun d K h => ?_; go_simp; refine h _ ?_; clear h K d; try walk_nrm
    have hk2 := hkk g _ ⟨kp, hsz, h0, h1, h2, h3⟩; simp only [d0, d1, d2, d3, hbi, pu, Nat.reduceAdd, Nat.reduceEqDiff, reduceIte] at hk2; exact hk2
  intro b g w hI hall; obtain ⟨kp, hsz, h0, h1, h2, h3⟩ := hI; simp only [hall 0 (by decide), hall 1 (by decide), hall 2 (by decide), hall 3 (by decide), hall 4 (by decide), pu, Nat.reduceAdd, Nat.reduceEqDiff, reduceIte]; have f0 := h0 (hall 0 (by decide)); have f1 := h1 (hall 1 (by decide)); have f2 := h2 (hall 0 (by decide)) (hall 1 (by decide)); have f3 := h3 (hall 3 (by decide)); rw [hall 0 (by decide), hall 1 (by decide), hall 3 (by decide)] at hsz; simp only [bn, if_true] at hsz; refine F.re ?_; refine F.ctl (fun _ => stepG_ret') ?_; refine F.leave rfl rfl Tryz.func35 (resultsC_tmp (by rfl) _) ?_; exact hc _ _ ⟨g.1, g.2, rfl, kp, by omega, f0.1, f0.2.1, f1.1, f1.2.1, f2, f0.2.2.2, f1.2.2.2, f3⟩
end
section
open Go.Conc Go.RowKit
variable {main : Bool} {Ok : Addr → Bool → Prop}

structure TaskNew (w : World) (T A tch : Nat) (cl : Int) : Prop where
  t0 : w.cell? ⟨T, 0, none⟩ = some (.pointer (some ⟨A, 0, none⟩))
  t2 : w.cell? ⟨T, 2, none⟩ = some (.int .i64 cl)
  t3 : w.cell? ⟨T, 3, none⟩ = some (.chan (some tch))
  t4 : w.cell? ⟨T, 4, none⟩ = some (.pointer none)
  t6 : w.cell? ⟨T, 6, none⟩ = some (.bool false)
  t7 : w.cell? ⟨T, 7, none⟩ = some (.bool false)
  z4 : w.frozen? ⟨T, 4, none⟩ = false
  z7 : w.frozen? ⟨T, 7, none⟩ = false
theorem TaskNew.kp {L : List Nat} {C : List Addr} {w w' : World} {T A tch : Nat} {cl : Int} (h : TaskNew w T A tch cl) (k : Kp L w w' C) (hL : T ∉ L) (hC : ∀ x ∈ C, x.block ≠ T) : TaskNew w' T A tch cl :=
  have c : ∀ i, (⟨T, i, none⟩ : Addr) ∉ C := fun i z => hC _ z rfl
  ⟨k.cellC _ _ hL (c _) h.t0, k.cellC _ _ hL (c _) h.t2, k.cellC _ _ hL (c _) h.t3, k.cellC _ _ hL (c _) h.t4, k.cellC _ _ hL (c _) h.t6, k.cellC _ _ hL (c _) h.t7, (k.frozC _ _ hL (c _) h.t4).trans h.z4, (k.frozC _ _ hL (c _) h.t7).trans h.z7⟩
theorem OpenCh.dx {w w' : World} {es : Array Event} {c : Nat} (D : DX Ok w w' es) (h : OpenCh w c) : OpenCh w' c := D.obj c _ h (fun _ _ _ z => by cases z)
theorem CallsX.keep {R : World → Prop} {f : FuncId} {args : Array Value} {w : World} {Post : Value → World → Prop} (hat : ∀ w d, R w → R (w.at d)) (hR : ∀ w w' es, DX Ok w w' es → R w → R w') (h : CallsX Tryz.prog main (DX Ok) f args w Post) (hw : R w) :
    CallsX Tryz.prog main (DX Ok) f args w (fun v w' => Post v w' ∧ R w') := fun Ψ F c cs hc =>
  h (fun g w => R w → Ψ g w) ⟨fun g w d x hr => F.at' _ _ _ (x (show R w from hat (w.at d) w.drawn hr)), F.idle, F.less, fun g w hs x hr => F.step g w hs fun d => by
    obtain ⟨g', w', es, h1, h2, h3, h4⟩ := x d; exact ⟨g', w', es, h1, h2, h3 (hR _ _ _ h2 (hat _ d hr)), h4⟩⟩ c cs (fun v w' hp hr => hc v w' ⟨hp, hr⟩) hw
theorem CallsX.keepCh {f : FuncId} {args : Array Value} {w : World} {Post : Value → World → Prop} (h : CallsX Tryz.prog main (DX Ok) f args w Post) {c : Nat} (hw : OpenCh w c) :
    CallsX Tryz.prog main (DX Ok) f args w (fun v w' => Post v w' ∧ OpenCh w' c) := h.keep (fun _ _ x => x) (fun _ _ _ D x => x.dx D) hw
end
section
open Go.Conc Go.RowKit
variable {main : Bool} {Ok : Addr → Bool → Prop}

theorem och_ne {w : World} {c b i : Nat} {v : Value} (h : OpenCh w c) (hc : w.cell? ⟨b, i, none⟩ = some v) : c ≠ b := fun z => by
  subst z; unfold OpenCh at h; simp only [World.cell?, h] at hc
  simp at hc

theorem beginQ_x (N A bl bo bi cl k : Nat) (at' : Int) (en : Value) (es : List (Int × Value)) (w0 : World) (hN : N ≤ w0.heap.size) (lA : A < N) (he : Ents N w0 en es) (hq9 : es.length < 900) (hk9 : k < 900) (hA1 : w0.cell? ⟨A, 1, none⟩ = some en) (hA2 : w0.cell? ⟨A, 2, none⟩ = some (.int .i64 (k : Int))) (zA1 : w0.frozen? ⟨A, 1, none⟩ = false) (zA2 : w0.frozen? ⟨A, 2, none⟩ = false)
    (o1 : Ok ⟨A, 1, none⟩ false) (o1w : Ok ⟨A, 1, none⟩ true) (o2 : Ok ⟨A, 2, none⟩ false) (o2w : Ok ⟨A, 2, none⟩ true) (okE : ∀ (a : Addr) (wr : Bool), a.block ∈ rowL en ∨ w0.heap.size ≤ a.block → Ok a wr) :
    CallsX Tryz.prog main (DX Ok) 36 #[.pointer (some ⟨A, 0, none⟩), .int .i64 (cl : Int), .int .i64 at', .func (.func 37) #[] #[.pointer (some ⟨bl, 0, none⟩), .pointer (some ⟨bo, 0, none⟩), .pointer (some ⟨bi, 0, none⟩)]] w0 fun v w' => ∃ ba bw tch T bt P en' i, v = .pointer (some ⟨T, 0, none⟩) ∧ Kp (rowL en) w0 w' [⟨A, 1, none⟩, ⟨A, 2, none⟩] ∧
      (w0.heap.size ≤ ba ∧ ba < bw ∧ bw < tch ∧ bw < T ∧ bw < bt ∧ tch < P ∧ T < P ∧ bt < P ∧ P ≤ w'.heap.size ∧ bt ≠ T ∧ tch ≠ T ∧ tch ≠ bt) ∧
      w'.cell? ⟨ba, 0, none⟩ = some (.pointer (some ⟨A, 0, none⟩)) ∧ w'.cell? ⟨bw, 0, none⟩ = some (.func (.func 37) #[] #[.pointer (some ⟨bl, 0, none⟩), .pointer (some ⟨bo, 0, none⟩), .pointer (some ⟨bi, 0, none⟩)]) ∧ w'.cell? ⟨bt, 0, none⟩ = some (.pointer (some ⟨T, 0, none⟩)) ∧ TaskNew w' T A tch (cl : Int) ∧ OpenCh w' tch ∧
      w'.cell? ⟨A, 1, none⟩ = some en' ∧ w'.frozen? ⟨A, 1, none⟩ = false ∧ w'.cell? ⟨A, 2, none⟩ = some (.int .i64 ((k : Int) + 1)) ∧ w'.frozen? ⟨A, 2, none⟩ = false ∧ i ≤ es.length ∧ Ents N w' en' (es.take i ++ (at', .func (.func 50) #[] #[.pointer (some ⟨ba, 0, none⟩), .pointer (some ⟨bt, 0, none⟩), .pointer (some ⟨bw, 0, none⟩)]) :: es.drop i) ∧ ∀ g ∈ rowL en', g ∈ rowL en ∨ P ≤ g := by
  intro Ψ F c cs hc; have hfr : ∀ (a : Addr) (wr : Bool), w0.heap.size ≤ a.block → Ok a wr := fun a wr h => okE a wr (.inr h)
  have hrN : ∀ g, g ∈ rowL en → N ≤ g ∧ g < w0.heap.size := fun g hg => by
    obtain ⟨h1, cur, h2⟩ := he.lt (mem_rowL.1 hg); exact ⟨h1, (Array.getElem?_eq_some_iff.1 h2).1⟩
  have hw1 : IntKind.i64.wrap 1 = 1 := by decide
  have hw1' : IntKind.i64.wrap ((k : Int) + 1) = (k : Int) + 1 := by simp only [IntKind.wrap, IntKind.bits, IntKind.signed] <;> (try simp) <;> omega
  rw [enter_at _ Tryz.func36 rfl]; simp only [Tryz.ntmps36, List.size_toArray, List.length_cons, List.length_nil, Nat.reduceAdd, Nat.reduceSub, Array.replicate_succ, Array.replicate_zero, List.push_toArray, List.append_toArray, List.nil_append, List.cons_append]; refine F.sr ?_; simp only [rg, Nat.reduceAdd]; refine F.op rfl rfl (by decide) (fun d K hK => ?_); go_simp; rw [alloc_at']; refine hK _ _ ⟨DX.alloc _ _ (fun e he => ?_), ?_⟩
  · have hm := mem_listed he
    simp [go_sem] at hm
  clear hK K d; try walk_nrm
  generalize ew1 : World.alloc w0 _ = w1; generalize hn1 : (World.heap w0).size = n1; have sz1 := sz_al2 ew1 hn1; replace zA1 := fz_al zA1 hA1 ew1; replace zA2 := fz_al zA2 hA2 ew1; replace hA1 := cl_al hA1 ew1; replace hA2 := cl_al hA2 ew1; have hba := cl_new (i := 0) ew1 hn1 rfl; have zba := fz_new ew1 hn1 0; try simp only [List.getElem_toArray, List.getElem_cons_zero, List.getElem_cons_succ] at hba
  have kp : Kp [] w0 w0 [] := Kp.refl _; replace kp := kp.alN ew1; refine F.op rfl rfl (by decide) (fun d K hK => ?_); go_simp; rw [alloc_at']; refine hK _ _ ⟨DX.alloc _ _ (fun e he => ?_), ?_⟩
  · have hm := mem_listed he
    simp [go_sem] at hm
  clear hK K d; try walk_nrm
  generalize ew2 : World.alloc w1 _ = w2; generalize hn2 : (World.heap w1).size = n2; have sz2 := sz_al2 ew2 hn2; replace zA1 := fz_al zA1 hA1 ew2; replace zA2 := fz_al zA2 hA2 ew2; replace zba := fz_al zba hba ew2; replace hA1 := cl_al hA1 ew2; replace hA2 := cl_al hA2 ew2; replace hba := cl_al hba ew2; have hbw := cl_new (i := 0) ew2 hn2 rfl; have zbw := fz_new ew2 hn2 0; try simp only [List.getElem_toArray, List.getElem_cons_zero, List.getElem_cons_succ] at hbw
  replace kp := kp.alN ew2; refine F.oq rfl rfl rfl (by simp [go_sem]) fun d K h => ?_; go_simp; refine h _ ?_; clear h K d; try walk_nrm
  refine F.es ?_; have hn12 : w0.heap.size ≤ n1 ∧ n1 < n2 := by omega
  clear sz1 sz2 hn1 hn2 ew1 ew2 zba zbw; refine F.drawB (γ := Nat × Nat × Nat) (n := 11) mixed [[], [], [1], [2], [3], [], [], [0, 4, 5, 6], [7], [], [0, 1, 2, 3, 4, 5, 6, 7, 8, 9]] rfl (by kernel_rfl) (fun b g => [(10, sel (b 0) (.pointer (some ⟨A, 0, none⟩)) (undef)), (11, sel (b 1) (.pointer (some ⟨A, 0, none⟩)) (undef)), (12, sel (b 2) (.pointer (some ⟨A, 0, none⟩)) (undef)), (13, sel (b 3) (.pointer (some ⟨A, 2, none⟩)) (undef)), (14, sel (b 4) (.int .i64 (k : Int)) (undef)), (15, sel (b 5) (.int .i64 (cl : Int)) (undef)), (16, sel (b 6) (.chan (some g.1)) (undef)), (17, sel (b 7) (.agg #[.pointer (some ⟨A, 0, none⟩), .int .i64 (k : Int), .int .i64 (cl : Int), .chan (some g.1), .pointer none, .slice none 0 0, .bool false, .bool false]) (undef)), (18, sel (b 8) (.pointer (some ⟨g.2.1, 0, none⟩)) (undef)), (9, sel (b 9) (.pointer (some ⟨g.2.2, 0, none⟩)) (undef))]) (fun b g w => (b 10 = false → ((Kp [] w0 w) ∧ (w.cell? ⟨n1, 0, none⟩ = some (.pointer (some ⟨A, 0, none⟩))) ∧ (w.cell? ⟨n2, 0, none⟩ = some (.func (.func 37) #[] #[.pointer (some ⟨bl, 0, none⟩), .pointer (some ⟨bo, 0, none⟩), .pointer (some ⟨bi, 0, none⟩)])) ∧ (w.cell? ⟨A, 2, none⟩ = some (.int .i64 (k : Int))) ∧ (w.cell? ⟨A, 1, none⟩ = some en) ∧ (w.frozen? ⟨A, 2, none⟩ = false) ∧ (w.frozen? ⟨A, 1, none⟩ = false) ∧ (b 6 = true → n2 < g.1 ∧ g.1 < w.heap.size ∧ OpenCh w g.1) ∧ (b 8 = true → n2 < g.2.1 ∧ g.2.1 < w.heap.size ∧ TaskNew w g.2.1 A g.1 (cl : Int)) ∧ (b 9 = true → n2 < g.2.2 ∧ g.2.2 < w.heap.size ∧ w.cell? ⟨g.2.2, 0, none⟩ = some (.pointer none) ∧ w.frozen? ⟨g.2.2, 0, none⟩ = false) ∧ (b 8 = true → b 9 = true → g.2.1 ≠ g.2.2))) ∧ (b 10 = true → ( Kp [] w0 w ∧ w.cell? ⟨n1, 0, none⟩ = some (.pointer (some ⟨A, 0, none⟩)) ∧ w.cell? ⟨n2, 0, none⟩ = some (.func (.func 37) #[] #[.pointer (some ⟨bl, 0, none⟩), .pointer (some ⟨bo, 0, none⟩), .pointer (some ⟨bi, 0, none⟩)]) ∧ w.cell? ⟨A, 2, none⟩ = some (.int .i64 (k : Int)) ∧ w.cell? ⟨A, 1, none⟩ = some en ∧ w.frozen? ⟨A, 2, none⟩ = false ∧ w.frozen? ⟨A, 1, none⟩ = false ∧ (n2 < g.1 ∧ g.1 < w.heap.size ∧ OpenCh w g.1) ∧ (n2 < g.2.1 ∧ g.2.1 < w.heap.size ∧ TaskNew w g.2.1 A g.1 (cl : Int)) ∧ n2 < g.2.2 ∧ g.2.2 < w.heap.size ∧ w.cell? ⟨g.2.2, 0, none⟩ = some (.pointer (some ⟨g.2.1, 0, none⟩)) ∧ g.2.1 ≠ g.2.2))) ((0, 0, 0)) (by simp only [pu, Nat.reduceAdd, Nat.reduceEqDiff, reduceIte]) (⟨fun _ => ⟨kp, hba, hbw, hA2, hA1, zA2, zA1, fun h => (by cases h), fun h => (by cases h), fun h => (by cases h), fun h => (by cases h)⟩, fun h => by cases h⟩) (all_cons ?_ (all_cons ?_ (all_cons ?_ (all_cons ?_ (all_cons ?_ (all_cons ?_ (all_cons ?_ (all_cons ?_ (all_cons ?_ (all_cons ?_ (all_cons ?_ (all_nil)))))))))))) ?_
  · intro b g w hI hcl hbi hdp rest hre hkk
    obtain ⟨hwf, hwt⟩ := hI; replace hbi : b 0 = false := hbi; have nb10 := nbf (hcl 10 0 rfl) hbi; obtain ⟨kp, hba, hbw, hA2, hA1, zA2, zA1, h6, h8, h9, hne⟩ := hwf nb10; clear hwf hwt; simp only [nb10, hbi, pu, Nat.reduceAdd, Nat.reduceEqDiff, reduceIte]; refine F.ol rfl rfl rfl fun d K h => ?_; go_simp; refine h _ (fun e m => ?_) ?_; simp [go_sem, *] at m; subst m; exact evr (w := w) (by assumption) (by first | assumption | (apply hfr <;> dsimp only <;> omega)); clear h K d; try walk_nrm
    have hk2 := hkk g _ ⟨fun _ => ⟨kp, hba, hbw, hA2, hA1, zA2, zA1, h6, h8, h9, hne⟩, fun h => no nb10 h⟩; simp only [nb10, hbi, pu, Nat.reduceAdd, Nat.reduceEqDiff, reduceIte] at hk2; exact hk2
  · intro b g w hI hcl hbi hdp rest hre hkk
    obtain ⟨hwf, hwt⟩ := hI; replace hbi : b 1 = false := hbi; have nb10 := nbf (hcl 10 1 rfl) hbi; obtain ⟨kp, hba, hbw, hA2, hA1, zA2, zA1, h6, h8, h9, hne⟩ := hwf nb10; clear hwf hwt; simp only [nb10, hbi, pu, Nat.reduceAdd, Nat.reduceEqDiff, reduceIte]; refine F.ol rfl rfl rfl fun d K h => ?_; go_simp; refine h _ (fun e m => ?_) ?_; simp [go_sem, *] at m; subst m; exact evr (w := w) (by assumption) (by first | assumption | (apply hfr <;> dsimp only <;> omega)); clear h K d; try walk_nrm
    have hk2 := hkk g _ ⟨fun _ => ⟨kp, hba, hbw, hA2, hA1, zA2, zA1, h6, h8, h9, hne⟩, fun h => no nb10 h⟩; simp only [nb10, hbi, pu, Nat.reduceAdd, Nat.reduceEqDiff, reduceIte] at hk2; exact hk2
  · intro b g w hI hcl hbi hdp rest hre hkk
    obtain ⟨hwf, hwt⟩ := hI; replace hbi : b 2 = false := hbi; have d1 := hdp 1 rfl; have nb10 := nbf (hcl 10 2 rfl) hbi; obtain ⟨kp, hba, hbw, hA2, hA1, zA2, zA1, h6, h8, h9, hne⟩ := hwf nb10; clear hwf hwt; simp only [d1, nb10, hbi, pu, Nat.reduceAdd, Nat.reduceEqDiff, reduceIte]; refine F.oq rfl rfl rfl (by simp [go_sem]) fun d K h => ?_; go_simp; refine h _ ?_; clear h K d; try walk_nrm
    have hk2 := hkk g _ ⟨fun _ => ⟨kp, hba, hbw, hA2, hA1, zA2, zA1, h6, h8, h9, hne⟩, fun h => no nb10 h⟩; simp only [d1, nb10, hbi, pu, Nat.reduceAdd, Nat.reduceEqDiff, reduceIte] at hk2; exact hk2
  · intro b g w hI hcl hbi hdp rest hre hkk
    obtain ⟨hwf, hwt⟩ := hI; replace hbi : b 3 = false := hbi; have d2 := hdp 2 rfl; have nb10 := nbf (hcl 10 3 rfl) hbi; obtain ⟨kp, hba, hbw, hA2, hA1, zA2, zA1, h6, h8, h9, hne⟩ := hwf nb10; clear hwf hwt; simp only [d2, nb10, hbi, pu, Nat.reduceAdd, Nat.reduceEqDiff, reduceIte]; refine F.oq rfl rfl rfl (by simp [go_sem]) fun d K h => ?_; go_simp; refine h _ ?_; clear h K d; try walk_nrm
    have hk2 := hkk g _ ⟨fun _ => ⟨kp, hba, hbw, hA2, hA1, zA2, zA1, h6, h8, h9, hne⟩, fun h => no nb10 h⟩; simp only [d2, nb10, hbi, pu, Nat.reduceAdd, Nat.reduceEqDiff, reduceIte] at hk2; exact hk2
  · intro b g w hI hcl hbi hdp rest hre hkk
    obtain ⟨hwf, hwt⟩ := hI; replace hbi : b 4 = false := hbi; have d3 := hdp 3 rfl; have nb10 := nbf (hcl 10 4 rfl) hbi; obtain ⟨kp, hba, hbw, hA2, hA1, zA2, zA1, h6, h8, h9, hne⟩ := hwf nb10; clear hwf hwt; simp only [d3, nb10, hbi, pu, Nat.reduceAdd, Nat.reduceEqDiff, reduceIte]; refine F.ol rfl rfl rfl fun d K h => ?_; go_simp; refine h _ (fun e m => ?_) ?_; simp [go_sem, *] at m; subst m; exact evr (w := w) (by assumption) (by first | assumption | (apply hfr <;> dsimp only <;> omega)); clear h K d; try walk_nrm
    have hk2 := hkk g _ ⟨fun _ => ⟨kp, hba, hbw, hA2, hA1, zA2, zA1, h6, h8, h9, hne⟩, fun h => no nb10 h⟩; simp only [d3, nb10, hbi, pu, Nat.reduceAdd, Nat.reduceEqDiff, reduceIte] at hk2; exact hk2
  · intro b g w hI hcl hbi hdp rest hre hkk
    obtain ⟨hwf, hwt⟩ := hI; replace hbi : b 5 = false := hbi; have nb10 := nbf (hcl 10 5 rfl) hbi; obtain ⟨kp, hba, hbw, hA2, hA1, zA2, zA1, h6, h8, h9, hne⟩ := hwf nb10; clear hwf hwt; simp only [nb10, hbi, pu, Nat.reduceAdd, Nat.reduceEqDiff, reduceIte]; refine F.oq rfl rfl rfl (by simp [go_sem]) fun d K h => ?_; go_simp; refine h _ ?_; clear h K d; try walk_nrm
    have hk2 := hkk g _ ⟨fun _ => ⟨kp, hba, hbw, hA2, hA1, zA2, zA1, h6, h8, h9, hne⟩, fun h => no nb10 h⟩; simp only [nb10, hbi, pu, Nat.reduceAdd, Nat.reduceEqDiff, reduceIte] at hk2; exact hk2
  · intro b g w hI hcl hbi hdp rest hre hkk
    obtain ⟨hwf, hwt⟩ := hI; replace hbi : b 6 = false := hbi; have nb7 := nbf (hcl 7 6 rfl) hbi; have nb10 := nbf (hcl 10 6 rfl) hbi; obtain ⟨kp, hba, hbw, hA2, hA1, zA2, zA1, h6, h8, h9, hne⟩ := hwf nb10; clear hwf hwt; simp only [nb7, nb10, hbi, pu, Nat.reduceAdd, Nat.reduceEqDiff, reduceIte]; refine F.op rfl rfl (by decide) (fun d K hK => ?_); go_simp; rw [mc113]; go_simp; rw [alloc_at']; refine hK _ _ ⟨DX.alloc _ _ (fun e he => ?_), ?_⟩
    · have hm := mem_listed he
      simp [go_sem, mc113, mc113e] at hm
    clear hK K d; try walk_nrm
    generalize ew3 : World.alloc w _ = w3; generalize hn3 : (World.heap w).size = n3; have sz3 := sz_al ew3 hn3; have hb2 : n2 < n3 := by have : n2 < w.heap.size := lt_of_cell hbw; omega
    have nb8' : b 8 = false := by
      cases hx : b 8 with
      | false => rfl
      | true => have h7 := hcl 8 7 rfl hx; have h6' := hcl 7 6 rfl h7; rw [show b 6 = false from hbi] at h6'; cases h6'
    have hk2 := hkk (n3, g.2) _ ⟨fun _ => ⟨kp.alN ew3, cl_al hba ew3, cl_al hbw ew3, cl_al hA2 ew3, cl_al hA1 ew3, fz_al zA2 hA2 ew3, fz_al zA1 hA1 ew3, fun _ => ⟨hb2, (show n3 < w3.heap.size by omega), hp_new ew3 hn3⟩, fun h => absurd (show b 8 = true from (by simpa [tick] using h)) (by rw [nb8']; decide), fun h => ⟨(h9 (by simpa [tick] using h)).1, Nat.lt_of_lt_of_le (h9 (by simpa [tick] using h)).2.1 (by omega), cl_al (h9 (by simpa [tick] using h)).2.2.1 ew3, fz_al (h9 (by simpa [tick] using h)).2.2.2 (h9 (by simpa [tick] using h)).2.2.1 ew3⟩, fun h => absurd (show b 8 = true from (by simpa [tick] using h)) (by rw [nb8']; decide)⟩, fun h => absurd (show b 10 = true from (by simpa [tick] using h)) (by rw [nb10]; decide)⟩; simp only [nb7, nb10, hbi, pu, Nat.reduceAdd, Nat.reduceEqDiff, reduceIte] at hk2; exact hk2
  · intro b g w hI hcl hbi hdp rest hre hkk
    obtain ⟨hwf, hwt⟩ := hI; replace hbi : b 7 = false := hbi; have d0 := hdp 0 rfl; have d4 := hdp 4 rfl; have d5 := hdp 5 rfl; have d6 := hdp 6 rfl; have nb10 := nbf (hcl 10 7 rfl) hbi; obtain ⟨kp, hba, hbw, hA2, hA1, zA2, zA1, h6, h8, h9, hne⟩ := hwf nb10; clear hwf hwt; simp only [d0, d4, d5, d6, nb10, hbi, pu, Nat.reduceAdd, Nat.reduceEqDiff, reduceIte]; refine F.oq rfl rfl rfl (by simp [go_sem]) fun d K h => ?_; go_simp; refine h _ ?_; clear h K d; try walk_nrm
    have hk2 := hkk g _ ⟨fun _ => ⟨kp, hba, hbw, hA2, hA1, zA2, zA1, h6, h8, h9, hne⟩, fun h => no nb10 h⟩; simp only [d0, d4, d5, d6, nb10, hbi, pu, Nat.reduceAdd, Nat.reduceEqDiff, reduceIte] at hk2; exact hk2
  · intro b g w hI hcl hbi hdp rest hre hkk
    obtain ⟨hwf, hwt⟩ := hI; replace hbi : b 8 = false := hbi; have d7 := hdp 7 rfl; have d0 := hcl 7 0 rfl d7; have d4 := hcl 7 4 rfl d7; have d5 := hcl 7 5 rfl d7; have d6 := hcl 7 6 rfl d7; have d3 := hcl 4 3 rfl d4; have d2 := hcl 3 2 rfl d3; have d1 := hcl 2 1 rfl d2; have nb10 := nbf (hcl 10 8 rfl) hbi; obtain ⟨kp, hba, hbw, hA2, hA1, zA2, zA1, h6, h8, h9, hne⟩ := hwf nb10; clear hwf hwt; simp only [d7, d0, d4, d5, d6, d3, d2, d1, nb10, hbi, pu, Nat.reduceAdd, Nat.reduceEqDiff, reduceIte]; refine F.op rfl rfl (by decide) (fun d K hK => ?_); go_simp
    skip
    rw [alloc_at']; refine hK _ _ ⟨DX.alloc _ _ (fun e he => ?_), ?_⟩
    · have hm := mem_listed he
      simp [go_sem, mc113, mc113e] at hm
    clear hK K d; try walk_nrm
    generalize ew3 : World.alloc w _ = w3; generalize hn3 : (World.heap w).size = n3; have sz3 := sz_al ew3 hn3; have hb2 : n2 < n3 := by have : n2 < w.heap.size := lt_of_cell hbw; omega
    have hk2 := hkk (g.1, n3, g.2.2) _ ⟨fun _ => ⟨kp.alN ew3, cl_al hba ew3, cl_al hbw ew3, cl_al hA2 ew3, cl_al hA1 ew3, fz_al zA2 hA2 ew3, fz_al zA1 hA1 ew3, fun h => ⟨(h6 (by simpa [tick] using h)).1, Nat.lt_of_lt_of_le (h6 (by simpa [tick] using h)).2.1 (by omega), (h6 (by simpa [tick] using h)).2.2.al ew3⟩, fun _ => ⟨hb2, (show n3 < w3.heap.size by omega), cl_new (i := 0) ew3 hn3 rfl, cl_new (i := 2) ew3 hn3 rfl, cl_new (i := 3) ew3 hn3 rfl, cl_new (i := 4) ew3 hn3 rfl, cl_new (i := 6) ew3 hn3 rfl, cl_new (i := 7) ew3 hn3 rfl, fz_new ew3 hn3 4, fz_new ew3 hn3 7⟩, fun h => ⟨(h9 (by simpa [tick] using h)).1, Nat.lt_of_lt_of_le (h9 (by simpa [tick] using h)).2.1 (by omega), cl_al (h9 (by simpa [tick] using h)).2.2.1 ew3, fz_al (h9 (by simpa [tick] using h)).2.2.2 (h9 (by simpa [tick] using h)).2.2.1 ew3⟩, fun _ h => (fun z => by have := (h9 (by simpa [tick] using h)).2.1; dsimp only at z; omega)⟩, fun h => absurd (show b 10 = true from (by simpa [tick] using h)) (by rw [nb10]; decide)⟩; simp only [d7, d0, d4, d5, d6, d3, d2, d1, nb10, hbi, pu, Nat.reduceAdd, Nat.reduceEqDiff, reduceIte] at hk2; exact hk2
  · intro b g w hI hcl hbi hdp rest hre hkk
    obtain ⟨hwf, hwt⟩ := hI; replace hbi : b 9 = false := hbi; have nb10 := nbf (hcl 10 9 rfl) hbi; obtain ⟨kp, hba, hbw, hA2, hA1, zA2, zA1, h6, h8, h9, hne⟩ := hwf nb10; clear hwf hwt; simp only [nb10, hbi, pu, Nat.reduceAdd, Nat.reduceEqDiff, reduceIte]; refine F.op rfl rfl (by decide) (fun d K hK => ?_); go_simp
    skip
    rw [alloc_at']; refine hK _ _ ⟨DX.alloc _ _ (fun e he => ?_), ?_⟩
    · have hm := mem_listed he
      simp [go_sem, mc113, mc113e] at hm
    clear hK K d; try walk_nrm
    generalize ew3 : World.alloc w _ = w3; generalize hn3 : (World.heap w).size = n3; have sz3 := sz_al ew3 hn3; have hb2 : n2 < n3 := by have : n2 < w.heap.size := lt_of_cell hbw; omega
    have hk2 := hkk (g.1, g.2.1, n3) _ ⟨fun _ => ⟨kp.alN ew3, cl_al hba ew3, cl_al hbw ew3, cl_al hA2 ew3, cl_al hA1 ew3, fz_al zA2 hA2 ew3, fz_al zA1 hA1 ew3, fun h => ⟨(h6 (by simpa [tick] using h)).1, Nat.lt_of_lt_of_le (h6 (by simpa [tick] using h)).2.1 (by omega), (h6 (by simpa [tick] using h)).2.2.al ew3⟩, fun h => ⟨(h8 (by simpa [tick] using h)).1, Nat.lt_of_lt_of_le (h8 (by simpa [tick] using h)).2.1 (by omega), (h8 (by simpa [tick] using h)).2.2.kp (Kp.alloc (L := []) ew3) (by simp) (by simp)⟩, fun _ => ⟨hb2, (show n3 < w3.heap.size by omega), cl_new (i := 0) ew3 hn3 rfl, fz_new ew3 hn3 0⟩, fun h _ => (fun z => by have := (h8 (by simpa [tick] using h)).2.1; dsimp only at z; omega)⟩, fun h => absurd (show b 10 = true from (by simpa [tick] using h)) (by rw [nb10]; decide)⟩; simp only [nb10, hbi, pu, Nat.reduceAdd, Nat.reduceEqDiff, reduceIte] at hk2; exact hk2
  · intro b g w hI hcl hbi hdp rest hre hkk
    obtain ⟨hwf, hwt⟩ := hI; replace hbi : b 10 = false := hbi; have d0 := hdp 0 rfl; have d1 := hdp 1 rfl; have d2 := hdp 2 rfl; have d3 := hdp 3 rfl; have d4 := hdp 4 rfl; have d5 := hdp 5 rfl; have d6 := hdp 6 rfl; have d7 := hdp 7 rfl; have d8 := hdp 8 rfl; have d9 := hdp 9 rfl; obtain ⟨kp, hba, hbw, hA2, hA1, zA2, zA1, h6, h8, h9, hne⟩ := hwf hbi; clear hwf hwt; simp only [d0, d1, d2, d3, d4, d5, d6, d7, d8, d9, hbi, pu, Nat.reduceAdd, Nat.reduceEqDiff, reduceIte]; obtain ⟨q1, q2, q3⟩ := h6 d6; obtain ⟨q4, q5, q6⟩ := h8 d8; obtain ⟨q7, q8, q9, q10⟩ := h9 d9; have q11 := hne d8 d9; clear h6 h8 h9 hne; have hlA : A < w.heap.size := lt_of_cell hA1; have hAn : A < n1 := by omega
    refine F.op rfl rfl (by decide) (fun d K hK => ?_); go_simp; rw [setCell_at']; refine hK _ _ ⟨DX.set _ (hfr _ _ (by dsimp only; omega)) (fun e he => ?_), ?_⟩
    · have hm := mem_listed he
      simp [go_sem, storedEv, evst_ptr, q9, q10] at hm; subst hm; exact .inl ⟨_, rfl, rfl, hfr _ _ (by dsimp only; omega), by simp only [size_at, size_set]; exact q8⟩
    clear hK K d; try walk_nrm
    generalize ew3 : World.setCell w _ _ = w3; have sz3 := sz_st ew3; have ks := Kp.setC ew3; have hk2 := hkk g _ ⟨fun h => by simp [tick] at h, fun _ => ⟨kp.stN ew3 (.inr (.inr (by dsimp only; omega))), cl_st hba ew3 (by simp <;> omega), cl_st hbw ew3 (by simp <;> omega), cl_st hA2 ew3 (by simp <;> omega), cl_st hA1 ew3 (by simp <;> omega), fz_st zA2 ew3, fz_st zA1 ew3, ⟨q1, by omega, q3.st ew3⟩, ⟨q4, by omega, q6.kp ks (by simp) (by simp <;> omega)⟩, q7, by omega, cl_st' q9 ew3, q11⟩⟩; simp only [d0, d1, d2, d3, d4, d5, d6, d7, d8, d9, hbi, pu, Nat.reduceAdd, Nat.reduceEqDiff, reduceIte] at hk2; exact hk2
  intro b g w hI hall; obtain ⟨hwf, hwt⟩ := hI; simp only [hall 0 (by decide), hall 1 (by decide), hall 2 (by decide), hall 3 (by decide), hall 4 (by decide), hall 5 (by decide), hall 6 (by decide), hall 7 (by decide), hall 8 (by decide), hall 9 (by decide), hall 10 (by decide), pu, Nat.reduceAdd, Nat.reduceEqDiff, reduceIte]; obtain ⟨kp', hba', hbw', hA2', hA1', zA2', zA1', ⟨q1, q2, q3⟩, ⟨q4, q5, q6⟩, q7, q8, q9, q11⟩ := hwt (hall 10 (by decide)); clear hwf hwt hall kp hba hbw hA2 hA1 zA2 zA1; obtain ⟨tch, T, bt⟩ := g; dsimp only at q1 q2 q3 q4 q5 q6 q7 q8 q9 q11 ⊢; have kp : Kp (rowL en) w0 w [⟨A, 1, none⟩, ⟨A, 2, none⟩] := kp'.old (by simp) (by simp); have kz : Kp [] w0 w [⟨A, 2, none⟩] := kp'.old (by simp) (by simp); have hba := hba'; have hbw := hbw'; have hA2 := hA2'; have hA1 := hA1'; have zA2 := zA2'; have zA1 := zA1'; have hbt := q9; have hlA : A < n1 := by omega
  clear kp' hba' hbw' hA2' hA1' zA2' zA1' q9; refine F.esr ?_; simp only [rg, Nat.reduceAdd]; refine F.ol rfl rfl rfl fun d K h => ?_; go_simp; refine h _ (fun e m => ?_) ?_; simp [go_sem, *] at m; subst m; exact evr (w := w) (by assumption) (by first | assumption | (apply hfr <;> dsimp only <;> omega)); clear h K d; try walk_nrm
  iterate 2 (refine F.oq rfl rfl rfl (by simp [go_sem]) fun d K h => ?_; go_simp; refine h _ ?_; clear h K d; try walk_nrm)
  refine F.ol rfl rfl rfl fun d K h => ?_; go_simp; refine h _ (fun e m => ?_) ?_; simp [go_sem, *] at m; subst m; exact evr (w := w) (by assumption) (by first | assumption | (apply hfr <;> dsimp only <;> omega)); clear h K d; try walk_nrm
  iterate 3 (refine F.oq rfl rfl rfl (by simp [go_sem]) fun d K h => ?_; go_simp; refine h _ ?_; clear h K d; try walk_nrm)
  refine F.op rfl rfl (by decide) (fun d K hK => ?_); go_simp; rw [setCell_at']; refine hK _ _ ⟨DX.set _ (by (first | assumption | (apply hfr <;> dsimp only <;> omega))) (fun e he => ?_), ?_⟩
  · have hm := mem_listed he
    simp [go_sem, storedEv, evst_slice, evst_ptr, evst_iface, evst_nil, evst_bool, *] at hm; subst hm; exact .inl ⟨_, rfl, rfl, by (first | assumption | (apply hfr <;> dsimp only <;> omega)), by simp only [size_at, size_set]; first | omega | exact lt_of_cell (by assumption)⟩
  clear hK K d; try walk_nrm
  generalize ew4 : World.setCell w _ _ = w4; have sz4 := sz_st2 ew4; replace zA1 := fz_st zA1 ew4; replace zA2 := fz_st zA2 ew4; replace hba := cl_st hba ew4 (by simp <;> omega); replace hbw := cl_st hbw ew4 (by simp <;> omega); replace hbt := cl_st hbt ew4 (by simp <;> omega); replace hA1 := cl_st hA1 ew4 (by simp <;> omega); replace hA2 := cl_st' hA2 ew4; replace kp := kp.stN ew4 (by first | (left; simp; done) | (right; left; simp; done) | (right; right; dsimp only; omega)); refine F.re ?_; have ks := Kp.setC ew4; have q3 := q3.st ew4; have q6 := q6.kp ks (by simp) (by simp <;> omega); have hP : w4.heap.size ≤ w4.heap.size := Nat.le_refl _; refine F.sr ?_; simp only [rg, Nat.reduceAdd]; refine F.ol rfl rfl rfl fun d K h => ?_; go_simp; refine h _ (fun e m => ?_) ?_; simp [go_sem, *] at m; subst m; exact evr (w := w4) (by assumption) (by first | assumption | (apply hfr <;> dsimp only <;> omega)); clear h K d; try walk_nrm
  iterate 2 (refine F.oq rfl rfl rfl (by simp [go_sem]) fun d K h => ?_; go_simp; refine h _ ?_; clear h K d; try walk_nrm)
  have he4 : Ents N w4 en es := Kp.ents (kz.stN ew4 (.inr (.inl (by simp)))) he fun g hg => ⟨by simp, fun x hx => by have := hrN g hg; simp at hx; subst hx; dsimp only; omega⟩
  have hs4 : w0.heap.size ≤ w4.heap.size := kp.size; refine F.enter rfl rfl (by decide) (fun _ => run_call_body rfl Tryz.func49 (by rfl) (by rfl)) (fun _ => events_call_body rfl Tryz.func49 (by rfl) (by rfl) _) ?_; walk_nrm; refine (CallsX.keepCh (putQ_x N A at' (.func 50) #[] #[.pointer (some ⟨n1, 0, none⟩), .pointer (some ⟨bt, 0, none⟩), .pointer (some ⟨n2, 0, none⟩)] en es w4 (by omega) lA hq9 he4 hA1 zA1 o1 o1w (fun a wr h => okE a wr (h.imp id fun h => by omega))) q3) _ F _ _ (fun v w5 hp => ?_); obtain ⟨⟨rfl, kq, en', i, e0, e1, e2, e3, e4⟩, hq3⟩ := hp; have nr : ∀ x, w0.heap.size ≤ x → x ∉ rowL en := fun x hx z => by have := hrN x z; omega
  have hA2r : A ∉ rowL en := fun z => by have := hrN A z; omega
  have hba := kq.cellC _ _ (nr n1 (by omega)) (by simp <;> omega) hba; have hbw := kq.cellC _ _ (nr n2 (by omega)) (by simp <;> omega) hbw; have hbt := kq.cellC _ _ (nr bt (by omega)) (by simp <;> omega) hbt; have zA2 := (kq.frozC _ _ hA2r (by simp <;> omega) hA2).trans zA2; have hA2 := kq.cellC _ _ hA2r (by simp <;> omega) hA2; have q6 := q6.kp kq (nr T (by omega)) (by simp <;> omega); have kp := kp.callN kq (fun x hx => .inl hx) (fun x hx => .inl (by simp at hx; simp [hx])); have n3 := och_ne hq3 q6.t0; have n4 := och_ne hq3 hbt; rw [Frame.finish_at]; try walk_nrm
  refine F.esr ?_; simp only [rg, Nat.reduceAdd]; refine F.ol rfl rfl rfl fun d K h => ?_; go_simp; refine h _ (fun e m => ?_) ?_; simp [go_sem, *] at m; subst m; exact evr (w := w5) (by assumption) (by first | assumption | (apply hfr <;> dsimp only <;> omega)); clear h K d; try walk_nrm
  refine F.oq rfl rfl rfl (by simp [go_sem]) fun d K h => ?_; go_simp; refine h _ ?_; clear h K d; try walk_nrm
  refine F.re ?_; refine F.ctl (fun _ => stepG_ret') ?_; refine F.leave rfl rfl Tryz.func36 (resultsC_tmp (by rfl) _) ?_; have hk5 := kq.size; exact hc _ _ ⟨n1, n2, tch, T, bt, w4.heap.size, en', i, rfl, kp, ⟨by omega, by omega, by omega, by omega, by omega, by omega, by omega, by omega, hk5, fun z => q11 z.symm, n3, n4⟩, hba, hbw, hbt, q6, hq3, e1, e2, hA2, zA2, e0, e3, e4⟩
end
end Go.Proofs.YtobagnjnbmgidaaGreatDoor
