/- A wait, as the agenda serves it, on. -/
import Derived.Test.YtobagnjnbmgidaaGreatDoorX42
set_option linter.unusedSimpArgs false
set_option linter.unusedVariables false
namespace Go.Proofs.YtobagnjnbmgidaaGreatDoor
open Go.Conc Go.RowKit
open Go.ConcN (sumTo upd sumTo_upd upd_ne upd_same)

section
variable {P : Program} {Post : Value → World → Prop} {K : World → Prop} {Shun Still : Loc → Prop} {B : Nat} {Mem : Nat → Prop} {Inb : Nat → Option Seat} {h n : Nat} {T : Trace} {gs : Array Goroutine} {w : World} {q : Nat → Nat} {a g : Goroutine}
theorem both_at {K' : World → Prop} {Still' : Loc → Prop} {j : Nat} {s : Seat} {b : Goroutine} {w0 : World} (C : Both P K Shun Still B Mem Inb h j T gs w q) (hjh : j ≠ h) (hInb : ∀ x, x ≠ j → Inb x = none) (hMem : ∀ x, Mem x → x = h ∨ x = j) (hMh : Mem h) (hS : ∀ l, Still' l → Still l) (hb : gs[h]? = some b)
    (hwf : s.Wf) (hch : ∀ c, s.has c → ∃ k, w.heap[c]? = some (.chan 0 #[] false k k false)) (hcB : ∀ c, s.has c → c < B) (hK : K' w) (hway : ∃ m, Goes P (h == 0) (RK K') (DS Still' B) (fun g _ => ∃ g₂, AtIn P (h == 0) K' Still' B s g g₂) m b w0) {X : Prop}
    (next : ∀ q', R2 P K' Shun Still' B Mem (fun x => if x = h then some s else none) j T gs w q' → X) : X := by
  obtain ⟨m, hm⟩ := hway
  exact next _ (both_to C hjh hInb hMem hMh hS hb hwf hch hcB (.inl ⟨m, w0, rfl, hm⟩) hK)
theorem At.giveS {j c kk : Nat} {s : Seat} {v z z' : Value} (hKat : ∀ w d, K w → K (w.at d)) (hKc : ∀ w i s c k, Inb i = some s → s.has c → K w → K (w.setChan c 0 #[] false k k false)) (hSS : ∀ l, Still l → ¬ Shun l) (hjh : j ≠ h) (hjn : j < n) (hj : Inb j = some s) (hk : s.cases[kk]? = some (rcase c z)) (hMh : Mem h)
    (hrun : a.status = .running) (hsend : ∀ d, stepG P (h == 0) a (w.at d) = .comm a #[scase c v z'] true .send (w.at d) #[]) (hcK : ∀ w, K w → ∃ k, w.heap[c]? = some (.chan 0 #[] false k k false))
    (next : ∀ k d gs' g₂ T' q' sl', w.heap[c]? = some (.chan 0 #[] false k k false) → s.home g₂ → gs'.size = n → gs'[h]? = some (Go.Conc.served a undef) → gs'[j]? = some (Go.Conc.served g₂ (commResult s.cases s.shape kk v true)) → Both P K Shun Still w.heap.size Mem Inb h j T' gs' ((w.setChan c 0 #[] false (k + 1) (k + 1) false).at d) q' →
      Goal P Post (crowd gs' ((w.setChan c 0 #[] false (k + 1) (k + 1) false).at d) sl') T') : At P Post K Shun Still Mem Inb h n a w :=
  At.give (a₂ := a) (es := #[]) hKat hKc hSS hjh hjn hj hk hMh hrun hsend (fun e he => by simp at he) hcK next
end

theorem Kp.chan {w : World} {c k x y : Nat} {cap : Nat} {buf : Array Value} {cl tm : Bool} (hc : w.heap[c]? = some (.chan 0 #[] false k k false)) : Kp [] w (w.setChan c cap buf cl x y tm) := by
  have hne : ∀ (a : Addr) (v : Value), w.cell? a = some v → c ≠ a.block := fun a v h e => by subst e; simp [World.cell?, hc] at h
  exact ⟨Nat.le_of_eq (size_chan ..).symm, fun a v _ _ h => ((cell_chan (hne a v h) ..).1).trans h, fun a v _ _ h => (cell_chan (hne a v h) ..).2, fun b c' t f _ _ h => by
    by_cases e : c = b
    · subst e; rw [hc] at h; cases h
    · rw [heap_setChan_ne w _ _ _ _ _ _ e]; exact h⟩

theorem rst_func (P : Program) (w : World) (a : Addr) (m : Mode) (f : Fn) (x y : Array Value) : (store a (.func f x y) m).run P w = stored P w a (.func f x y) m := run_store P w a _ m rfl
/-- The task's seat. -/
def HomeC (c : Frame) (cs : List Frame) (g : Goroutine) : Prop := ∀ Φ, CF Tryz.prog false Φ → Φ (G (c.finish (.int .i64 1)) cs) → Φ (Go.Conc.served g (.int .i64 1))
def seat1 (tch : Nat) (c : Frame) (cs : List Frame) : Seat := Seat.one tch (.int .i64 0) false (HomeC c cs)

section
variable {wI : World} {l : List Nat} {e : Env} {c n : Nat} {Post : Value → World → Prop} {cs0 : List Frame}
theorem keepc0 (R : Rig wI l e c n) {Home : Goroutine → Prop} {st : List (Addr × Value)} (hst : ∀ p ∈ st, p.1.block = e.A ∨ p.1.block = e.X ∨ p.1.block = e.T ∨ e.N ≤ p.1.block) : ∀ w i s ch k, Inb0 (seat0 e.wch e.ech Home) i = some s → s.has ch → KO wI st (cc0 e) w → KO wI st (cc0 e) (w.setChan ch 0 #[] false k k false) := by
  intro w i s ch k hi hs hK
  unfold Inb0 at hi
  split at hi
  · cases hi
    have h1 := seat0_has hs
    have h2 := R.lw
    have h3 := R.le
    refine ko_chan (by rcases h1 with rfl | rfl; exact h2.1; exact h3.1) (fun p hp => ?_) (by rcases h1 with rfl | rfl <;> simp [cc0]) hK
    have h4 := R.nb ch (by rcases h1 with z | z <;> simp [z])
    have h5 := hst p hp
    rcases h1 with rfl | rfl <;> omega
  · cases hi
theorem keepc1 (R : Rig wI l e c n) {f : Frame} {cs : List Frame} {st : List (Addr × Value)} (hst : ∀ p ∈ st, p.1.block = e.A ∨ p.1.block = e.X ∨ p.1.block = e.T ∨ e.N ≤ p.1.block) : ∀ w i s ch k, Inb1 c (seat1 e.tch f cs) i = some s → s.has ch → KO wI st (cc0 e) w → KO wI st (cc0 e) (w.setChan ch 0 #[] false k k false) := by
  intro w i s ch k hi hs hK
  unfold Inb1 at hi
  split at hi
  · cases hi
    obtain rfl := Seat.one_has.1 hs
    have h2 := R.lt
    refine ko_chan h2.1 (fun p hp => ?_) (by simp [cc0]) hK
    have h4 := R.nb e.tch (by simp)
    have h5 := hst p hp
    omega
  · cases hi
theorem st0_blk : ∀ p ∈ st0 e, p.1.block = e.A ∨ p.1.block = e.X ∨ p.1.block = e.T ∨ e.N ≤ p.1.block := fun p hp => by have := (st0_off hp).2.2.2; omega
theorem st1_blk {x : Nat} (hx : e.N ≤ x) : ∀ p ∈ st1 e x, p.1.block = e.A ∨ p.1.block = e.X ∨ p.1.block = e.T ∨ e.N ≤ p.1.block := fun p hp => by
  rcases List.mem_cons.1 hp with rfl | hp
  · exact .inr (.inr (.inr hx))
  · exact st0_blk p hp

set_option maxRecDepth 100000 in
set_option maxHeartbeats 8000000 in
theorem wait_at (R : Rig wI l e c n) (hN0 : wI.heap.size ≤ e.N) (x : Nat) (c' : Frame) (cs : List Frame) (w : World) (now t : Int) (en : Value) (H : WaitPre e x w now t en) (hcont : ∀ w' en', WaitPost e x w w' t en en' → Psi0 wI l e c n Post cs0 (G (c'.finish (.int .i64 1)) cs) w') :
    Psi1 wI l e c n Post cs0 x (G (Frame.enter Tryz.prog 153 #[.pointer (some ⟨x, 0, none⟩)] .normal) (c' :: cs)) w := by
  have F := fut_c1 (Post := Post) (cs0 := cs0) R x
  have hx0 := H.x0
  have ht0 := H.t0
  have ha3 := H.a3
  have o1 : OkX (OkS wI.heap.size l (st0 e)) x ⟨x, 0, none⟩ false := ⟨ok_rd (by decide) (by decide), fun h => by cases h⟩
  have o2 : OkX (OkS wI.heap.size l (st0 e)) x ⟨e.T, 0, none⟩ false := ⟨ok_rd (by decide) (by decide), fun h => by cases h⟩
  have o3 : OkX (OkS wI.heap.size l (st0 e)) x ⟨e.A, 3, none⟩ false := ⟨ok_rd (by decide) (by decide), fun h => by cases h⟩
  have hcf : (c == 0) = false := by have := R.c0; simp; omega
  have hc0 := R.c0
  have hcn := R.cn
  rw [enter_at _ Tryz.func153 rfl]
  simp only [Tryz.ntmps153, List.size_toArray, List.length_cons, List.length_nil, Nat.reduceAdd, Nat.reduceSub, Array.replicate_succ, Array.replicate_zero, List.push_toArray, List.append_toArray, List.nil_append, List.cons_append]
  refine F.sr ?_
  simp only [rg, Nat.reduceAdd]
  refine F.oq rfl rfl rfl (by simp [go_sem]) fun d K h => ?_; go_simp; refine h _ ?_; clear h K d; try walk_nrm
  refine F.esr ?_
  simp only [rg, Nat.reduceAdd]
  iterate 3 (refine F.oq rfl rfl rfl (by simp [go_sem]) fun d K h => ?_; go_simp; refine h _ ?_; clear h K d; try walk_nrm)
  refine F.ol rfl rfl rfl fun d K h => ?_; go_simp; refine h _ (fun e m => ?_) ?_; simp [go_sem, *] at m; subst m; exact evr (w := w) (by assumption) (by first | assumption | exact hrb _ rfl | (apply hfr <;> dsimp only <;> omega)); clear h K d; try walk_nrm
  iterate 2 (refine F.oq rfl rfl rfl (by simp [go_sem]) fun d K h => ?_; go_simp; refine h _ ?_; clear h K d; try walk_nrm)
  refine F.ol rfl rfl rfl fun d K h => ?_; go_simp; refine h _ (fun e m => ?_) ?_; simp [go_sem, *] at m; subst m; exact evr (w := w) (by assumption) (by first | assumption | exact hrb _ rfl | (apply hfr <;> dsimp only <;> omega)); clear h K d; try walk_nrm
  iterate 2 (refine F.oq rfl rfl rfl (by simp [go_sem]) fun d K h => ?_; go_simp; refine h _ ?_; clear h K d; try walk_nrm)
  refine F.ol rfl rfl rfl fun d K h => ?_; go_simp; refine h _ (fun e m => ?_) ?_; simp [go_sem, *] at m; subst m; exact evr (w := w) (by assumption) (by first | assumption | exact hrb _ rfl | (apply hfr <;> dsimp only <;> omega)); clear h K d; try walk_nrm
  refine F.oq rfl rfl rfl (by simp [go_sem]) fun d K h => ?_; go_simp; refine h _ ?_; clear h K d; try walk_nrm
  refine At.assume ko_at (fun hKO => ?_)
  refine At.giveS (j := 0) (c := e.wch) (kk := 0) (v := .agg #[]) (z := .agg #[]) (z' := .tuple #[]) ko_at (keepc0 R st0_blk) still_shun (by omega) (by omega) rfl rfl (.inr rfl) rfl (fun d => ?_) (fun w h => h.2.2 e.wch (by simp [cc0])) (fun k d gs' g₂ T' q' sl' hc hhome hsz h1 h2 C => ?_)
  · rw [hcf, stepG_comm (cases := #[scase e.wch (.agg #[]) (.tuple #[])]) (blocking := true) (shape := .send) (w' := w.at d) rfl rfl (by decide) (by simp [execOp, scase, Act.eval])]
    rw [listed_nil (by simp [go_sem, execOp, Act.eval])]
  have hxN := H.ge
  have hxl : x < w.heap.size := lt_of_cell hx0
  have hAl : e.A < w.heap.size := lt_of_cell ha3
  have hTl : e.T < w.heap.size := lt_of_cell ht0
  have K1 : KO wI (st1 e x) (cc0 e) w := ⟨hKO.1, kl_cons hx0 hKO.2⟩
  have K1' : KO wI (st1 e x) (cc0 e) (w.setChan e.wch 0 #[] false (k + 1) (k + 1) false) := ko_chan R.lw.1 (fun p hp => by have h4 := R.nb e.wch (by simp); have h5 := st1_blk hxN p hp; have := R.lw; omega) (by simp [cc0]) K1
  refine both_at (K' := KO wI (st1 e x) (cc0 e)) (Still' := StL (st1 e x)) (s := seat1 e.tch c' cs) (w0 := w) C (by omega) (fun y hy => by simp [Inb0, hy]) (fun y hy => hy.symm) (.inr rfl) (fun _ h => h) h1 (Seat.one_wf _ _ _ _) (fun ch hch => by obtain rfl := Seat.one_has.1 hch; exact K1'.2.2 e.tch (by simp [cc0])) (fun ch hch => by obtain rfl := Seat.one_has.1 hch; have := R.lt; have := H.size; omega) K1' ?_ (fun q2 C2 => ?_)
  · clear F
    have F := qf_seat (P := Tryz.prog) (K := KO wI (st1 e x) (cc0 e)) (Still := StL (st1 e x)) (B := w.heap.size) false (seat1 e.tch c' cs) w
    rw [hcf, served_fr, Frame.finish_at]
    try walk_nrm
    have f0 : ∀ w, KO wI (st1 e x) (cc0 e) w → w.cell? ⟨x, 0, none⟩ = some (.pointer (some ⟨e.T, 0, none⟩)) := fun w h => h.2.1 (⟨x, 0, none⟩, _) (by simp [st1])
    have f3 : ∀ w, KO wI (st1 e x) (cc0 e) w → w.cell? ⟨e.T, 3, none⟩ = some (.chan (some e.tch)) := fun w h => h.2.1 (⟨e.T, 3, none⟩, _) (by simp [st1, st0])
    refine F.esr ?_
    simp only [rg, Nat.reduceAdd]
    iterate 3 (refine F.oq rfl rfl rfl (by simp [go_sem]) (fun w hw => by go_simp; first | exact ⟨rfl, rfl⟩ | exact rfl) ?_; try walk_nrm)
    apply F.op rfl rfl (by decide)
    · intro w hw e he
      have hfact := f0 w hw
      simp [go_sem, hfact] at he
      subst he
      exact ⟨_, rfl, ⟨_, List.mem_cons_self .., rfl⟩, hxl⟩
    · intro w hw
      have hfact := f0 w hw
      go_simp
      first | exact ⟨rfl, rfl⟩ | exact rfl
    try walk_nrm
    iterate 2 (refine F.oq rfl rfl rfl (by simp [go_sem]) (fun w hw => by go_simp; first | exact ⟨rfl, rfl⟩ | exact rfl) ?_; try walk_nrm)
    apply F.op rfl rfl (by decide)
    · intro w hw e he
      have hfact := f3 w hw
      simp [go_sem, hfact] at he
      subst he
      exact ⟨_, rfl, ⟨(⟨e.T, 3, none⟩, .chan (some e.tch)), by simp [st1, st0], rfl⟩, hTl⟩
    · intro w hw
      have hfact := f3 w hw
      go_simp
      first | exact ⟨rfl, rfl⟩ | exact rfl
    try walk_nrm
    refine ⟨0, fun w₁ r => ⟨_, rfl, rfl, rfl, rfl, ?_, #[], by simp, fun w hw => ?_⟩⟩
    · clear F
      intro Φ F ht
      rw [served_fr, Frame.finish_at]
      try walk_nrm
      refine F.oq rfl rfl rfl (by simp [go_sem]) (fun w hw => by go_simp; first | exact ⟨rfl, rfl⟩ | exact rfl) ?_; try walk_nrm
      refine F.re ?_
      refine F.ctl (fun _ => stepG_ret') ?_
      refine F.leave rfl rfl Tryz.func153 (resultsC_tmp (by rfl) _) ?_
      exact ht
    · rw [stepG_comm (cases := #[rcase e.tch (.int .i64 0)]) (blocking := true) (shape := .recv false) (w' := w) rfl rfl (by decide) (by simp [go_sem, rcase])]
      rw [listed_nil (by simp [go_sem])]
      rfl
  have hsw : (w.setChan e.wch 0 #[] false (k + 1) (k + 1) false).heap.size = w.heap.size := size_chan ..
  suffices hA : At Tryz.prog Post (KO wI (st1 e x) (cc0 e)) (ShL l) (StL (st1 e x)) (Mem2 c) (Inb1 c (seat1 e.tch c' cs)) 0 n (Go.Conc.served g₂ (commResult (cases0 e.wch e.ech) .select 0 (.agg #[]) true)) (w.setChan e.wch 0 #[] false (k + 1) (k + 1) false) from
    hA d gs' T' q2 sl' hsz h2 (by rw [hsw]; exact C2)
  clear h1 h2 C C2 hsz F
  have F := fut_m1 (Post := Post) R x (seat1 e.tch c' cs)
  refine hhome 0 (by omega) _ (cf_fut F _) (fun y1 y2 y3 y4 y5 y6 y7 y8 y9 y10 y11 y12 y13 y14 y15 y16 y17 y18 y19 y20 y21 y22 y23 y24 y25 y26 y27 y28 y29 y30 y31 y32 y33 y34 => ?_)
  have kc : Kp [] w (w.setChan e.wch 0 #[] false (k + 1) (k + 1) false) := Kp.chan hc
  generalize hwm : w.setChan e.wch 0 #[] false (k + 1) (k + 1) false = w0 at kc K1' hsw ⊢
  clear hwm hKO K1 o1 o2 o3
  obtain ⟨E, off, cap, cur, hen, hNE, hblk, hroom, hcu0, hcu1⟩ := id (H.one)
  have hblk0 := kc.blk E _ _ _ (by simp) (by simp) hblk
  have hE0 : w0.cell? ⟨E, off, none⟩ = some (.int .i64 t) := by simp only [World.cell?, hblk0]; simpa using hcu0
  have hE1 : w0.cell? ⟨E, off + 1, none⟩ = some (.func (.func 144) #[.pointer (some ⟨x, 0, none⟩)] #[]) := by simp only [World.cell?, hblk0]; simpa using hcu1
  have hA0 := kc.cell _ _ (by simp) H.a0
  have zA0 := (kc.froz _ _ (by simp) H.a0).trans H.za0
  have hA1 := kc.cell _ _ (by simp) H.a1
  have zA1 := (kc.froz _ _ (by simp) H.a1).trans H.z1
  have hX0 := kc.cell _ _ (by simp) H.x0
  have hX1 := kc.cell _ _ (by simp) H.x1
  have zX1 := (kc.froz _ _ (by simp) H.x1).trans H.zx
  have hT0 := kc.cell _ _ (by simp) H.t0
  have hT3 := kc.cell _ _ (by simp) H.t3
  rw [hen] at hA1
  have hEx : E ≠ x := fun z => H.out (mem_rowL.2 (by rw [hen]; simp [Value.ownBlock, z]))
  have hEl : E < w.heap.size := (Array.getElem?_eq_some_iff.1 hblk).1
  have hlA := (R.l0 _ R.hA).2
  have hlT := R.lT
  have hXl := H.sX
  have hNX := H.nX
  have hNs := H.size
  have hnAT := R.nAT
  have hsw' : w.heap.size ≤ w0.heap.size := Nat.le_of_eq hsw.symm
  have hI0 := (R.l0 _ R.hA).1
  clear hx0 ht0 ha3 hsw
  have hfr : ∀ (a : Addr) (wr : Bool), w.heap.size ≤ a.block → OkS wI.heap.size l (st1 e x) a wr := fun a wr h => ok_fr (N := w.heap.size) (fun A hA => by have := (R.l0 A hA).2; omega) (by omega) h (fun p hp => by rcases List.mem_cons.1 hp with rfl | hp; (show x ≠ a.block); omega; have := (st0_off hp).2.2.2; omega) wr
  have hrb : ∀ a : Addr, a.block = E → OkS wI.heap.size l (st1 e x) a false := fun a h => ⟨fun ⟨A, hA, z⟩ => by have := (R.l0 A hA).2; rcases z with z | z <;> (simp at z; subst z; dsimp only at h; omega), fun h => by cases h⟩
  have o1 : OkS wI.heap.size l (st1 e x) ⟨e.A, 1, none⟩ false := ok_rd (by decide) (by decide)
  have o2 : OkS wI.heap.size l (st1 e x) ⟨e.A, 1, none⟩ true := ok_wr (by decide) (by decide) hI0 (by simp [StL, st1, st0]) _
  have o3 : OkS wI.heap.size l (st1 e x) ⟨e.A, 0, none⟩ true := ok_wr (by decide) (by decide) hI0 (by simp [StL, st1, st0]; omega) _
  have o4 : OkS wI.heap.size l (st1 e x) ⟨x, 1, none⟩ false := ok_rd (by decide) (by decide)
  have o5 : OkS wI.heap.size l (st1 e x) ⟨x, 1, none⟩ true := ok_wr (by decide) (by decide) (by omega) (by simp [StL, st1, st0]) _
  have o6 : OkS wI.heap.size l (st1 e x) ⟨x, 0, none⟩ false := ok_rd (by decide) (by decide)
  have o7 : OkS wI.heap.size l (st1 e x) ⟨e.T, 0, none⟩ false := ok_rd (by decide) (by decide)
  have o8 : OkS wI.heap.size l (st1 e x) ⟨e.T, 3, none⟩ false := ok_rd (by decide) (by decide)
  have kp : Kp [x] w0 w0 [⟨e.A, 0, none⟩, ⟨e.A, 1, none⟩] := Kp.refl _
  have hrsf := rst_func
  unfold hdOf
  refine F.sq ?_
  refine F.sr ?_
  simp only [rg, Nat.reduceAdd]
  iterate 3 (refine F.oq rfl rfl rfl (by simp [go_sem]) fun d K h => ?_; go_simp; refine h _ ?_; clear h K d; try walk_nrm)
  refine F.ol rfl rfl rfl fun d K h => ?_; go_simp; refine h _ (fun e m => ?_) ?_; simp [go_sem, *] at m; subst m; exact evr (w := w0) (by assumption) (by first | assumption | exact hrb _ rfl | (apply hfr <;> dsimp only <;> omega)); clear h K d; try walk_nrm
  iterate 2 (refine F.oq rfl rfl rfl (by simp [go_sem]) fun d K h => ?_; go_simp; refine h _ ?_; clear h K d; try walk_nrm)
  refine F.re ?_
  refine F.ct rfl ?_
  refine F.sk ?_
  refine F.bl ?_
  refine F.sr ?_
  simp only [rg, Nat.reduceAdd]
  iterate 3 (refine F.oq rfl rfl rfl (by simp [go_sem]) fun d K h => ?_; go_simp; refine h _ ?_; clear h K d; try walk_nrm)
  refine F.ol rfl rfl rfl fun d K h => ?_; go_simp; refine h _ (fun e m => ?_) ?_; simp [go_sem, *] at m; subst m; exact evr (w := w0) (by assumption) (by first | assumption | exact hrb _ rfl | (apply hfr <;> dsimp only <;> omega)); clear h K d; try walk_nrm
  refine F.oq rfl rfl rfl (by simp [go_sem]) fun d K h => ?_; go_simp; refine h _ ?_; clear h K d; try walk_nrm
  refine F.ol rfl rfl rfl fun d K hK => ?_
  go_simp
  refine hK _ (fun e hm => ?_) ?_
  · simp [go_sem, *] at hm
    rcases hm with rfl | rfl <;> exact evr (w := w0) (by assumption) (by first | assumption | exact hrb _ rfl | (apply hfr <;> dsimp only <;> omega))
  clear hK K d
  try walk_nrm
  clear hE0 hE1
  refine F.op rfl rfl (by decide) (fun d K hK => ?_)
  go_simp
  rw [alloc_at']
  refine hK _ _ ⟨DX.alloc _ _ (fun e he => ?_), ?_⟩
  · have hm := mem_listed he
    simp [go_sem] at hm
  clear hK K d
  try walk_nrm
  generalize ew1 : World.alloc w0 _ = w1
  generalize hn1 : (World.heap w0).size = n1
  have sz1 := sz_al2 ew1 hn1
  replace zA0 := fz_al zA0 hA0 ew1
  replace zA1 := fz_al zA1 hA1 ew1
  replace zX1 := fz_al zX1 hX1 ew1
  replace hA0 := cl_al hA0 ew1
  replace hA1 := cl_al hA1 ew1
  replace hX0 := cl_al hX0 ew1
  replace hX1 := cl_al hX1 ew1
  replace hT0 := cl_al hT0 ew1
  replace hT3 := cl_al hT3 ew1
  have hf0 := cl_new (i := 0) ew1 hn1 rfl
  have zf0 := fz_new ew1 hn1 0
  have hf1 := cl_new (i := 1) ew1 hn1 rfl
  have zf1 := fz_new ew1 hn1 1
  try simp only [List.getElem_toArray, List.getElem_cons_zero, List.getElem_cons_succ] at hf0 hf1
  replace kp := kp.alN ew1
  refine F.op rfl rfl (by decide) (fun d K hK => ?_)
  go_simp
  repeat rw [setCell_at']
  refine hK _ _ ⟨DX.set2 _ (by (first | assumption | exact hrb _ rfl | (apply hfr <;> dsimp only <;> omega))) (by (first | assumption | exact hrb _ rfl | (apply hfr <;> dsimp only <;> omega))) (fun e he => ?_), ?_⟩
  · have hm := mem_listed he
    simp [go_sem, storedEv, evst_slice, evst_ptr, evst_iface, evst_nil, evst_bool, evst_func, *] at hm
    rcases hm with rfl | rfl <;> exact .inl ⟨_, rfl, rfl, by (first | assumption | exact hrb _ rfl | (apply hfr <;> dsimp only <;> omega)), by simp only [size_at, size_set]; first | omega | exact lt_of_cell (by assumption)⟩
  clear hK K d
  try walk_nrm
  generalize ew2 : World.setCell w1 _ _ = w2
  have sz2 := sz_st2 ew2
  replace zA0 := fz_st zA0 ew2
  replace zA1 := fz_st zA1 ew2
  replace zX1 := fz_st zX1 ew2
  replace zf0 := fz_st zf0 ew2
  replace zf1 := fz_st zf1 ew2
  replace hA0 := cl_st hA0 ew2 (by intro e; simp at e <;> omega)
  replace hA1 := cl_st hA1 ew2 (by intro e; simp at e <;> omega)
  replace hX0 := cl_st hX0 ew2 (by intro e; simp at e <;> omega)
  replace hX1 := cl_st hX1 ew2 (by intro e; simp at e <;> omega)
  replace hT0 := cl_st hT0 ew2 (by intro e; simp at e <;> omega)
  replace hT3 := cl_st hT3 ew2 (by intro e; simp at e <;> omega)
  replace hf0 := cl_st' hf0 ew2
  replace hf1 := cl_st hf1 ew2 (by intro e; simp at e <;> omega)
  replace kp := kp.stN ew2 (by first | (left; simp; done) | (right; left; simp; done) | (right; right; dsimp only; omega))
  generalize ew3 : World.setCell w2 _ _ = w3
  have sz3 := sz_st2 ew3
  replace zA0 := fz_st zA0 ew3
  replace zA1 := fz_st zA1 ew3
  replace zX1 := fz_st zX1 ew3
  replace zf0 := fz_st zf0 ew3
  replace zf1 := fz_st zf1 ew3
  replace hA0 := cl_st hA0 ew3 (by intro e; simp at e <;> omega)
  replace hA1 := cl_st hA1 ew3 (by intro e; simp at e <;> omega)
  replace hX0 := cl_st hX0 ew3 (by intro e; simp at e <;> omega)
  replace hX1 := cl_st hX1 ew3 (by intro e; simp at e <;> omega)
  replace hT0 := cl_st hT0 ew3 (by intro e; simp at e <;> omega)
  replace hT3 := cl_st hT3 ew3 (by intro e; simp at e <;> omega)
  replace hf0 := cl_st hf0 ew3 (by intro e; simp at e <;> omega)
  replace hf1 := cl_st' hf1 ew3
  replace kp := kp.stN ew3 (by first | (left; simp; done) | (right; left; simp; done) | (right; right; dsimp only; omega))
  refine F.esr ?_
  simp only [rg, Nat.reduceAdd]
  iterate 4 (refine F.oq rfl rfl rfl (by simp [go_sem]) fun d K h => ?_; go_simp; refine h _ ?_; clear h K d; try walk_nrm)
  refine F.ol rfl rfl rfl fun d K h => ?_; go_simp; refine h _ (fun e m => ?_) ?_; simp [go_sem, *] at m; subst m; exact evr (w := w3) (by assumption) (by first | assumption | exact hrb _ rfl | (apply hfr <;> dsimp only <;> omega)); clear h K d; try walk_nrm
  refine F.opq rfl rfl (by decide) (fun _ => (by first | (simp [go_sem, ev_sl0, ev_sl1]; done) | (simp [go_sem, Instr.makeInterface, Instr.makeFunc]; done) | (simp [go_sem, *]; done))) (fun d K hK => ?_)
  go_simp
  refine hK _ ?_
  clear hK K d
  try walk_nrm
  iterate 2 (refine F.oq rfl rfl rfl (by simp [go_sem]) fun d K h => ?_; go_simp; refine h _ ?_; clear h K d; try walk_nrm)
  refine F.op rfl rfl (by decide) (fun d K hK => ?_)
  go_simp
  rw [setCell_at']
  refine hK _ _ ⟨DX.set _ (by (first | assumption | exact hrb _ rfl | (apply hfr <;> dsimp only <;> omega))) (fun e he => ?_), ?_⟩
  · have hm := mem_listed he
    simp [go_sem, storedEv, evst_slice, evst_ptr, evst_iface, evst_nil, evst_bool, evst_func, *] at hm
    subst hm
    exact .inl ⟨_, rfl, rfl, by (first | assumption | exact hrb _ rfl | (apply hfr <;> dsimp only <;> omega)), by simp only [size_at, size_set]; first | omega | exact lt_of_cell (by assumption)⟩
  clear hK K d
  try walk_nrm
  generalize ew4 : World.setCell w3 _ _ = w4
  have sz4 := sz_st2 ew4
  replace zA0 := fz_st zA0 ew4
  replace zA1 := fz_st zA1 ew4
  replace zX1 := fz_st zX1 ew4
  replace zf0 := fz_st zf0 ew4
  replace zf1 := fz_st zf1 ew4
  replace hA0 := cl_st hA0 ew4 (by intro e; simp at e <;> omega)
  replace hA1 := cl_st' hA1 ew4
  replace hX0 := cl_st hX0 ew4 (by intro e; simp at e <;> omega)
  replace hX1 := cl_st hX1 ew4 (by intro e; simp at e <;> omega)
  replace hT0 := cl_st hT0 ew4 (by intro e; simp at e <;> omega)
  replace hT3 := cl_st hT3 ew4 (by intro e; simp at e <;> omega)
  replace hf0 := cl_st hf0 ew4 (by intro e; simp at e <;> omega)
  replace hf1 := cl_st hf1 ew4 (by intro e; simp at e <;> omega)
  replace kp := kp.stN ew4 (by first | (left; simp; done) | (right; left; simp; done) | (right; right; dsimp only; omega))
  refine F.esr ?_
  simp only [rg, Nat.reduceAdd]
  iterate 2 (refine F.oq rfl rfl rfl (by simp [go_sem]) fun d K h => ?_; go_simp; refine h _ ?_; clear h K d; try walk_nrm)
  refine F.ol rfl rfl rfl fun d K h => ?_; go_simp; refine h _ (fun e m => ?_) ?_; simp [go_sem, *] at m; subst m; exact evr (w := w4) (by assumption) (by first | assumption | exact hrb _ rfl | (apply hfr <;> dsimp only <;> omega)); clear h K d; try walk_nrm
  iterate 2 (refine F.oq rfl rfl rfl (by simp [go_sem]) fun d K h => ?_; go_simp; refine h _ ?_; clear h K d; try walk_nrm)
  refine F.op rfl rfl (by decide) (fun d K hK => ?_)
  go_simp
  rw [setCell_at']
  refine hK _ _ ⟨DX.set _ (by (first | assumption | exact hrb _ rfl | (apply hfr <;> dsimp only <;> omega))) (fun e he => ?_), ?_⟩
  · have hm := mem_listed he
    simp [go_sem, storedEv, evst_slice, evst_ptr, evst_iface, evst_nil, evst_bool, evst_func, *] at hm
    subst hm
    exact .inl ⟨_, rfl, rfl, by (first | assumption | exact hrb _ rfl | (apply hfr <;> dsimp only <;> omega)), by simp only [size_at, size_set]; first | omega | exact lt_of_cell (by assumption)⟩
  clear hK K d
  try walk_nrm
  generalize ew5 : World.setCell w4 _ _ = w5
  have sz5 := sz_st2 ew5
  replace zA0 := fz_st zA0 ew5
  replace zA1 := fz_st zA1 ew5
  replace zX1 := fz_st zX1 ew5
  replace zf0 := fz_st zf0 ew5
  replace zf1 := fz_st zf1 ew5
  replace hA0 := cl_st' hA0 ew5
  replace hA1 := cl_st hA1 ew5 (by intro e; simp at e <;> omega)
  replace hX0 := cl_st hX0 ew5 (by intro e; simp at e <;> omega)
  replace hX1 := cl_st hX1 ew5 (by intro e; simp at e <;> omega)
  replace hT0 := cl_st hT0 ew5 (by intro e; simp at e <;> omega)
  replace hT3 := cl_st hT3 ew5 (by intro e; simp at e <;> omega)
  replace hf0 := cl_st hf0 ew5 (by intro e; simp at e <;> omega)
  replace hf1 := cl_st hf1 ew5 (by intro e; simp at e <;> omega)
  replace kp := kp.stN ew5 (by first | (left; simp; done) | (right; left; simp; done) | (right; right; dsimp only; omega))
  refine F.er ?_
  simp only [rg, Nat.reduceAdd]
  refine F.oq rfl rfl rfl (by simp [go_sem]) fun d K h => ?_; go_simp; refine h _ ?_; clear h K d; try walk_nrm
  refine F.ol rfl rfl rfl fun d K h => ?_; go_simp; refine h _ (fun e m => ?_) ?_; simp [go_sem, *] at m; subst m; exact evr (w := w5) (by assumption) (by first | assumption | exact hrb _ rfl | (apply hfr <;> dsimp only <;> omega)); clear h K d; try walk_nrm
  refine F.enterV rfl rfl (by decide) rfl rfl Tryz.func144 (by rfl) (by rfl) ?_
  try walk_nrm
  rw [enter_at _ Tryz.func144 rfl]
  simp only [Tryz.ntmps144, List.size_toArray, List.length_cons, List.length_nil, Nat.reduceAdd, Nat.reduceSub, Array.replicate_succ, Array.replicate_zero, List.push_toArray, List.append_toArray, List.nil_append, List.cons_append]
  have hi0 : ((0 : Int) == 0) = true := rfl
  refine F.sr ?_
  simp only [rg, Nat.reduceAdd]
  iterate 3 (refine F.oq rfl rfl rfl (by simp [go_sem]) fun d K h => ?_; go_simp; refine h _ ?_; clear h K d; try walk_nrm)
  refine F.ol rfl rfl rfl fun d K h => ?_; go_simp; refine h _ (fun e m => ?_) ?_; simp [go_sem, *] at m; subst m; exact evr (w := w5) (by assumption) (by first | assumption | exact hrb _ rfl | (apply hfr <;> dsimp only <;> omega)); clear h K d; try walk_nrm
  refine F.oq rfl rfl rfl (by simp [go_sem]) fun d K h => ?_; go_simp; refine h _ ?_; clear h K d; try walk_nrm
  refine F.re ?_
  refine F.ct rfl ?_
  refine F.sr ?_
  simp only [rg, Nat.reduceAdd]
  iterate 3 (refine F.oq rfl rfl rfl (by simp [go_sem]) fun d K h => ?_; go_simp; refine h _ ?_; clear h K d; try walk_nrm)
  refine F.op rfl rfl (by decide) (fun d K hK => ?_)
  go_simp
  rw [setCell_at']
  refine hK _ _ ⟨DX.set _ (by (first | assumption | exact hrb _ rfl | (apply hfr <;> dsimp only <;> omega))) (fun e he => ?_), ?_⟩
  · have hm := mem_listed he
    simp [go_sem, storedEv, evst_slice, evst_ptr, evst_iface, evst_nil, evst_bool, evst_func, *] at hm
    subst hm
    exact .inl ⟨_, rfl, rfl, by (first | assumption | exact hrb _ rfl | (apply hfr <;> dsimp only <;> omega)), by simp only [size_at, size_set]; first | omega | exact lt_of_cell (by assumption)⟩
  clear hK K d
  try walk_nrm
  generalize ew6 : World.setCell w5 _ _ = w6
  have sz6 := sz_st2 ew6
  replace zA0 := fz_st zA0 ew6
  replace zA1 := fz_st zA1 ew6
  replace zX1 := fz_st zX1 ew6
  replace zf0 := fz_st zf0 ew6
  replace zf1 := fz_st zf1 ew6
  replace hA0 := cl_st hA0 ew6 (by intro e; simp at e <;> omega)
  replace hA1 := cl_st hA1 ew6 (by intro e; simp at e <;> omega)
  replace hX0 := cl_st hX0 ew6 (by intro e; simp at e <;> omega)
  replace hX1 := cl_st' hX1 ew6
  replace hT0 := cl_st hT0 ew6 (by intro e; simp at e <;> omega)
  replace hT3 := cl_st hT3 ew6 (by intro e; simp at e <;> omega)
  replace hf0 := cl_st hf0 ew6 (by intro e; simp at e <;> omega)
  replace hf1 := cl_st hf1 ew6 (by intro e; simp at e <;> omega)
  replace kp := kp.stN ew6 (by first | (left; simp; done) | (right; left; simp; done) | (right; right; dsimp only; omega))
  refine F.er ?_
  simp only [rg, Nat.reduceAdd]
  iterate 3 (refine F.oq rfl rfl rfl (by simp [go_sem]) fun d K h => ?_; go_simp; refine h _ ?_; clear h K d; try walk_nrm)
  refine F.ol rfl rfl rfl fun d K h => ?_; go_simp; refine h _ (fun e m => ?_) ?_; simp [go_sem, *] at m; subst m; exact evr (w := w6) (by assumption) (by first | assumption | exact hrb _ rfl | (apply hfr <;> dsimp only <;> omega)); clear h K d; try walk_nrm
  iterate 2 (refine F.oq rfl rfl rfl (by simp [go_sem]) fun d K h => ?_; go_simp; refine h _ ?_; clear h K d; try walk_nrm)
  refine F.ol rfl rfl rfl fun d K h => ?_; go_simp; refine h _ (fun e m => ?_) ?_; simp [go_sem, *] at m; subst m; exact evr (w := w6) (by assumption) (by first | assumption | exact hrb _ rfl | (apply hfr <;> dsimp only <;> omega)); clear h K d; try walk_nrm
  refine F.oq rfl rfl rfl (by simp [go_sem]) fun d K h => ?_; go_simp; refine h _ ?_; clear h K d; try walk_nrm
  refine F.enter rfl rfl (by decide) (fun _ => run_call_body rfl Tryz.func155 (by rfl) (by rfl)) (fun _ => events_call_body rfl Tryz.func155 (by rfl) (by rfl) _) ?_
  walk_nrm
  rw [enter_at _ Tryz.func155 rfl]
  simp only [Tryz.ntmps155, List.size_toArray, List.length_cons, List.length_nil, Nat.reduceAdd, Nat.reduceSub, Array.replicate_succ, Array.replicate_zero, List.push_toArray, List.append_toArray, List.nil_append, List.cons_append]
  clear zX1 hT0 hf0 hf1 zf0 zf1
  have hlast : ∃ en', en' = Value.slice (if cap = 0 then some ⟨E, off, none⟩ else some ⟨E, off + 2, none⟩) 0 cap := ⟨_, rfl⟩
  refine F.sq ?_
  refine F.drawB (γ := Unit) (n := 12) mixed [[], [0], [1], [2], [3], [4], [5], [], [7], [8], [9], [6, 10]] rfl (by kernel_rfl) (fun b g => [(4, sel (b 0) (.pointer (some ⟨x, 0, none⟩)) (undef)), (5, sel (b 1) (.pointer (some ⟨x, 0, none⟩)) (undef)), (6, sel (b 2) (.pointer (some ⟨x, 0, none⟩)) (undef)), (7, sel (b 3) (.pointer (some ⟨e.T, 0, none⟩)) (undef)), (8, sel (b 4) (.pointer (some ⟨e.T, 0, none⟩)) (undef)), (9, sel (b 5) (.pointer (some ⟨e.T, 3, none⟩)) (undef)), (10, sel (b 6) (.chan (some e.tch)) (undef)), (11, sel (b 7) (.pointer (some ⟨x, 0, none⟩)) (undef)), (12, sel (b 8) (.pointer (some ⟨x, 0, none⟩)) (undef)), (13, sel (b 9) (.pointer (some ⟨x, 1, none⟩)) (undef)), (14, sel (b 10) (.int .i64 1) (undef))]) (fun b g w => (b 11 = false → w = w6) ∧ (b 11 = true → ( False))) (()) (by simp only [pu, Nat.reduceAdd, Nat.reduceEqDiff, reduceIte]) (⟨fun _ => rfl, fun h => by cases h⟩) (all_cons ?_ (all_cons ?_ (all_cons ?_ (all_cons ?_ (all_cons ?_ (all_cons ?_ (all_cons ?_ (all_cons ?_ (all_cons ?_ (all_cons ?_ (all_cons ?_ (all_cons ?_ (all_nil))))))))))))) ?_
  · intro b g w hI hcl hbi hdp rest hre hkk
    obtain ⟨hwf, hwt⟩ := hI
    replace hbi : b 0 = false := hbi
    have nb1 := nbf (hcl 1 0 rfl) hbi
    have nb2 := nbf (hcl 2 1 rfl) nb1
    have nb3 := nbf (hcl 3 2 rfl) nb2
    have nb4 := nbf (hcl 4 3 rfl) nb3
    have nb5 := nbf (hcl 5 4 rfl) nb4
    have nb6 := nbf (hcl 6 5 rfl) nb5
    have nb11 := nbf (hcl 11 6 rfl) nb6
    have ewc := (hwf nb11).symm
    subst ewc
    simp only [nb1, nb2, nb3, nb4, nb5, nb6, nb11, hbi, pu, Nat.reduceAdd, Nat.reduceEqDiff, reduceIte]
    refine F.oq rfl rfl rfl (by simp [go_sem]) fun d K h => ?_; go_simp; refine h _ ?_; clear h K d; try walk_nrm
    have hk2 := hkk g _ ⟨fun _ => rfl, fun h => no nb11 h⟩
    simp only [nb1, nb2, nb3, nb4, nb5, nb6, nb11, hbi, pu, Nat.reduceAdd, Nat.reduceEqDiff, reduceIte] at hk2
    exact hk2
  · intro b g w hI hcl hbi hdp rest hre hkk
    obtain ⟨hwf, hwt⟩ := hI
    replace hbi : b 1 = false := hbi
    have d0 := hdp 0 rfl
    have nb2 := nbf (hcl 2 1 rfl) hbi
    have nb3 := nbf (hcl 3 2 rfl) nb2
    have nb4 := nbf (hcl 4 3 rfl) nb3
    have nb5 := nbf (hcl 5 4 rfl) nb4
    have nb6 := nbf (hcl 6 5 rfl) nb5
    have nb11 := nbf (hcl 11 6 rfl) nb6
    have ewc := (hwf nb11).symm
    subst ewc
    simp only [d0, nb2, nb3, nb4, nb5, nb6, nb11, hbi, pu, Nat.reduceAdd, Nat.reduceEqDiff, reduceIte]
    refine F.oq rfl rfl rfl (by simp [go_sem]) fun d K h => ?_; go_simp; refine h _ ?_; clear h K d; try walk_nrm
    have hk2 := hkk g _ ⟨fun _ => rfl, fun h => no nb11 h⟩
    simp only [d0, nb2, nb3, nb4, nb5, nb6, nb11, hbi, pu, Nat.reduceAdd, Nat.reduceEqDiff, reduceIte] at hk2
    exact hk2
  · intro b g w hI hcl hbi hdp rest hre hkk
    obtain ⟨hwf, hwt⟩ := hI
    replace hbi : b 2 = false := hbi
    have d1 := hdp 1 rfl
    have d0 := hcl 1 0 rfl d1
    have nb3 := nbf (hcl 3 2 rfl) hbi
    have nb4 := nbf (hcl 4 3 rfl) nb3
    have nb5 := nbf (hcl 5 4 rfl) nb4
    have nb6 := nbf (hcl 6 5 rfl) nb5
    have nb11 := nbf (hcl 11 6 rfl) nb6
    have ewc := (hwf nb11).symm
    subst ewc
    simp only [d1, d0, nb3, nb4, nb5, nb6, nb11, hbi, pu, Nat.reduceAdd, Nat.reduceEqDiff, reduceIte]
    refine F.oq rfl rfl rfl (by simp [go_sem]) fun d K h => ?_; go_simp; refine h _ ?_; clear h K d; try walk_nrm
    have hk2 := hkk g _ ⟨fun _ => rfl, fun h => no nb11 h⟩
    simp only [d1, d0, nb3, nb4, nb5, nb6, nb11, hbi, pu, Nat.reduceAdd, Nat.reduceEqDiff, reduceIte] at hk2
    exact hk2
  · intro b g w hI hcl hbi hdp rest hre hkk
    obtain ⟨hwf, hwt⟩ := hI
    replace hbi : b 3 = false := hbi
    have d2 := hdp 2 rfl
    have d1 := hcl 2 1 rfl d2
    have d0 := hcl 1 0 rfl d1
    have nb4 := nbf (hcl 4 3 rfl) hbi
    have nb5 := nbf (hcl 5 4 rfl) nb4
    have nb6 := nbf (hcl 6 5 rfl) nb5
    have nb11 := nbf (hcl 11 6 rfl) nb6
    have ewc := (hwf nb11).symm
    subst ewc
    simp only [d2, d1, d0, nb4, nb5, nb6, nb11, hbi, pu, Nat.reduceAdd, Nat.reduceEqDiff, reduceIte]
    refine F.ol rfl rfl rfl fun d K h => ?_; go_simp; refine h _ (fun e m => ?_) ?_; simp [go_sem, *] at m; subst m; exact evr (w := w6) (by assumption) (by first | assumption | exact hrb _ rfl | (apply hfr <;> dsimp only <;> omega)); clear h K d; try walk_nrm
    have hk2 := hkk g _ ⟨fun _ => rfl, fun h => no nb11 h⟩
    simp only [d2, d1, d0, nb4, nb5, nb6, nb11, hbi, pu, Nat.reduceAdd, Nat.reduceEqDiff, reduceIte] at hk2
    exact hk2
  · intro b g w hI hcl hbi hdp rest hre hkk
    obtain ⟨hwf, hwt⟩ := hI
    replace hbi : b 4 = false := hbi
    have d3 := hdp 3 rfl
    have d2 := hcl 3 2 rfl d3
    have d1 := hcl 2 1 rfl d2
    have d0 := hcl 1 0 rfl d1
    have nb5 := nbf (hcl 5 4 rfl) hbi
    have nb6 := nbf (hcl 6 5 rfl) nb5
    have nb11 := nbf (hcl 11 6 rfl) nb6
    have ewc := (hwf nb11).symm
    subst ewc
    simp only [d3, d2, d1, d0, nb5, nb6, nb11, hbi, pu, Nat.reduceAdd, Nat.reduceEqDiff, reduceIte]
    refine F.oq rfl rfl rfl (by simp [go_sem]) fun d K h => ?_; go_simp; refine h _ ?_; clear h K d; try walk_nrm
    have hk2 := hkk g _ ⟨fun _ => rfl, fun h => no nb11 h⟩
    simp only [d3, d2, d1, d0, nb5, nb6, nb11, hbi, pu, Nat.reduceAdd, Nat.reduceEqDiff, reduceIte] at hk2
    exact hk2
  · intro b g w hI hcl hbi hdp rest hre hkk
    obtain ⟨hwf, hwt⟩ := hI
    replace hbi : b 5 = false := hbi
    have d4 := hdp 4 rfl
    have d3 := hcl 4 3 rfl d4
    have d2 := hcl 3 2 rfl d3
    have d1 := hcl 2 1 rfl d2
    have d0 := hcl 1 0 rfl d1
    have nb6 := nbf (hcl 6 5 rfl) hbi
    have nb11 := nbf (hcl 11 6 rfl) nb6
    have ewc := (hwf nb11).symm
    subst ewc
    simp only [d4, d3, d2, d1, d0, nb6, nb11, hbi, pu, Nat.reduceAdd, Nat.reduceEqDiff, reduceIte]
    refine F.oq rfl rfl rfl (by simp [go_sem]) fun d K h => ?_; go_simp; refine h _ ?_; clear h K d; try walk_nrm
    have hk2 := hkk g _ ⟨fun _ => rfl, fun h => no nb11 h⟩
    simp only [d4, d3, d2, d1, d0, nb6, nb11, hbi, pu, Nat.reduceAdd, Nat.reduceEqDiff, reduceIte] at hk2
    exact hk2
  · intro b g w hI hcl hbi hdp rest hre hkk
    obtain ⟨hwf, hwt⟩ := hI
    replace hbi : b 6 = false := hbi
    have d5 := hdp 5 rfl
    have d4 := hcl 5 4 rfl d5
    have d3 := hcl 4 3 rfl d4
    have d2 := hcl 3 2 rfl d3
    have d1 := hcl 2 1 rfl d2
    have d0 := hcl 1 0 rfl d1
    have nb11 := nbf (hcl 11 6 rfl) hbi
    have ewc := (hwf nb11).symm
    subst ewc
    simp only [d5, d4, d3, d2, d1, d0, nb11, hbi, pu, Nat.reduceAdd, Nat.reduceEqDiff, reduceIte]
    refine F.ol rfl rfl rfl fun d K h => ?_; go_simp; refine h _ (fun e m => ?_) ?_; simp [go_sem, *] at m; subst m; exact evr (w := w6) (by assumption) (by first | assumption | exact hrb _ rfl | (apply hfr <;> dsimp only <;> omega)); clear h K d; try walk_nrm
    have hk2 := hkk g _ ⟨fun _ => rfl, fun h => no nb11 h⟩
    simp only [d5, d4, d3, d2, d1, d0, nb11, hbi, pu, Nat.reduceAdd, Nat.reduceEqDiff, reduceIte] at hk2
    exact hk2
  · intro b g w hI hcl hbi hdp rest hre hkk
    obtain ⟨hwf, hwt⟩ := hI
    replace hbi : b 7 = false := hbi
    have nb8 := nbf (hcl 8 7 rfl) hbi
    have nb9 := nbf (hcl 9 8 rfl) nb8
    have nb10 := nbf (hcl 10 9 rfl) nb9
    have nb11 := nbf (hcl 11 10 rfl) nb10
    have ewc := (hwf nb11).symm
    subst ewc
    simp only [nb8, nb9, nb10, nb11, hbi, pu, Nat.reduceAdd, Nat.reduceEqDiff, reduceIte]
    refine F.oq rfl rfl rfl (by simp [go_sem]) fun d K h => ?_; go_simp; refine h _ ?_; clear h K d; try walk_nrm
    have hk2 := hkk g _ ⟨fun _ => rfl, fun h => no nb11 h⟩
    simp only [nb8, nb9, nb10, nb11, hbi, pu, Nat.reduceAdd, Nat.reduceEqDiff, reduceIte] at hk2
    exact hk2
  · intro b g w hI hcl hbi hdp rest hre hkk
    obtain ⟨hwf, hwt⟩ := hI
    replace hbi : b 8 = false := hbi
    have d7 := hdp 7 rfl
    have nb9 := nbf (hcl 9 8 rfl) hbi
    have nb10 := nbf (hcl 10 9 rfl) nb9
    have nb11 := nbf (hcl 11 10 rfl) nb10
    have ewc := (hwf nb11).symm
    subst ewc
    simp only [d7, nb9, nb10, nb11, hbi, pu, Nat.reduceAdd, Nat.reduceEqDiff, reduceIte]
    refine F.oq rfl rfl rfl (by simp [go_sem]) fun d K h => ?_; go_simp; refine h _ ?_; clear h K d; try walk_nrm
    have hk2 := hkk g _ ⟨fun _ => rfl, fun h => no nb11 h⟩
    simp only [d7, nb9, nb10, nb11, hbi, pu, Nat.reduceAdd, Nat.reduceEqDiff, reduceIte] at hk2
    exact hk2
  · intro b g w hI hcl hbi hdp rest hre hkk
    obtain ⟨hwf, hwt⟩ := hI
    replace hbi : b 9 = false := hbi
    have d8 := hdp 8 rfl
    have d7 := hcl 8 7 rfl d8
    have nb10 := nbf (hcl 10 9 rfl) hbi
    have nb11 := nbf (hcl 11 10 rfl) nb10
    have ewc := (hwf nb11).symm
    subst ewc
    simp only [d8, d7, nb10, nb11, hbi, pu, Nat.reduceAdd, Nat.reduceEqDiff, reduceIte]
    refine F.oq rfl rfl rfl (by simp [go_sem]) fun d K h => ?_; go_simp; refine h _ ?_; clear h K d; try walk_nrm
    have hk2 := hkk g _ ⟨fun _ => rfl, fun h => no nb11 h⟩
    simp only [d8, d7, nb10, nb11, hbi, pu, Nat.reduceAdd, Nat.reduceEqDiff, reduceIte] at hk2
    exact hk2
  · intro b g w hI hcl hbi hdp rest hre hkk
    obtain ⟨hwf, hwt⟩ := hI
    replace hbi : b 10 = false := hbi
    have d9 := hdp 9 rfl
    have d8 := hcl 9 8 rfl d9
    have d7 := hcl 8 7 rfl d8
    have nb11 := nbf (hcl 11 10 rfl) hbi
    have ewc := (hwf nb11).symm
    subst ewc
    simp only [d9, d8, d7, nb11, hbi, pu, Nat.reduceAdd, Nat.reduceEqDiff, reduceIte]
    refine F.ol rfl rfl rfl fun d K h => ?_; go_simp; refine h _ (fun e m => ?_) ?_; simp [go_sem, *] at m; subst m; exact evr (w := w6) (by assumption) (by first | assumption | exact hrb _ rfl | (apply hfr <;> dsimp only <;> omega)); clear h K d; try walk_nrm
    have hk2 := hkk g _ ⟨fun _ => rfl, fun h => no nb11 h⟩
    simp only [d9, d8, d7, nb11, hbi, pu, Nat.reduceAdd, Nat.reduceEqDiff, reduceIte] at hk2
    exact hk2
  · intro b g w hI hcl hbi hdp rest hre hkk
    obtain ⟨hwf, hwt⟩ := hI
    replace hbi : b 11 = false := hbi
    have d6 := hdp 6 rfl
    have d10 := hdp 10 rfl
    have d9 := hcl 10 9 rfl d10
    have d8 := hcl 9 8 rfl d9
    have d7 := hcl 8 7 rfl d8
    have d5 := hcl 6 5 rfl d6
    have d4 := hcl 5 4 rfl d5
    have d3 := hcl 4 3 rfl d4
    have d2 := hcl 3 2 rfl d3
    have d1 := hcl 2 1 rfl d2
    have d0 := hcl 1 0 rfl d1
    have ewc := (hwf hbi).symm
    subst ewc
    simp only [d6, d10, d9, d8, d7, d5, d4, d3, d2, d1, d0, hbi, pu, Nat.reduceAdd, Nat.reduceEqDiff, reduceIte]
    have hrest : rest = [] := hre (by
      intro j hj hji
      match j, hj, hji with
      | 0, _, _ => exact d0
      | 1, _, _ => exact d1
      | 2, _, _ => exact d2
      | 3, _, _ => exact d3
      | 4, _, _ => exact d4
      | 5, _, _ => exact d5
      | 6, _, _ => exact d6
      | 7, _, _ => exact d7
      | 8, _, _ => exact d8
      | 9, _, _ => exact d9
      | 10, _, _ => exact d10
      | 11, _, h => exact absurd rfl h
      | j + 12, h, _ => omega)
    subst hrest
    refine At.assume ko_at (fun hKE => ?_)
    have hs6 := kp.size
    refine At.giveS (j := c) (s := seat1 e.tch c' cs) (c := e.tch) (kk := 0) (v := .int .i64 1) (z := .int .i64 0) (z' := .tuple #[]) ko_at (keepc1 R (st1_blk hxN)) still_shun (by omega) hcn (by simp [Inb1]) rfl (.inl rfl) rfl (fun d => ?_) (fun w h => h.2.2 e.tch (by simp [cc0])) (fun k2 dd gs2 gC T2 q2' sl2 hc2 hhomeC hsz2 g1 g2 CB => ?_)
    · rw [show ((0 : Nat) == 0) = true from rfl, stepG_comm (cases := #[scase e.tch (.int .i64 1) (.tuple #[])]) (blocking := true) (shape := .send) (w' := w6.at d) rfl rfl (by decide) (by simp [execOp, scase, Act.eval])]
      rw [listed_nil (by simp [go_sem, execOp, Act.eval])]
    have KE' : KO wI (st0 e) (cc0 e) (w6.setChan e.tch 0 #[] false (k2 + 1) (k2 + 1) false) := ko_chan R.lt.1 (fun p hp => by have h4 := R.nb e.tch (by simp); have h5 := (st0_off hp).2.2.2; omega) (by simp [cc0]) ⟨hKE.1, kl_sub (fun p hp => List.mem_cons_of_mem _ hp) (fun _ h => h) hKE.2⟩
    have hAl6 : e.A < w6.heap.size := by omega
    refine both_at (h := 0) (j := c) (K' := KO wI (st0 e) (cc0 e)) (Still' := StL (st0 e)) (s := seat0 e.wch e.ech (Home39 e cs0)) (w0 := w6) CB (by omega) (fun y hy => by simp [Inb1, hy]) (fun y hy => hy) (.inl rfl) (fun y ⟨p, hp, z⟩ => ⟨p, List.mem_cons_of_mem _ hp, z⟩) g1 (seat0_wf R.ne.1 _) (fun ch hch => by rcases seat0_has hch with rfl | rfl; exact KE'.2.2 e.wch (by simp [cc0]); exact KE'.2.2 e.ech (by simp [cc0])) (fun ch hch => by have := R.lw; have := R.le; rcases seat0_has hch with rfl | rfl <;> omega) KE' ?_ (fun q3 C3 => ?_)
    · clear F
      have F := qf_seat (P := Tryz.prog) (K := KO wI (st0 e) (cc0 e)) (Still := StL (st0 e)) (B := w6.heap.size) true (seat0 e.wch e.ech (Home39 e cs0)) w6
      rw [show ((0 : Nat) == 0) = true from rfl, served_fr, Frame.finish_at]
      try walk_nrm
      refine F.er ?_
      simp only [rg, Nat.reduceAdd]
      apply F.opq rfl rfl (by decide)
      · intro w hw
        simp [go_sem]
      · intro w hw
        go_simp
        first | exact ⟨rfl, rfl⟩ | exact rfl
      try walk_nrm
      refine F.enter rfl rfl (by decide) (fun _ => run_call_body rfl Tryz.func63 (by rfl) (by rfl)) (fun _ => events_call_body rfl Tryz.func63 (by rfl) (by rfl) _) ?_
      walk_nrm
      refine way63 e.A e.wch e.ech (fun w h => h.2.1 (⟨e.A, 3, none⟩, _) (by simp [st0])) (fun w h => h.2.1 (⟨e.A, 4, none⟩, _) (by simp [st0])) ⟨(⟨e.A, 3, none⟩, .chan (some e.wch)), by simp [st0], rfl⟩ ⟨(⟨e.A, 4, none⟩, .chan (some e.ech)), by simp [st0], rfl⟩ hAl6 _ _ (fun g hg kk hkk Φ F ht => hg kk hkk Φ F ?_) _
      rw [Frame.finish_at]
      try walk_nrm
      refine F.re ?_
      refine F.ctl (fun _ => stepG_end) ?_
      refine F.leave rfl rfl Tryz.func155 (resultsC_none (by rfl) _) ?_
      rw [Frame.finish_at]
      try walk_nrm
      refine F.re ?_
      refine F.ctl (fun _ => stepG_end) ?_
      refine F.leave rfl rfl Tryz.func144 (resultsC_none (by rfl) _) ?_
      rw [Frame.finish_at]
      try walk_nrm
      refine F.re ?_
      refine F.ib ?_
      refine F.ctl (fun _ => stepG_inLoop) ?_
      exact ht _ _ _ _ _ _ _ _ _ _ _ _ _ _ _ _ _ _ _ _ _ _ _ _ _ _ _ _ _ _ _ _ _ _
    have kF : Kp [] w6 (w6.setChan e.tch 0 #[] false (k2 + 1) (k2 + 1) false) := Kp.chan hc2
    have hkw : Kp [x] w (w6.setChan e.tch 0 #[] false (k2 + 1) (k2 + 1) false) [⟨e.A, 0, none⟩, ⟨e.A, 1, none⟩] := (((kc.old (by simp) (by simp)).callN kp (fun y hy => .inl hy) (fun y hy => .inl hy)).callN kF (by simp) (by simp))
    have hblkF := hkw.blk E _ _ _ (by simp; omega) (by simp; omega) hblk
    have hpost : WaitPost e x w (w6.setChan e.tch 0 #[] false (k2 + 1) (k2 + 1) false) t en (Value.slice (if cap = 0 then some ⟨E, off, none⟩ else some ⟨E, off + 2, none⟩) 0 cap) :=
      ⟨hkw, kF.cell _ _ (by simp) hA0, (kF.froz _ _ (by simp) hA0).trans zA0, kF.cell _ _ (by simp) hA1, (kF.froz _ _ (by simp) hA1).trans zA1, by
        by_cases hcap : cap = 0
        · exact .inr ⟨E, off, cap, cur, by simp [hcap], hNE, hblkF, by omega⟩
        · exact .inr ⟨E, off + 2, cap, cur, by simp [hcap], hNE, hblkF, by omega⟩, by
        rw [hen]
        by_cases hcap : cap = 0 <;> simp [rowL, Value.ownBlock, hcap]⟩
    have hP : Psi0 wI l e c n Post cs0 (Go.Conc.served gC (.int .i64 1)) (w6.setChan e.tch 0 #[] false (k2 + 1) (k2 + 1) false) := hhomeC _ (cf_fut (fut_c0 R) _) (hcont _ _ hpost)
    exact hP dd gs2 T2 q3 sl2 hsz2 g2 (by rw [size_chan]; exact C3)
  intro b g w hI hall
  obtain ⟨hwf, hwt⟩ := hI
  simp only [hall 0 (by decide), hall 1 (by decide), hall 2 (by decide), hall 3 (by decide), hall 4 (by decide), hall 5 (by decide), hall 6 (by decide), hall 7 (by decide), hall 8 (by decide), hall 9 (by decide), hall 10 (by decide), hall 11 (by decide), pu, Nat.reduceAdd, Nat.reduceEqDiff, reduceIte]
  exact (hwt (hall 11 (by decide))).elim
end

end Go.Proofs.YtobagnjnbmgidaaGreatDoor
