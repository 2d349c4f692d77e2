/- A wait, as the agenda serves it, on. -/
import Derived.Test.YtobagnjnbmgidaaGreatDoorX42
set_option linter.unusedSimpArgs false
set_option linter.unusedVariables false
namespace Go.Proofs.YtobagnjnbmgidaaGreatDoor
open Go.Conc Go.RowKit
open Go.ConcN (sumTo upd sumTo_upd upd_ne upd_same)

section
variable {P : Program} {Post : Value → World → Prop} {K : World → Prop} {Shun Still : Loc → Prop} {B : Nat} {Mem : Nat → Prop} {Inb : Nat → Option Seat} {h n : Nat} {T : Trace} {gs : Array Goroutine} {w : World} {q : Nat → Nat} {a g : Goroutine}
theorem both_at {K' : World → Prop} {Still' : Loc → Prop} {j : Nat} {s : Seat} {b : Goroutine} {w0 : World} (C : Both P K Shun Still B Mem Inb h j T gs w q) (hjh : j ≠ h) (hInb : ∀ x, x ≠ j → Inb x = none) (hMem : ∀ x, Mem x → x = h ∨ x = j) (hMh : Mem h) (hS : ∀ l, Still' l → Still l) (hb : gs[h]? = some b)
    (hwf : s.Wf) (hch : ∀ c, s.has c → ∃ k, w.heap[c]? = some (.chan 0 #[] false k k false)) (hcB : ∀ c, s.has c → c < B) (hK : K' w) (hway : ∃ m, Goes P (h == 0) (RK K') (DS Still' B) (fun g _ => ∃ g₂, AtIn P (h == 0) K' Still' B s g g₂) m b w0) {X : Prop}
    (next : ∀ q', R2 P K' Shun Still' B Mem (fun x => if x = h then some s else none) j T gs w q' → X) : X := by
  obtain ⟨m, hm⟩ := hway
  exact next _ (both_to C hjh hInb hMem hMh hS hb hwf hch hcB (.inl ⟨m, w0, rfl, hm⟩) hK)
theorem At.giveS {j c kk : Nat} {s : Seat} {v z z' : Value} (hKat : ∀ w d, K w → K (w.at d)) (hKc : ∀ w i s c k, Inb i = some s → s.has c → K w → K (w.setChan c 0 #[] false k k false)) (hSS : ∀ l, Still l → ¬ Shun l) (hjh : j ≠ h) (hjn : j < n) (hj : Inb j = some s) (hk : s.cases[kk]? = some (rcase c z)) (hMh : Mem h)
    (hrun : a.status = .running) (hsend : ∀ d, stepG P (h == 0) a (w.at d) = .comm a #[scase c v z'] true .send (w.at d) #[]) (hcK : ∀ w, K w → ∃ k, w.heap[c]? = some (.chan 0 #[] false k k false))
    (next : ∀ k d gs' g₂ T' q' sl', w.heap[c]? = some (.chan 0 #[] false k k false) → s.home g₂ → gs'.size = n → gs'[h]? = some (Go.Conc.served a undef) → gs'[j]? = some (Go.Conc.served g₂ (commResult s.cases s.shape kk v true)) → Both P K Shun Still w.heap.size Mem Inb h j T' gs' ((w.setChan c 0 #[] false (k + 1) (k + 1) false).at d) q' →
      Goal P Post (crowd gs' ((w.setChan c 0 #[] false (k + 1) (k + 1) false).at d) sl') T') : At P Post K Shun Still Mem Inb h n a w :=
  At.give (a₂ := a) (es := #[]) hKat hKc hSS hjh hjn hj hk hMh hrun hsend (fun e he => by simp at he) hcK next
end

theorem Kp.chan {w : World} {c k x y : Nat} {cap : Nat} {buf : Array Value} {cl tm : Bool} (hc : w.heap[c]? = some (.chan 0 #[] false k k false)) : Kp [] w (w.setChan c cap buf cl x y tm) := by
  have hne : ∀ (a : Addr) (v : Value), w.cell? a = some v → c ≠ a.block := fun a v h e => by subst e; simp [World.cell?, hc] at h
  exact ⟨Nat.le_of_eq (size_chan ..).symm, fun a v _ _ h => ((cell_chan (hne a v h) ..).1).trans h, fun a v _ _ h => (cell_chan (hne a v h) ..).2, fun b c' t f _ _ h => by
    by_cases e : c = b
    · subst e; rw [hc] at h; cases h
    · rw [heap_setChan_ne w _ _ _ _ _ _ e]; exact h⟩

theorem rst_func (P : Program) (w : World) (a : Addr) (m : Mode) (f : Fn) (x y : Array Value) : (store a (.func f x y) m).run P w = stored P w a (.func f x y) m := run_store P w a _ m rfl
/-- The task's seat. -/
def HomeC (c : Frame) (cs : List Frame) (g : Goroutine) : Prop := ∀ Φ, CF Tryz.prog false Φ → Φ (G (c.finish (.int .i64 1)) cs) → Φ (Go.Conc.served g (.int .i64 1))
def seat1 (tch : Nat) (c : Frame) (cs : List Frame) : Seat := Seat.one tch (.int .i64 0) false (HomeC c cs)

section
variable {wI : World} {l : List Nat} {e : Env} {c n : Nat} {Post : Value → World → Prop} {cs0 : List Frame}
theorem keepc0 (R : Rig wI l e c n) {Home : Goroutine → Prop} {st : List (Addr × Value)} (hst : ∀ p ∈ st, p.1.block = e.A ∨ p.1.block = e.X ∨ p.1.block = e.T ∨ e.N ≤ p.1.block) : ∀ w i s ch k, Inb0 (seat0 e.wch e.ech Home) i = some s → s.has ch → KO wI st (cc0 e) w → KO wI st (cc0 e) (w.setChan ch 0 #[] false k k false) := by
  intro w i s ch k hi hs hK
  unfold Inb0 at hi
  split at hi
  · cases hi
    have h1 := seat0_has hs
    have h2 := R.lw
    have h3 := R.le
    refine ko_chan (by rcases h1 with rfl | rfl; exact h2.1; exact h3.1) (fun p hp => ?_) (by rcases h1 with rfl | rfl <;> simp [cc0]) hK
    have h4 := R.nb ch (by rcases h1 with z | z <;> simp [z])
    have h5 := hst p hp
    rcases h1 with rfl | rfl <;> omega
  · cases hi
theorem keepc1 (R : Rig wI l e c n) {f : Frame} {cs : List Frame} {st : List (Addr × Value)} (hst : ∀ p ∈ st, p.1.block = e.A ∨ p.1.block = e.X ∨ p.1.block = e.T ∨ e.N ≤ p.1.block) : ∀ w i s ch k, Inb1 c (seat1 e.tch f cs) i = some s → s.has ch → KO wI st (cc0 e) w → KO wI st (cc0 e) (w.setChan ch 0 #[] false k k false) := by
  intro w i s ch k hi hs hK
  unfold Inb1 at hi
  split at hi
  · cases hi
    obtain rfl := Seat.one_has.1 hs
    have h2 := R.lt
    refine ko_chan h2.1 (fun p hp => ?_) (by simp [cc0]) hK
    have h4 := R.nb e.tch (by simp)
    have h5 := hst p hp
    omega
  · cases hi
theorem st0_blk : ∀ p ∈ st0 e, p.1.block = e.A ∨ p.1.block = e.X ∨ p.1.block = e.T ∨ e.N ≤ p.1.block := fun p hp => by have := (st0_off hp).2.2.2; omega
theorem st1_blk {x : Nat} (hx : e.N ≤ x) : ∀ p ∈ st1 e x, p.1.block = e.A ∨ p.1.block = e.X ∨ p.1.block = e.T ∨ e.N ≤ p.1.block := fun p hp => by
  rcases List.mem_cons.1 hp with rfl | hp
  · exact .inr (.inr (.inr hx))
  · exact st0_blk p hp

set_option maxRecDepth 100000 in
set_option maxHeartbeats 8000000 in
theorem wait_at (R : Rig wI l e c n) (hN0 : wI.heap.size ≤ e.N) (x : Nat) (c' : Frame) (cs : List Frame) (w : World) (now t : Int) (en : Value) (H : WaitPre e x w now t en) (hcont : ∀ w' en', WaitPost e x w w' t en en' → Psi0 wI l e c n Post cs0 (G (c'.finish (.int .i64 1)) cs) w') :
    Psi1 wI l e c n Post cs0 x (G (Frame.enter Tryz.prog 153 #[.pointer (some ⟨x, 0, none⟩)] .normal) (c' :: cs)) w := by
  have F := fut_c1 (Post := Post) (cs0 := cs0) R x
  have hx0 := H.x0
  have ht0 := H.t0
  have ha3 := H.a3
  have o1 : OkX (OkS wI.heap.size l (st0 e)) x ⟨x, 0, none⟩ false := ⟨ok_rd (by decide) (by decide), fun h => by cases h⟩
  have o2 : OkX (OkS wI.heap.size l (st0 e)) x ⟨e.T, 0, none⟩ false := ⟨ok_rd (by decide) (by decide), fun h => by cases h⟩
  have o3 : OkX (OkS wI.heap.size l (st0 e)) x ⟨e.A, 3, none⟩ false := ⟨ok_rd (by decide) (by decide), fun h => by cases h⟩
  have hcf : (c == 0) = false := by have := R.c0; simp; omega
  have hc0 := R.c0
  have hcn := R.cn
  rw [enter_at _ Tryz.func153 rfl]
  simp only [Tryz.ntmps153, List.size_toArray, List.length_cons, List.length_nil, Nat.reduceAdd, Nat.reduceSub, Array.replicate_succ, Array.replicate_zero, List.push_toArray, List.append_toArray, List.nil_append, List.cons_append]
  refine F.sr ?_
  simp only [rg, Nat.reduceAdd]
  refine F.oq rfl rfl rfl (fun _ => by simp [go_sem]) fun d K hK => ?_; go_simp; refine hK _ ?_; clear hK K d; try walk_nrm
  refine F.esr ?_
  simp only [rg, Nat.reduceAdd]
  iterate 3 (refine F.oq rfl rfl rfl (fun _ => by simp [go_sem]) fun d K hK => ?_; go_simp; refine hK _ ?_; clear hK K d; try walk_nrm)
  refine F.op rfl rfl (by decide) (fun d K hK => ?_)
  go_simp
  refine hK _ _ ⟨DX.still _ (fun e he => ?_), ?_⟩
  · have hm := mem_listed he
    simp [go_sem, *] at hm
    subst hm
    exact .inl ⟨_, rfl, rfl, by (first | assumption | exact hrb _ rfl | (apply hfr <;> dsimp only <;> omega) | (apply hok; simp; done)), lt_of_cell (w := w) (by assumption)⟩
  clear hK K d
  try walk_nrm
  iterate 2 (refine F.oq rfl rfl rfl (fun _ => by simp [go_sem]) fun d K hK => ?_; go_simp; refine hK _ ?_; clear hK K d; try walk_nrm)
  refine F.op rfl rfl (by decide) (fun d K hK => ?_)
  go_simp
  refine hK _ _ ⟨DX.still _ (fun e he => ?_), ?_⟩
  · have hm := mem_listed he
    simp [go_sem, *] at hm
    subst hm
    exact .inl ⟨_, rfl, rfl, by (first | assumption | exact hrb _ rfl | (apply hfr <;> dsimp only <;> omega) | (apply hok; simp; done)), lt_of_cell (w := w) (by assumption)⟩
  clear hK K d
  try walk_nrm
  iterate 2 (refine F.oq rfl rfl rfl (fun _ => by simp [go_sem]) fun d K hK => ?_; go_simp; refine hK _ ?_; clear hK K d; try walk_nrm)
  refine F.op rfl rfl (by decide) (fun d K hK => ?_)
  go_simp
  refine hK _ _ ⟨DX.still _ (fun e he => ?_), ?_⟩
  · have hm := mem_listed he
    simp [go_sem, *] at hm
    subst hm
    exact .inl ⟨_, rfl, rfl, by (first | assumption | exact hrb _ rfl | (apply hfr <;> dsimp only <;> omega) | (apply hok; simp; done)), lt_of_cell (w := w) (by assumption)⟩
  clear hK K d
  try walk_nrm
  refine F.oq rfl rfl rfl (fun _ => by simp [go_sem]) fun d K hK => ?_; go_simp; refine hK _ ?_; clear hK K d; try walk_nrm
  refine At.assume ko_at (fun hKO => ?_)
  refine At.giveS (j := 0) (c := e.wch) (kk := 0) (v := .agg #[]) (z := .agg #[]) (z' := .tuple #[]) ko_at (keepc0 R st0_blk) still_shun (by omega) (by omega) rfl rfl (.inr rfl) rfl (fun d => ?_) (fun w h => h.2.2 e.wch (by simp [cc0])) (fun k d gs' g₂ T' q' sl' hc hhome hsz h1 h2 C => ?_)
  · rw [hcf, stepG_comm (cases := #[scase e.wch (.agg #[]) (.tuple #[])]) (blocking := true) (shape := .send) (w' := w.at d) rfl rfl (by decide) (by simp [execOp, scase, Act.eval])]
    rw [listed_nil (by simp [go_sem, execOp, Act.eval])]
  have hxN := H.ge
  have hxl : x < w.heap.size := lt_of_cell hx0
  have hAl : e.A < w.heap.size := lt_of_cell ha3
  have hTl : e.T < w.heap.size := lt_of_cell ht0
  have K1 : KO wI (st1 e x) (cc0 e) w := ⟨hKO.1, kl_cons hx0 hKO.2⟩
  have K1' : KO wI (st1 e x) (cc0 e) (w.setChan e.wch 0 #[] false (k + 1) (k + 1) false) := ko_chan R.lw.1 (fun p hp => by have h4 := R.nb e.wch (by simp); have h5 := st1_blk hxN p hp; have := R.lw; omega) (by simp [cc0]) K1
  refine both_at (K' := KO wI (st1 e x) (cc0 e)) (Still' := StL (st1 e x)) (s := seat1 e.tch c' cs) (w0 := w) C (by omega) (fun y hy => by simp [Inb0, hy]) (fun y hy => hy.symm) (.inr rfl) (fun _ h => h) h1 (Seat.one_wf _ _ _ _) (fun ch hch => by obtain rfl := Seat.one_has.1 hch; exact K1'.2.2 e.tch (by simp [cc0])) (fun ch hch => by obtain rfl := Seat.one_has.1 hch; have := R.lt; have := H.size; omega) K1' ?_ (fun q2 C2 => ?_)
  · clear F
    have F := qf_seat (P := Tryz.prog) (K := KO wI (st1 e x) (cc0 e)) (Still := StL (st1 e x)) (B := w.heap.size) false (seat1 e.tch c' cs) w
    rw [hcf, served_fr, Frame.finish_at]
    try walk_nrm
    have f0 : ∀ w, KO wI (st1 e x) (cc0 e) w → w.cell? ⟨x, 0, none⟩ = some (.pointer (some ⟨e.T, 0, none⟩)) := fun w h => h.2.1 (⟨x, 0, none⟩, _) (by simp [st1])
    have f3 : ∀ w, KO wI (st1 e x) (cc0 e) w → w.cell? ⟨e.T, 3, none⟩ = some (.chan (some e.tch)) := fun w h => h.2.1 (⟨e.T, 3, none⟩, _) (by simp [st1, st0])
    refine F.esr ?_
    simp only [rg, Nat.reduceAdd]
    iterate 3 (refine F.oq rfl rfl rfl (fun w hw => by simp [go_sem]) (fun w hw => by go_simp; first | exact ⟨rfl, rfl⟩ | exact rfl) ?_; try walk_nrm)
    apply F.op rfl rfl (by decide)
    · intro w hw e he
      have hfact := f0 w hw
      simp [go_sem, hfact] at he
      subst he
      exact ⟨_, rfl, ⟨_, List.mem_cons_self .., rfl⟩, hxl⟩
    · intro w hw
      have hfact := f0 w hw
      go_simp
      first | exact ⟨rfl, rfl⟩ | exact rfl
    try walk_nrm
    iterate 2 (refine F.oq rfl rfl rfl (fun w hw => by simp [go_sem]) (fun w hw => by go_simp; first | exact ⟨rfl, rfl⟩ | exact rfl) ?_; try walk_nrm)
    apply F.op rfl rfl (by decide)
    · intro w hw e he
      have hfact := f3 w hw
      simp [go_sem, hfact] at he
      subst he
      exact ⟨_, rfl, ⟨(⟨e.T, 3, none⟩, .chan (some e.tch)), by simp [st1, st0], rfl⟩, hTl⟩
    · intro w hw
      have hfact := f3 w hw
      go_simp
      first | exact ⟨rfl, rfl⟩ | exact rfl
    try walk_nrm
    refine ⟨0, fun w₁ r => ⟨_, rfl, rfl, rfl, rfl, ?_, #[], by simp, fun w hw => ?_⟩⟩
    · clear F
      intro Φ F ht
      rw [served_fr, Frame.finish_at]
      try walk_nrm
      refine F.oq rfl rfl rfl (fun w hw => by simp [go_sem]) (fun w hw => by go_simp; first | exact ⟨rfl, rfl⟩ | exact rfl) ?_; try walk_nrm
      refine F.re ?_
      refine F.ctl (fun _ => stepG_ret') ?_
      refine F.leave rfl rfl Tryz.func153 (resultsC_tmp (by rfl) _) ?_
      exact ht
    · rw [stepG_comm (cases := #[rcase e.tch (.int .i64 0)]) (blocking := true) (shape := .recv false) (w' := w) rfl rfl (by decide) (by simp [go_sem, rcase])]
      rw [listed_nil (by simp [go_sem])]
      rfl
  have hsw : (w.setChan e.wch 0 #[] false (k + 1) (k + 1) false).heap.size = w.heap.size := size_chan ..
  suffices hA : At Tryz.prog Post (KO wI (st1 e x) (cc0 e)) (ShL l) (StL (st1 e x)) (Mem2 c) (Inb1 c (seat1 e.tch c' cs)) 0 n (Go.Conc.served g₂ (commResult (cases0 e.wch e.ech) .select 0 (.agg #[]) true)) (w.setChan e.wch 0 #[] false (k + 1) (k + 1) false) from
    hA d gs' T' q2 sl' hsz h2 (by rw [hsw]; exact C2)
  clear h1 h2 C C2 hsz F
  have F := fut_m1 (Post := Post) R x (seat1 e.tch c' cs)
  refine hhome 0 (by omega) _ (cf_fut F _) (fun y1 y2 y3 y4 y5 y6 y7 y8 y9 y10 y11 y12 y13 y14 y15 y16 y17 y18 y19 y20 y21 y22 y23 y24 y25 y26 y27 y28 y29 y30 y31 y32 y33 y34 => ?_)
  have kc : Kp [] w (w.setChan e.wch 0 #[] false (k + 1) (k + 1) false) := Kp.chan hc
  generalize hwm : w.setChan e.wch 0 #[] false (k + 1) (k + 1) false = w0 at kc K1' hsw ⊢
  clear hwm hKO K1 o1 o2 o3
  obtain ⟨E, off, cap, cur, hen, hNE, hblk, hroom, hcu0, hcu1⟩ := id (H.one)
  have hblk0 := kc.blk E _ _ _ (by simp) (by simp) hblk
  have hE0 : w0.cell? ⟨E, off, none⟩ = some (.int .i64 t) := by simp only [World.cell?, hblk0]; simpa using hcu0
  have hE1 : w0.cell? ⟨E, off + 1, none⟩ = some (.func (.func 144) #[.pointer (some ⟨x, 0, none⟩)] #[]) := by simp only [World.cell?, hblk0]; simpa using hcu1
  have hA0 := kc.cell _ _ (by simp) H.a0
  have zA0 := (kc.froz _ _ (by simp) H.a0).trans H.za0
  have hA1 := kc.cell _ _ (by simp) H.a1
  have zA1 := (kc.froz _ _ (by simp) H.a1).trans H.z1
  have hX0 := kc.cell _ _ (by simp) H.x0
  have hX1 := kc.cell _ _ (by simp) H.x1
  have zX1 := (kc.froz _ _ (by simp) H.x1).trans H.zx
  have hT0 := kc.cell _ _ (by simp) H.t0
  have hT3 := kc.cell _ _ (by simp) H.t3
  rw [hen] at hA1
  have hEx : E ≠ x := fun z => H.out (mem_rowL.2 (by rw [hen]; simp [Value.ownBlock, z]))
  have hEl : E < w.heap.size := (Array.getElem?_eq_some_iff.1 hblk).1
  have hlA := (R.l0 _ R.hA).2
  have hlT := R.lT
  have hXl := H.sX
  have hNX := H.nX
  have hNs := H.size
  have hnAT := R.nAT
  have hsw' : w.heap.size ≤ w0.heap.size := Nat.le_of_eq hsw.symm
  have hI0 := (R.l0 _ R.hA).1
  clear hx0 ht0 ha3 hsw
  have hfr : ∀ (a : Addr) (wr : Bool), w.heap.size ≤ a.block → OkS wI.heap.size l (st1 e x) a wr := fun a wr h => ok_fr (N := w.heap.size) (fun A hA => by have := (R.l0 A hA).2; omega) (by omega) h (fun p hp => by rcases List.mem_cons.1 hp with rfl | hp; (show x ≠ a.block); omega; have := (st0_off hp).2.2.2; omega) wr
  have hrb : ∀ a : Addr, a.block = E → OkS wI.heap.size l (st1 e x) a false := fun a h => ⟨fun ⟨A, hA, z⟩ => by have := (R.l0 A hA).2; rcases z with z | z <;> (simp at z; subst z; dsimp only at h; omega), fun h => by cases h⟩
  have o1 : OkS wI.heap.size l (st1 e x) ⟨e.A, 1, none⟩ false := ok_rd (by decide) (by decide)
  have o2 : OkS wI.heap.size l (st1 e x) ⟨e.A, 1, none⟩ true := ok_wr (by decide) (by decide) hI0 (by simp [StL, st1, st0]) _
  have o3 : OkS wI.heap.size l (st1 e x) ⟨e.A, 0, none⟩ true := ok_wr (by decide) (by decide) hI0 (by simp [StL, st1, st0]; omega) _
  have o4 : OkS wI.heap.size l (st1 e x) ⟨x, 1, none⟩ false := ok_rd (by decide) (by decide)
  have o5 : OkS wI.heap.size l (st1 e x) ⟨x, 1, none⟩ true := ok_wr (by decide) (by decide) (by omega) (by simp [StL, st1, st0]) _
  have o6 : OkS wI.heap.size l (st1 e x) ⟨x, 0, none⟩ false := ok_rd (by decide) (by decide)
  have o7 : OkS wI.heap.size l (st1 e x) ⟨e.T, 0, none⟩ false := ok_rd (by decide) (by decide)
  have o8 : OkS wI.heap.size l (st1 e x) ⟨e.T, 3, none⟩ false := ok_rd (by decide) (by decide)
  have kp : Kp [x] w0 w0 [⟨e.A, 0, none⟩, ⟨e.A, 1, none⟩] := Kp.refl _
  have hrsf := rst_func
  unfold hdOf
  refine F.sq ?_
  refine F.sr ?_
  simp only [rg, Nat.reduceAdd]
  iterate 3 (refine F.oq rfl rfl rfl (fun _ => by simp [go_sem]) fun d K hK => ?_; go_simp; refine hK _ ?_; clear hK K d; try walk_nrm)
  refine F.op rfl rfl (by decide) (fun d K hK => ?_)
  go_simp
  refine hK _ _ ⟨DX.still _ (fun e he => ?_), ?_⟩
  · have hm := mem_listed he
    simp [go_sem, *] at hm
    subst hm
    exact .inl ⟨_, rfl, rfl, by (first | assumption | exact hrb _ rfl | (apply hfr <;> dsimp only <;> omega) | (apply hok; simp; done)), lt_of_cell (w := w0) (by assumption)⟩
  clear hK K d
  try walk_nrm
  iterate 2 (refine F.oq rfl rfl rfl (fun _ => by simp [go_sem]) fun d K hK => ?_; go_simp; refine hK _ ?_; clear hK K d; try walk_nrm)
  refine F.re ?_
  refine F.ct rfl ?_
  refine F.sk ?_
  refine F.bl ?_
  refine F.sr ?_
  simp only [rg, Nat.reduceAdd]
  iterate 3 (refine F.oq rfl rfl rfl (fun _ => by simp [go_sem]) fun d K hK => ?_; go_simp; refine hK _ ?_; clear hK K d; try walk_nrm)
  refine F.op rfl rfl (by decide) (fun d K hK => ?_)
  go_simp
  refine hK _ _ ⟨DX.still _ (fun e he => ?_), ?_⟩
  · have hm := mem_listed he
    simp [go_sem, *] at hm
    subst hm
    exact .inl ⟨_, rfl, rfl, by (first | assumption | exact hrb _ rfl | (apply hfr <;> dsimp only <;> omega) | (apply hok; simp; done)), lt_of_cell (w := w0) (by assumption)⟩
  clear hK K d
  try walk_nrm
  refine F.oq rfl rfl rfl (fun _ => by simp [go_sem]) fun d K hK => ?_; go_simp; refine hK _ ?_; clear hK K d; try walk_nrm
  refine F.op rfl rfl (by decide) (fun d K hK => ?_)
  go_simp
  refine hK _ _ ⟨DX.still _ (fun e he => ?_), ?_⟩
  · have hm := mem_listed he
    simp [go_sem, *] at hm
    rcases hm with rfl | rfl <;> exact .inl ⟨_, rfl, rfl, by (first | assumption | exact hrb _ rfl | (apply hfr <;> dsimp only <;> omega) | (apply hok; simp; done)), lt_of_cell (w := w0) (by assumption)⟩
  clear hK K d
  try walk_nrm
  clear hE0 hE1
  refine F.op rfl rfl (by decide) (fun d K hK => ?_)
  go_simp
  rw [alloc_at']
  refine hK _ _ ⟨DX.alloc _ _ (fun e he => ?_), ?_⟩
  · have hm := mem_listed he
    simp [go_sem] at hm
  clear hK K d
  try walk_nrm
  generalize ew1 : World.alloc w0 _ = w1
  generalize hn1 : (World.heap w0).size = n1
  have sz1 : n1 < w1.heap.size ∧ w1.heap.size ≤ n1 + 1 := by have := sz_al ew1 hn1; omega
  replace zA0 := fz_al zA0 hA0 ew1
  replace zA1 := fz_al zA1 hA1 ew1
  replace zX1 := fz_al zX1 hX1 ew1
  replace hA0 := cl_al hA0 ew1
  replace hA1 := cl_al hA1 ew1
  replace hX0 := cl_al hX0 ew1
  replace hX1 := cl_al hX1 ew1
  replace hT0 := cl_al hT0 ew1
  replace hT3 := cl_al hT3 ew1
  have hf0 := cl_new (i := 0) ew1 hn1 rfl
  try simp only [List.getElem_toArray, List.getElem_cons_zero, List.getElem_cons_succ] at hf0
  have zf0 := fz_new ew1 hn1 0
  have hf1 := cl_new (i := 1) ew1 hn1 rfl
  try simp only [List.getElem_toArray, List.getElem_cons_zero, List.getElem_cons_succ] at hf1
  have zf1 := fz_new ew1 hn1 1
  replace kp := kp.alN ew1
  refine F.op rfl rfl (by decide) (fun d K hK => ?_)
  go_simp
  repeat rw [setCell_at']
  refine hK _ _ ⟨DX.set2 _ (by (first | assumption | exact hrb _ rfl | (apply hfr <;> dsimp only <;> omega) | (apply hok; simp; done))) (by (first | assumption | exact hrb _ rfl | (apply hfr <;> dsimp only <;> omega) | (apply hok; simp; done))) (fun e he => ?_), ?_⟩
  · have hm := mem_listed he
    simp [go_sem, storedEv, evst_slice, evst_ptr, evst_iface, evst_nil, evst_bool, evst_func, *] at hm
    rcases hm with rfl | rfl <;> exact .inl ⟨_, rfl, rfl, by (first | assumption | exact hrb _ rfl | (apply hfr <;> dsimp only <;> omega) | (apply hok; simp; done)), by simp only [size_at, size_set]; first | omega | exact lt_of_cell (by assumption)⟩
  clear hK K d
  try walk_nrm
  generalize ew2 : World.setCell w1 _ _ = w2
  have sz2 : w1.heap.size ≤ w2.heap.size ∧ w2.heap.size ≤ w1.heap.size := by have := sz_st ew2; omega
  replace zA0 := fz_st zA0 ew2
  replace zA1 := fz_st zA1 ew2
  replace zX1 := fz_st zX1 ew2
  replace zf0 := fz_st zf0 ew2
  replace zf1 := fz_st zf1 ew2
  replace hA0 := cl_st hA0 ew2 (by first | (intro e; simp at e; done) | (intro e; simp at e; omega) | (intro e; have e1 := congrArg Addr.block e; dsimp only at e1; omega))
  replace hA1 := cl_st hA1 ew2 (by first | (intro e; simp at e; done) | (intro e; simp at e; omega) | (intro e; have e1 := congrArg Addr.block e; dsimp only at e1; omega))
  replace hX0 := cl_st hX0 ew2 (by first | (intro e; simp at e; done) | (intro e; simp at e; omega) | (intro e; have e1 := congrArg Addr.block e; dsimp only at e1; omega))
  replace hX1 := cl_st hX1 ew2 (by first | (intro e; simp at e; done) | (intro e; simp at e; omega) | (intro e; have e1 := congrArg Addr.block e; dsimp only at e1; omega))
  replace hT0 := cl_st hT0 ew2 (by first | (intro e; simp at e; done) | (intro e; simp at e; omega) | (intro e; have e1 := congrArg Addr.block e; dsimp only at e1; omega))
  replace hT3 := cl_st hT3 ew2 (by first | (intro e; simp at e; done) | (intro e; simp at e; omega) | (intro e; have e1 := congrArg Addr.block e; dsimp only at e1; omega))
  replace hf0 := cl_st' hf0 ew2
  replace hf1 := cl_st hf1 ew2 (by first | (intro e; simp at e; done) | (intro e; simp at e; omega) | (intro e; have e1 := congrArg Addr.block e; dsimp only at e1; omega))
  replace kp := kp.stN ew2 (by first | (left; simp; done) | (right; left; simp; done) | (right; right; dsimp only; omega))
  generalize ew3 : World.setCell w2 _ _ = w3
  have sz3 : w2.heap.size ≤ w3.heap.size ∧ w3.heap.size ≤ w2.heap.size := by have := sz_st ew3; omega
  replace zA0 := fz_st zA0 ew3
  replace zA1 := fz_st zA1 ew3
  replace zX1 := fz_st zX1 ew3
  replace zf0 := fz_st zf0 ew3
  replace zf1 := fz_st zf1 ew3
  replace hA0 := cl_st hA0 ew3 (by first | (intro e; simp at e; done) | (intro e; simp at e; omega) | (intro e; have e1 := congrArg Addr.block e; dsimp only at e1; omega))
  replace hA1 := cl_st hA1 ew3 (by first | (intro e; simp at e; done) | (intro e; simp at e; omega) | (intro e; have e1 := congrArg Addr.block e; dsimp only at e1; omega))
  replace hX0 := cl_st hX0 ew3 (by first | (intro e; simp at e; done) | (intro e; simp at e; omega) | (intro e; have e1 := congrArg Addr.block e; dsimp only at e1; omega))
  replace hX1 := cl_st hX1 ew3 (by first | (intro e; simp at e; done) | (intro e; simp at e; omega) | (intro e; have e1 := congrArg Addr.block e; dsimp only at e1; omega))
  replace hT0 := cl_st hT0 ew3 (by first | (intro e; simp at e; done) | (intro e; simp at e; omega) | (intro e; have e1 := congrArg Addr.block e; dsimp only at e1; omega))
  replace hT3 := cl_st hT3 ew3 (by first | (intro e; simp at e; done) | (intro e; simp at e; omega) | (intro e; have e1 := congrArg Addr.block e; dsimp only at e1; omega))
  replace hf0 := cl_st hf0 ew3 (by first | (intro e; simp at e; done) | (intro e; simp at e; omega) | (intro e; have e1 := congrArg Addr.block e; dsimp only at e1; omega))
  replace hf1 := cl_st' hf1 ew3
  replace kp := kp.stN ew3 (by first | (left; simp; done) | (right; left; simp; done) | (right; right; dsimp only; omega))
  refine F.esr ?_
  simp only [rg, Nat.reduceAdd]
  iterate 4 (refine F.oq rfl rfl rfl (fun _ => by simp [go_sem]) fun d K hK => ?_; go_simp; refine hK _ ?_; clear hK K d; try walk_nrm)
  refine F.op rfl rfl (by decide) (fun d K hK => ?_)
  go_simp
  refine hK _ _ ⟨DX.still _ (fun e he => ?_), ?_⟩
  · have hm := mem_listed he
    simp [go_sem, *] at hm
    subst hm
    exact .inl ⟨_, rfl, rfl, by (first | assumption | exact hrb _ rfl | (apply hfr <;> dsimp only <;> omega) | (apply hok; simp; done)), lt_of_cell (w := w3) (by assumption)⟩
  clear hK K d
  try walk_nrm
  refine F.opq rfl rfl (by decide) (fun _ => (by first | (simp [go_sem, ev_sl0, ev_sl1]; done) | (simp [go_sem, Instr.makeInterface, Instr.makeFunc]; done) | (simp [go_sem, *]; done))) (fun d K hK => ?_)
  go_simp
  refine hK _ ?_
  clear hK K d
  try walk_nrm
  iterate 2 (refine F.oq rfl rfl rfl (fun _ => by simp [go_sem]) fun d K hK => ?_; go_simp; refine hK _ ?_; clear hK K d; try walk_nrm)
  refine F.op rfl rfl (by decide) (fun d K hK => ?_)
  go_simp
  rw [setCell_at']
  refine hK _ _ ⟨DX.set _ (by (first | assumption | exact hrb _ rfl | (apply hfr <;> dsimp only <;> omega) | (apply hok; simp; done))) (fun e he => ?_), ?_⟩
  · have hm := mem_listed he
    simp [go_sem, storedEv, evst_slice, evst_ptr, evst_iface, evst_nil, evst_bool, evst_func, *] at hm
    subst hm
    exact .inl ⟨_, rfl, rfl, by (first | assumption | exact hrb _ rfl | (apply hfr <;> dsimp only <;> omega) | (apply hok; simp; done)), by simp only [size_at, size_set]; first | omega | exact lt_of_cell (by assumption)⟩
  clear hK K d
  try walk_nrm
  generalize ew4 : World.setCell w3 _ _ = w4
  have sz4 : w3.heap.size ≤ w4.heap.size ∧ w4.heap.size ≤ w3.heap.size := by have := sz_st ew4; omega
  replace zA0 := fz_st zA0 ew4
  replace zA1 := fz_st zA1 ew4
  replace zX1 := fz_st zX1 ew4
  replace zf0 := fz_st zf0 ew4
  replace zf1 := fz_st zf1 ew4
  replace hA0 := cl_st hA0 ew4 (by first | (intro e; simp at e; done) | (intro e; simp at e; omega) | (intro e; have e1 := congrArg Addr.block e; dsimp only at e1; omega))
  replace hA1 := cl_st' hA1 ew4
  replace hX0 := cl_st hX0 ew4 (by first | (intro e; simp at e; done) | (intro e; simp at e; omega) | (intro e; have e1 := congrArg Addr.block e; dsimp only at e1; omega))
  replace hX1 := cl_st hX1 ew4 (by first | (intro e; simp at e; done) | (intro e; simp at e; omega) | (intro e; have e1 := congrArg Addr.block e; dsimp only at e1; omega))
  replace hT0 := cl_st hT0 ew4 (by first | (intro e; simp at e; done) | (intro e; simp at e; omega) | (intro e; have e1 := congrArg Addr.block e; dsimp only at e1; omega))
  replace hT3 := cl_st hT3 ew4 (by first | (intro e; simp at e; done) | (intro e; simp at e; omega) | (intro e; have e1 := congrArg Addr.block e; dsimp only at e1; omega))
  replace hf0 := cl_st hf0 ew4 (by first | (intro e; simp at e; done) | (intro e; simp at e; omega) | (intro e; have e1 := congrArg Addr.block e; dsimp only at e1; omega))
  replace hf1 := cl_st hf1 ew4 (by first | (intro e; simp at e; done) | (intro e; simp at e; omega) | (intro e; have e1 := congrArg Addr.block e; dsimp only at e1; omega))
  replace kp := kp.stN ew4 (by first | (left; simp; done) | (right; left; simp; done) | (right; right; dsimp only; omega))
  refine F.esr ?_
  simp only [rg, Nat.reduceAdd]
  iterate 2 (refine F.oq rfl rfl rfl (fun _ => by simp [go_sem]) fun d K hK => ?_; go_simp; refine hK _ ?_; clear hK K d; try walk_nrm)
  refine F.op rfl rfl (by decide) (fun d K hK => ?_)
  go_simp
  refine hK _ _ ⟨DX.still _ (fun e he => ?_), ?_⟩
  · have hm := mem_listed he
    simp [go_sem, *] at hm
    subst hm
    exact .inl ⟨_, rfl, rfl, by (first | assumption | exact hrb _ rfl | (apply hfr <;> dsimp only <;> omega) | (apply hok; simp; done)), lt_of_cell (w := w4) (by assumption)⟩
  clear hK K d
  try walk_nrm
  iterate 2 (refine F.oq rfl rfl rfl (fun _ => by simp [go_sem]) fun d K hK => ?_; go_simp; refine hK _ ?_; clear hK K d; try walk_nrm)
  refine F.op rfl rfl (by decide) (fun d K hK => ?_)
  go_simp
  rw [setCell_at']
  refine hK _ _ ⟨DX.set _ (by (first | assumption | exact hrb _ rfl | (apply hfr <;> dsimp only <;> omega) | (apply hok; simp; done))) (fun e he => ?_), ?_⟩
  · have hm := mem_listed he
    simp [go_sem, storedEv, evst_slice, evst_ptr, evst_iface, evst_nil, evst_bool, evst_func, *] at hm
    subst hm
    exact .inl ⟨_, rfl, rfl, by (first | assumption | exact hrb _ rfl | (apply hfr <;> dsimp only <;> omega) | (apply hok; simp; done)), by simp only [size_at, size_set]; first | omega | exact lt_of_cell (by assumption)⟩
  clear hK K d
  try walk_nrm
  generalize ew5 : World.setCell w4 _ _ = w5
  have sz5 : w4.heap.size ≤ w5.heap.size ∧ w5.heap.size ≤ w4.heap.size := by have := sz_st ew5; omega
  replace zA0 := fz_st zA0 ew5
  replace zA1 := fz_st zA1 ew5
  replace zX1 := fz_st zX1 ew5
  replace zf0 := fz_st zf0 ew5
  replace zf1 := fz_st zf1 ew5
  replace hA0 := cl_st' hA0 ew5
  replace hA1 := cl_st hA1 ew5 (by first | (intro e; simp at e; done) | (intro e; simp at e; omega) | (intro e; have e1 := congrArg Addr.block e; dsimp only at e1; omega))
  replace hX0 := cl_st hX0 ew5 (by first | (intro e; simp at e; done) | (intro e; simp at e; omega) | (intro e; have e1 := congrArg Addr.block e; dsimp only at e1; omega))
  replace hX1 := cl_st hX1 ew5 (by first | (intro e; simp at e; done) | (intro e; simp at e; omega) | (intro e; have e1 := congrArg Addr.block e; dsimp only at e1; omega))
  replace hT0 := cl_st hT0 ew5 (by first | (intro e; simp at e; done) | (intro e; simp at e; omega) | (intro e; have e1 := congrArg Addr.block e; dsimp only at e1; omega))
  replace hT3 := cl_st hT3 ew5 (by first | (intro e; simp at e; done) | (intro e; simp at e; omega) | (intro e; have e1 := congrArg Addr.block e; dsimp only at e1; omega))
  replace hf0 := cl_st hf0 ew5 (by first | (intro e; simp at e; done) | (intro e; simp at e; omega) | (intro e; have e1 := congrArg Addr.block e; dsimp only at e1; omega))
  replace hf1 := cl_st hf1 ew5 (by first | (intro e; simp at e; done) | (intro e; simp at e; omega) | (intro e; have e1 := congrArg Addr.block e; dsimp only at e1; omega))
  replace kp := kp.stN ew5 (by first | (left; simp; done) | (right; left; simp; done) | (right; right; dsimp only; omega))
  refine F.er ?_
  simp only [rg, Nat.reduceAdd]
  refine F.oq rfl rfl rfl (fun _ => by simp [go_sem]) fun d K hK => ?_; go_simp; refine hK _ ?_; clear hK K d; try walk_nrm
  refine F.op rfl rfl (by decide) (fun d K hK => ?_)
  go_simp
  refine hK _ _ ⟨DX.still _ (fun e he => ?_), ?_⟩
  · have hm := mem_listed he
    simp [go_sem, *] at hm
    subst hm
    exact .inl ⟨_, rfl, rfl, by (first | assumption | exact hrb _ rfl | (apply hfr <;> dsimp only <;> omega) | (apply hok; simp; done)), lt_of_cell (w := w5) (by assumption)⟩
  clear hK K d
  try walk_nrm
  refine F.enterV rfl rfl (by decide) rfl rfl Tryz.func144 (by rfl) (by rfl) ?_
  try walk_nrm
  rw [enter_at _ Tryz.func144 rfl]
  simp only [Tryz.ntmps144, List.size_toArray, List.length_cons, List.length_nil, Nat.reduceAdd, Nat.reduceSub, Array.replicate_succ, Array.replicate_zero, List.push_toArray, List.append_toArray, List.nil_append, List.cons_append]
  have hi0 : ((0 : Int) == 0) = true := rfl
  refine F.sr ?_
  simp only [rg, Nat.reduceAdd]
  iterate 3 (refine F.oq rfl rfl rfl (fun _ => by simp [go_sem]) fun d K hK => ?_; go_simp; refine hK _ ?_; clear hK K d; try walk_nrm)
  refine F.op rfl rfl (by decide) (fun d K hK => ?_)
  go_simp
  refine hK _ _ ⟨DX.still _ (fun e he => ?_), ?_⟩
  · have hm := mem_listed he
    simp [go_sem, *] at hm
    subst hm
    exact .inl ⟨_, rfl, rfl, by (first | assumption | exact hrb _ rfl | (apply hfr <;> dsimp only <;> omega) | (apply hok; simp; done)), lt_of_cell (w := w5) (by assumption)⟩
  clear hK K d
  try walk_nrm
  refine F.oq rfl rfl rfl (fun _ => by simp [go_sem]) fun d K hK => ?_; go_simp; refine hK _ ?_; clear hK K d; try walk_nrm
  refine F.re ?_
  refine F.ct rfl ?_
  refine F.sr ?_
  simp only [rg, Nat.reduceAdd]
  iterate 3 (refine F.oq rfl rfl rfl (fun _ => by simp [go_sem]) fun d K hK => ?_; go_simp; refine hK _ ?_; clear hK K d; try walk_nrm)
  refine F.op rfl rfl (by decide) (fun d K hK => ?_)
  go_simp
  rw [setCell_at']
  refine hK _ _ ⟨DX.set _ (by (first | assumption | exact hrb _ rfl | (apply hfr <;> dsimp only <;> omega) | (apply hok; simp; done))) (fun e he => ?_), ?_⟩
  · have hm := mem_listed he
    simp [go_sem, storedEv, evst_slice, evst_ptr, evst_iface, evst_nil, evst_bool, evst_func, *] at hm
    subst hm
    exact .inl ⟨_, rfl, rfl, by (first | assumption | exact hrb _ rfl | (apply hfr <;> dsimp only <;> omega) | (apply hok; simp; done)), by simp only [size_at, size_set]; first | omega | exact lt_of_cell (by assumption)⟩
  clear hK K d
  try walk_nrm
  generalize ew6 : World.setCell w5 _ _ = w6
  have sz6 : w5.heap.size ≤ w6.heap.size ∧ w6.heap.size ≤ w5.heap.size := by have := sz_st ew6; omega
  replace zA0 := fz_st zA0 ew6
  replace zA1 := fz_st zA1 ew6
  replace zX1 := fz_st zX1 ew6
  replace zf0 := fz_st zf0 ew6
  replace zf1 := fz_st zf1 ew6
  replace hA0 := cl_st hA0 ew6 (by first | (intro e; simp at e; done) | (intro e; simp at e; omega) | (intro e; have e1 := congrArg Addr.block e; dsimp only at e1; omega))
  replace hA1 := cl_st hA1 ew6 (by first | (intro e; simp at e; done) | (intro e; simp at e; omega) | (intro e; have e1 := congrArg Addr.block e; dsimp only at e1; omega))
  replace hX0 := cl_st hX0 ew6 (by first | (intro e; simp at e; done) | (intro e; simp at e; omega) | (intro e; have e1 := congrArg Addr.block e; dsimp only at e1; omega))
  replace hX1 := cl_st' hX1 ew6
  replace hT0 := cl_st hT0 ew6 (by first | (intro e; simp at e; done) | (intro e; simp at e; omega) | (intro e; have e1 := congrArg Addr.block e; dsimp only at e1; omega))
  replace hT3 := cl_st hT3 ew6 (by first | (intro e; simp at e; done) | (intro e; simp at e; omega) | (intro e; have e1 := congrArg Addr.block e; dsimp only at e1; omega))
  replace hf0 := cl_st hf0 ew6 (by first | (intro e; simp at e; done) | (intro e; simp at e; omega) | (intro e; have e1 := congrArg Addr.block e; dsimp only at e1; omega))
  replace hf1 := cl_st hf1 ew6 (by first | (intro e; simp at e; done) | (intro e; simp at e; omega) | (intro e; have e1 := congrArg Addr.block e; dsimp only at e1; omega))
  replace kp := kp.stN ew6 (by first | (left; simp; done) | (right; left; simp; done) | (right; right; dsimp only; omega))
  refine F.er ?_
  simp only [rg, Nat.reduceAdd]
  iterate 3 (refine F.oq rfl rfl rfl (fun _ => by simp [go_sem]) fun d K hK => ?_; go_simp; refine hK _ ?_; clear hK K d; try walk_nrm)
  refine F.op rfl rfl (by decide) (fun d K hK => ?_)
  go_simp
  refine hK _ _ ⟨DX.still _ (fun e he => ?_), ?_⟩
  · have hm := mem_listed he
    simp [go_sem, *] at hm
    subst hm
    exact .inl ⟨_, rfl, rfl, by (first | assumption | exact hrb _ rfl | (apply hfr <;> dsimp only <;> omega) | (apply hok; simp; done)), lt_of_cell (w := w6) (by assumption)⟩
  clear hK K d
  try walk_nrm
  iterate 2 (refine F.oq rfl rfl rfl (fun _ => by simp [go_sem]) fun d K hK => ?_; go_simp; refine hK _ ?_; clear hK K d; try walk_nrm)
  refine F.op rfl rfl (by decide) (fun d K hK => ?_)
  go_simp
  refine hK _ _ ⟨DX.still _ (fun e he => ?_), ?_⟩
  · have hm := mem_listed he
    simp [go_sem, *] at hm
    subst hm
    exact .inl ⟨_, rfl, rfl, by (first | assumption | exact hrb _ rfl | (apply hfr <;> dsimp only <;> omega) | (apply hok; simp; done)), lt_of_cell (w := w6) (by assumption)⟩
  clear hK K d
  try walk_nrm
  refine F.oq rfl rfl rfl (fun _ => by simp [go_sem]) fun d K hK => ?_; go_simp; refine hK _ ?_; clear hK K d; try walk_nrm
  refine F.enter rfl rfl (by decide) (fun _ => run_call_body rfl Tryz.func155 (by rfl) (by rfl)) (fun _ => events_call_body rfl Tryz.func155 (by rfl) (by rfl) _) ?_
  walk_nrm
  rw [enter_at _ Tryz.func155 rfl]
  simp only [Tryz.ntmps155, List.size_toArray, List.length_cons, List.length_nil, Nat.reduceAdd, Nat.reduceSub, Array.replicate_succ, Array.replicate_zero, List.push_toArray, List.append_toArray, List.nil_append, List.cons_append]
  clear zX1 hT0 hf0 hf1 zf0 zf1
  have hlast : ∃ en', en' = Value.slice (if cap = 0 then some ⟨E, off, none⟩ else some ⟨E, off + 2, none⟩) 0 cap := ⟨_, rfl⟩
  refine F.sq ?_
  refine F.drawA (γ := Unit) (n := 12) mixed [[], [0], [1], [2], [3], [4], [5], [], [7], [8], [9], [6, 10]] rfl (by kernel_rfl) (fun b g => [(4, sel (b 0) (.pointer (some ⟨x, 0, none⟩)) (undef)), (5, sel (b 1) (.pointer (some ⟨x, 0, none⟩)) (undef)), (6, sel (b 2) (.pointer (some ⟨x, 0, none⟩)) (undef)), (7, sel (b 3) (.pointer (some ⟨e.T, 0, none⟩)) (undef)), (8, sel (b 4) (.pointer (some ⟨e.T, 0, none⟩)) (undef)), (9, sel (b 5) (.pointer (some ⟨e.T, 3, none⟩)) (undef)), (10, sel (b 6) (.chan (some e.tch)) (undef)), (11, sel (b 7) (.pointer (some ⟨x, 0, none⟩)) (undef)), (12, sel (b 8) (.pointer (some ⟨x, 0, none⟩)) (undef)), (13, sel (b 9) (.pointer (some ⟨x, 1, none⟩)) (undef)), (14, sel (b 10) (.int .i64 1) (undef))]) (fun b g w => (b 11 = false → w = w6) ∧ (b 11 = true → ( False))) (()) (by simp only [pu, Nat.reduceAdd, Nat.reduceEqDiff, reduceIte]) (⟨fun _ => rfl, fun h => by cases h⟩) (all_cons ?_ (all_cons ?_ (all_cons ?_ (all_cons ?_ (all_cons ?_ (all_cons ?_ (all_cons ?_ (all_cons ?_ (all_cons ?_ (all_cons ?_ (all_cons ?_ (all_cons ?_ (all_nil))))))))))))) ?_
  · intro b g w hI hcl hbi hdp rest hre hkk
    obtain ⟨hwf, hwt⟩ := hI
    replace hbi : b 0 = false := hbi
    have nb1 : b 1 = false := nbf (fun h => hcl 1 (by decide) h 0 (by decide)) hbi
    have nb2 : b 2 = false := by
        cases hx : b 2 with
        | false => rfl
        | true => have := hcl 2 (by decide) hx 1 (by decide); rw [show b 1 = false from nb1] at this; cases this
    have nb3 : b 3 = false := by
        cases hx : b 3 with
        | false => rfl
        | true => have := hcl 3 (by decide) hx 2 (by decide); rw [show b 2 = false from nb2] at this; cases this
    have nb4 : b 4 = false := by
        cases hx : b 4 with
        | false => rfl
        | true => have := hcl 4 (by decide) hx 3 (by decide); rw [show b 3 = false from nb3] at this; cases this
    have nb5 : b 5 = false := by
        cases hx : b 5 with
        | false => rfl
        | true => have := hcl 5 (by decide) hx 4 (by decide); rw [show b 4 = false from nb4] at this; cases this
    have nb6 : b 6 = false := by
        cases hx : b 6 with
        | false => rfl
        | true => have := hcl 6 (by decide) hx 5 (by decide); rw [show b 5 = false from nb5] at this; cases this
    have nb11 : b 11 = false := by
        cases hx : b 11 with
        | false => rfl
        | true => have := hcl 11 (by decide) hx 6 (by decide); rw [show b 6 = false from nb6] at this; cases this
    have ewc := (hwf nb11).symm
    subst ewc
    simp only [nb1, nb2, nb3, nb4, nb5, nb6, nb11, hbi, pu, Nat.reduceAdd, Nat.reduceEqDiff, reduceIte]
    refine F.oq rfl rfl rfl (fun _ => by simp [go_sem]) fun d K hK => ?_; go_simp; refine hK _ ?_; clear hK K d; try walk_nrm
    have hk2 := hkk g _ ⟨fun _ => rfl, fun h => no nb11 h⟩
    simp only [nb1, nb2, nb3, nb4, nb5, nb6, nb11, hbi, pu, Nat.reduceAdd, Nat.reduceEqDiff, reduceIte] at hk2
    exact hk2
  · intro b g w hI hcl hbi hdp rest hre hkk
    obtain ⟨hwf, hwt⟩ := hI
    replace hbi : b 1 = false := hbi
    have d0 : b 0 = true := hdp 0 (by decide)
    have nb2 : b 2 = false := nbf (fun h => hcl 2 (by decide) h 1 (by decide)) hbi
    have nb3 : b 3 = false := by
        cases hx : b 3 with
        | false => rfl
        | true => have := hcl 3 (by decide) hx 2 (by decide); rw [show b 2 = false from nb2] at this; cases this
    have nb4 : b 4 = false := by
        cases hx : b 4 with
        | false => rfl
        | true => have := hcl 4 (by decide) hx 3 (by decide); rw [show b 3 = false from nb3] at this; cases this
    have nb5 : b 5 = false := by
        cases hx : b 5 with
        | false => rfl
        | true => have := hcl 5 (by decide) hx 4 (by decide); rw [show b 4 = false from nb4] at this; cases this
    have nb6 : b 6 = false := by
        cases hx : b 6 with
        | false => rfl
        | true => have := hcl 6 (by decide) hx 5 (by decide); rw [show b 5 = false from nb5] at this; cases this
    have nb11 : b 11 = false := by
        cases hx : b 11 with
        | false => rfl
        | true => have := hcl 11 (by decide) hx 6 (by decide); rw [show b 6 = false from nb6] at this; cases this
    have ewc := (hwf nb11).symm
    subst ewc
    simp only [d0, nb2, nb3, nb4, nb5, nb6, nb11, hbi, pu, Nat.reduceAdd, Nat.reduceEqDiff, reduceIte]
    refine F.oq rfl rfl rfl (fun _ => by simp [go_sem]) fun d K hK => ?_; go_simp; refine hK _ ?_; clear hK K d; try walk_nrm
    have hk2 := hkk g _ ⟨fun _ => rfl, fun h => no nb11 h⟩
    simp only [d0, nb2, nb3, nb4, nb5, nb6, nb11, hbi, pu, Nat.reduceAdd, Nat.reduceEqDiff, reduceIte] at hk2
    exact hk2
  · intro b g w hI hcl hbi hdp rest hre hkk
    obtain ⟨hwf, hwt⟩ := hI
    replace hbi : b 2 = false := hbi
    have d1 : b 1 = true := hdp 1 (by decide)
    have d0 : b 0 = true := hcl 1 (by decide) d1 0 (by decide)
    have nb3 : b 3 = false := nbf (fun h => hcl 3 (by decide) h 2 (by decide)) hbi
    have nb4 : b 4 = false := by
        cases hx : b 4 with
        | false => rfl
        | true => have := hcl 4 (by decide) hx 3 (by decide); rw [show b 3 = false from nb3] at this; cases this
    have nb5 : b 5 = false := by
        cases hx : b 5 with
        | false => rfl
        | true => have := hcl 5 (by decide) hx 4 (by decide); rw [show b 4 = false from nb4] at this; cases this
    have nb6 : b 6 = false := by
        cases hx : b 6 with
        | false => rfl
        | true => have := hcl 6 (by decide) hx 5 (by decide); rw [show b 5 = false from nb5] at this; cases this
    have nb11 : b 11 = false := by
        cases hx : b 11 with
        | false => rfl
        | true => have := hcl 11 (by decide) hx 6 (by decide); rw [show b 6 = false from nb6] at this; cases this
    have ewc := (hwf nb11).symm
    subst ewc
    simp only [d1, d0, nb3, nb4, nb5, nb6, nb11, hbi, pu, Nat.reduceAdd, Nat.reduceEqDiff, reduceIte]
    refine F.oq rfl rfl rfl (fun _ => by simp [go_sem]) fun d K hK => ?_; go_simp; refine hK _ ?_; clear hK K d; try walk_nrm
    have hk2 := hkk g _ ⟨fun _ => rfl, fun h => no nb11 h⟩
    simp only [d1, d0, nb3, nb4, nb5, nb6, nb11, hbi, pu, Nat.reduceAdd, Nat.reduceEqDiff, reduceIte] at hk2
    exact hk2
  · intro b g w hI hcl hbi hdp rest hre hkk
    obtain ⟨hwf, hwt⟩ := hI
    replace hbi : b 3 = false := hbi
    have d2 : b 2 = true := hdp 2 (by decide)
    have d1 : b 1 = true := hcl 2 (by decide) d2 1 (by decide)
    have d0 : b 0 = true := hcl 1 (by decide) d1 0 (by decide)
    have nb4 : b 4 = false := nbf (fun h => hcl 4 (by decide) h 3 (by decide)) hbi
    have nb5 : b 5 = false := by
        cases hx : b 5 with
        | false => rfl
        | true => have := hcl 5 (by decide) hx 4 (by decide); rw [show b 4 = false from nb4] at this; cases this
    have nb6 : b 6 = false := by
        cases hx : b 6 with
        | false => rfl
        | true => have := hcl 6 (by decide) hx 5 (by decide); rw [show b 5 = false from nb5] at this; cases this
    have nb11 : b 11 = false := by
        cases hx : b 11 with
        | false => rfl
        | true => have := hcl 11 (by decide) hx 6 (by decide); rw [show b 6 = false from nb6] at this; cases this
    have ewc := (hwf nb11).symm
    subst ewc
    simp only [d2, d1, d0, nb4, nb5, nb6, nb11, hbi, pu, Nat.reduceAdd, Nat.reduceEqDiff, reduceIte]
    refine F.op rfl rfl (by decide) (fun d K hK => ?_)
    go_simp
    refine hK _ _ ⟨DX.still _ (fun e he => ?_), ?_⟩
    · have hm := mem_listed he
      simp [go_sem, *] at hm
      subst hm
      exact .inl ⟨_, rfl, rfl, by (first | assumption | exact hrb _ rfl | (apply hfr <;> dsimp only <;> omega) | (apply hok; simp; done)), lt_of_cell (w := w6) (by assumption)⟩
    clear hK K d
    try walk_nrm
    have hk2 := hkk g _ ⟨fun _ => rfl, fun h => no nb11 h⟩
    simp only [d2, d1, d0, nb4, nb5, nb6, nb11, hbi, pu, Nat.reduceAdd, Nat.reduceEqDiff, reduceIte] at hk2
    exact hk2
  · intro b g w hI hcl hbi hdp rest hre hkk
    obtain ⟨hwf, hwt⟩ := hI
    replace hbi : b 4 = false := hbi
    have d3 : b 3 = true := hdp 3 (by decide)
    have d2 : b 2 = true := hcl 3 (by decide) d3 2 (by decide)
    have d1 : b 1 = true := hcl 2 (by decide) d2 1 (by decide)
    have d0 : b 0 = true := hcl 1 (by decide) d1 0 (by decide)
    have nb5 : b 5 = false := nbf (fun h => hcl 5 (by decide) h 4 (by decide)) hbi
    have nb6 : b 6 = false := by
        cases hx : b 6 with
        | false => rfl
        | true => have := hcl 6 (by decide) hx 5 (by decide); rw [show b 5 = false from nb5] at this; cases this
    have nb11 : b 11 = false := by
        cases hx : b 11 with
        | false => rfl
        | true => have := hcl 11 (by decide) hx 6 (by decide); rw [show b 6 = false from nb6] at this; cases this
    have ewc := (hwf nb11).symm
    subst ewc
    simp only [d3, d2, d1, d0, nb5, nb6, nb11, hbi, pu, Nat.reduceAdd, Nat.reduceEqDiff, reduceIte]
    refine F.oq rfl rfl rfl (fun _ => by simp [go_sem]) fun d K hK => ?_; go_simp; refine hK _ ?_; clear hK K d; try walk_nrm
    have hk2 := hkk g _ ⟨fun _ => rfl, fun h => no nb11 h⟩
    simp only [d3, d2, d1, d0, nb5, nb6, nb11, hbi, pu, Nat.reduceAdd, Nat.reduceEqDiff, reduceIte] at hk2
    exact hk2
  · intro b g w hI hcl hbi hdp rest hre hkk
    obtain ⟨hwf, hwt⟩ := hI
    replace hbi : b 5 = false := hbi
    have d4 : b 4 = true := hdp 4 (by decide)
    have d3 : b 3 = true := hcl 4 (by decide) d4 3 (by decide)
    have d2 : b 2 = true := hcl 3 (by decide) d3 2 (by decide)
    have d1 : b 1 = true := hcl 2 (by decide) d2 1 (by decide)
    have d0 : b 0 = true := hcl 1 (by decide) d1 0 (by decide)
    have nb6 : b 6 = false := nbf (fun h => hcl 6 (by decide) h 5 (by decide)) hbi
    have nb11 : b 11 = false := by
        cases hx : b 11 with
        | false => rfl
        | true => have := hcl 11 (by decide) hx 6 (by decide); rw [show b 6 = false from nb6] at this; cases this
    have ewc := (hwf nb11).symm
    subst ewc
    simp only [d4, d3, d2, d1, d0, nb6, nb11, hbi, pu, Nat.reduceAdd, Nat.reduceEqDiff, reduceIte]
    refine F.oq rfl rfl rfl (fun _ => by simp [go_sem]) fun d K hK => ?_; go_simp; refine hK _ ?_; clear hK K d; try walk_nrm
    have hk2 := hkk g _ ⟨fun _ => rfl, fun h => no nb11 h⟩
    simp only [d4, d3, d2, d1, d0, nb6, nb11, hbi, pu, Nat.reduceAdd, Nat.reduceEqDiff, reduceIte] at hk2
    exact hk2
  · intro b g w hI hcl hbi hdp rest hre hkk
    obtain ⟨hwf, hwt⟩ := hI
    replace hbi : b 6 = false := hbi
    have d5 : b 5 = true := hdp 5 (by decide)
    have d4 : b 4 = true := hcl 5 (by decide) d5 4 (by decide)
    have d3 : b 3 = true := hcl 4 (by decide) d4 3 (by decide)
    have d2 : b 2 = true := hcl 3 (by decide) d3 2 (by decide)
    have d1 : b 1 = true := hcl 2 (by decide) d2 1 (by decide)
    have d0 : b 0 = true := hcl 1 (by decide) d1 0 (by decide)
    have nb11 : b 11 = false := nbf (fun h => hcl 11 (by decide) h 6 (by decide)) hbi
    have ewc := (hwf nb11).symm
    subst ewc
    simp only [d5, d4, d3, d2, d1, d0, nb11, hbi, pu, Nat.reduceAdd, Nat.reduceEqDiff, reduceIte]
    refine F.op rfl rfl (by decide) (fun d K hK => ?_)
    go_simp
    refine hK _ _ ⟨DX.still _ (fun e he => ?_), ?_⟩
    · have hm := mem_listed he
      simp [go_sem, *] at hm
      subst hm
      exact .inl ⟨_, rfl, rfl, by (first | assumption | exact hrb _ rfl | (apply hfr <;> dsimp only <;> omega) | (apply hok; simp; done)), lt_of_cell (w := w6) (by assumption)⟩
    clear hK K d
    try walk_nrm
    have hk2 := hkk g _ ⟨fun _ => rfl, fun h => no nb11 h⟩
    simp only [d5, d4, d3, d2, d1, d0, nb11, hbi, pu, Nat.reduceAdd, Nat.reduceEqDiff, reduceIte] at hk2
    exact hk2
  · intro b g w hI hcl hbi hdp rest hre hkk
    obtain ⟨hwf, hwt⟩ := hI
    replace hbi : b 7 = false := hbi
    have nb8 : b 8 = false := nbf (fun h => hcl 8 (by decide) h 7 (by decide)) hbi
    have nb9 : b 9 = false := by
        cases hx : b 9 with
        | false => rfl
        | true => have := hcl 9 (by decide) hx 8 (by decide); rw [show b 8 = false from nb8] at this; cases this
    have nb10 : b 10 = false := by
        cases hx : b 10 with
        | false => rfl
        | true => have := hcl 10 (by decide) hx 9 (by decide); rw [show b 9 = false from nb9] at this; cases this
    have nb11 : b 11 = false := by
        cases hx : b 11 with
        | false => rfl
        | true => have := hcl 11 (by decide) hx 10 (by decide); rw [show b 10 = false from nb10] at this; cases this
    have ewc := (hwf nb11).symm
    subst ewc
    simp only [nb8, nb9, nb10, nb11, hbi, pu, Nat.reduceAdd, Nat.reduceEqDiff, reduceIte]
    refine F.oq rfl rfl rfl (fun _ => by simp [go_sem]) fun d K hK => ?_; go_simp; refine hK _ ?_; clear hK K d; try walk_nrm
    have hk2 := hkk g _ ⟨fun _ => rfl, fun h => no nb11 h⟩
    simp only [nb8, nb9, nb10, nb11, hbi, pu, Nat.reduceAdd, Nat.reduceEqDiff, reduceIte] at hk2
    exact hk2
  · intro b g w hI hcl hbi hdp rest hre hkk
    obtain ⟨hwf, hwt⟩ := hI
    replace hbi : b 8 = false := hbi
    have d7 : b 7 = true := hdp 7 (by decide)
    have nb9 : b 9 = false := nbf (fun h => hcl 9 (by decide) h 8 (by decide)) hbi
    have nb10 : b 10 = false := by
        cases hx : b 10 with
        | false => rfl
        | true => have := hcl 10 (by decide) hx 9 (by decide); rw [show b 9 = false from nb9] at this; cases this
    have nb11 : b 11 = false := by
        cases hx : b 11 with
        | false => rfl
        | true => have := hcl 11 (by decide) hx 10 (by decide); rw [show b 10 = false from nb10] at this; cases this
    have ewc := (hwf nb11).symm
    subst ewc
    simp only [d7, nb9, nb10, nb11, hbi, pu, Nat.reduceAdd, Nat.reduceEqDiff, reduceIte]
    refine F.oq rfl rfl rfl (fun _ => by simp [go_sem]) fun d K hK => ?_; go_simp; refine hK _ ?_; clear hK K d; try walk_nrm
    have hk2 := hkk g _ ⟨fun _ => rfl, fun h => no nb11 h⟩
    simp only [d7, nb9, nb10, nb11, hbi, pu, Nat.reduceAdd, Nat.reduceEqDiff, reduceIte] at hk2
    exact hk2
  · intro b g w hI hcl hbi hdp rest hre hkk
    obtain ⟨hwf, hwt⟩ := hI
    replace hbi : b 9 = false := hbi
    have d8 : b 8 = true := hdp 8 (by decide)
    have d7 : b 7 = true := hcl 8 (by decide) d8 7 (by decide)
    have nb10 : b 10 = false := nbf (fun h => hcl 10 (by decide) h 9 (by decide)) hbi
    have nb11 : b 11 = false := by
        cases hx : b 11 with
        | false => rfl
        | true => have := hcl 11 (by decide) hx 10 (by decide); rw [show b 10 = false from nb10] at this; cases this
    have ewc := (hwf nb11).symm
    subst ewc
    simp only [d8, d7, nb10, nb11, hbi, pu, Nat.reduceAdd, Nat.reduceEqDiff, reduceIte]
    refine F.oq rfl rfl rfl (fun _ => by simp [go_sem]) fun d K hK => ?_; go_simp; refine hK _ ?_; clear hK K d; try walk_nrm
    have hk2 := hkk g _ ⟨fun _ => rfl, fun h => no nb11 h⟩
    simp only [d8, d7, nb10, nb11, hbi, pu, Nat.reduceAdd, Nat.reduceEqDiff, reduceIte] at hk2
    exact hk2
  · intro b g w hI hcl hbi hdp rest hre hkk
    obtain ⟨hwf, hwt⟩ := hI
    replace hbi : b 10 = false := hbi
    have d9 : b 9 = true := hdp 9 (by decide)
    have d8 : b 8 = true := hcl 9 (by decide) d9 8 (by decide)
    have d7 : b 7 = true := hcl 8 (by decide) d8 7 (by decide)
    have nb11 : b 11 = false := nbf (fun h => hcl 11 (by decide) h 10 (by decide)) hbi
    have ewc := (hwf nb11).symm
    subst ewc
    simp only [d9, d8, d7, nb11, hbi, pu, Nat.reduceAdd, Nat.reduceEqDiff, reduceIte]
    refine F.op rfl rfl (by decide) (fun d K hK => ?_)
    go_simp
    refine hK _ _ ⟨DX.still _ (fun e he => ?_), ?_⟩
    · have hm := mem_listed he
      simp [go_sem, *] at hm
      subst hm
      exact .inl ⟨_, rfl, rfl, by (first | assumption | exact hrb _ rfl | (apply hfr <;> dsimp only <;> omega) | (apply hok; simp; done)), lt_of_cell (w := w6) (by assumption)⟩
    clear hK K d
    try walk_nrm
    have hk2 := hkk g _ ⟨fun _ => rfl, fun h => no nb11 h⟩
    simp only [d9, d8, d7, nb11, hbi, pu, Nat.reduceAdd, Nat.reduceEqDiff, reduceIte] at hk2
    exact hk2
  · intro b g w hI hcl hbi hdp rest hre hkk
    obtain ⟨hwf, hwt⟩ := hI
    replace hbi : b 11 = false := hbi
    have d6 : b 6 = true := hdp 6 (by decide)
    have d10 : b 10 = true := hdp 10 (by decide)
    have d9 : b 9 = true := hcl 10 (by decide) d10 9 (by decide)
    have d8 : b 8 = true := hcl 9 (by decide) d9 8 (by decide)
    have d7 : b 7 = true := hcl 8 (by decide) d8 7 (by decide)
    have d5 : b 5 = true := hcl 6 (by decide) d6 5 (by decide)
    have d4 : b 4 = true := hcl 5 (by decide) d5 4 (by decide)
    have d3 : b 3 = true := hcl 4 (by decide) d4 3 (by decide)
    have d2 : b 2 = true := hcl 3 (by decide) d3 2 (by decide)
    have d1 : b 1 = true := hcl 2 (by decide) d2 1 (by decide)
    have d0 : b 0 = true := hcl 1 (by decide) d1 0 (by decide)
    have ewc := (hwf hbi).symm
    subst ewc
    simp only [d6, d10, d9, d8, d7, d5, d4, d3, d2, d1, d0, hbi, pu, Nat.reduceAdd, Nat.reduceEqDiff, reduceIte]
    have hrest : rest = [] := hre (by
      intro j hj hji
      match j, hj, hji with
      | 0, _, _ => exact d0
      | 1, _, _ => exact d1
      | 2, _, _ => exact d2
      | 3, _, _ => exact d3
      | 4, _, _ => exact d4
      | 5, _, _ => exact d5
      | 6, _, _ => exact d6
      | 7, _, _ => exact d7
      | 8, _, _ => exact d8
      | 9, _, _ => exact d9
      | 10, _, _ => exact d10
      | 11, _, h => exact absurd rfl h
      | j + 12, h, _ => omega)
    subst hrest
    refine At.assume ko_at (fun hKE => ?_)
    have hs6 := kp.size
    refine At.giveS (j := c) (s := seat1 e.tch c' cs) (c := e.tch) (kk := 0) (v := .int .i64 1) (z := .int .i64 0) (z' := .tuple #[]) ko_at (keepc1 R (st1_blk hxN)) still_shun (by omega) hcn (by simp [Inb1]) rfl (.inl rfl) rfl (fun d => ?_) (fun w h => h.2.2 e.tch (by simp [cc0])) (fun k2 dd gs2 gC T2 q2' sl2 hc2 hhomeC hsz2 g1 g2 CB => ?_)
    · rw [show ((0 : Nat) == 0) = true from rfl, stepG_comm (cases := #[scase e.tch (.int .i64 1) (.tuple #[])]) (blocking := true) (shape := .send) (w' := w6.at d) rfl rfl (by decide) (by simp [execOp, scase, Act.eval])]
      rw [listed_nil (by simp [go_sem, execOp, Act.eval])]
    have KE' : KO wI (st0 e) (cc0 e) (w6.setChan e.tch 0 #[] false (k2 + 1) (k2 + 1) false) := ko_chan R.lt.1 (fun p hp => by have h4 := R.nb e.tch (by simp); have h5 := (st0_off hp).2.2.2; omega) (by simp [cc0]) ⟨hKE.1, kl_sub (fun p hp => List.mem_cons_of_mem _ hp) (fun _ h => h) hKE.2⟩
    have hAl6 : e.A < w6.heap.size := by omega
    refine both_at (h := 0) (j := c) (K' := KO wI (st0 e) (cc0 e)) (Still' := StL (st0 e)) (s := seat0 e.wch e.ech (Home39 e cs0)) (w0 := w6) CB (by omega) (fun y hy => by simp [Inb1, hy]) (fun y hy => hy) (.inl rfl) (fun y ⟨p, hp, z⟩ => ⟨p, List.mem_cons_of_mem _ hp, z⟩) g1 (seat0_wf R.ne.1 _) (fun ch hch => by rcases seat0_has hch with rfl | rfl; exact KE'.2.2 e.wch (by simp [cc0]); exact KE'.2.2 e.ech (by simp [cc0])) (fun ch hch => by have := R.lw; have := R.le; rcases seat0_has hch with rfl | rfl <;> omega) KE' ?_ (fun q3 C3 => ?_)
    · clear F
      have F := qf_seat (P := Tryz.prog) (K := KO wI (st0 e) (cc0 e)) (Still := StL (st0 e)) (B := w6.heap.size) true (seat0 e.wch e.ech (Home39 e cs0)) w6
      rw [show ((0 : Nat) == 0) = true from rfl, served_fr, Frame.finish_at]
      try walk_nrm
      refine F.er ?_
      simp only [rg, Nat.reduceAdd]
      apply F.opq rfl rfl (by decide)
      · intro w hw
        simp [go_sem]
      · intro w hw
        go_simp
        first | exact ⟨rfl, rfl⟩ | exact rfl
      try walk_nrm
      refine F.enter rfl rfl (by decide) (fun _ => run_call_body rfl Tryz.func63 (by rfl) (by rfl)) (fun _ => events_call_body rfl Tryz.func63 (by rfl) (by rfl) _) ?_
      walk_nrm
      refine way63 e.A e.wch e.ech (fun w h => h.2.1 (⟨e.A, 3, none⟩, _) (by simp [st0])) (fun w h => h.2.1 (⟨e.A, 4, none⟩, _) (by simp [st0])) ⟨(⟨e.A, 3, none⟩, .chan (some e.wch)), by simp [st0], rfl⟩ ⟨(⟨e.A, 4, none⟩, .chan (some e.ech)), by simp [st0], rfl⟩ hAl6 _ _ (fun g hg kk hkk Φ F ht => hg kk hkk Φ F ?_) _
      rw [Frame.finish_at]
      try walk_nrm
      refine F.re ?_
      refine F.ctl (fun _ => stepG_end) ?_
      refine F.leave rfl rfl Tryz.func155 (resultsC_none (by rfl) _) ?_
      rw [Frame.finish_at]
      try walk_nrm
      refine F.re ?_
      refine F.ctl (fun _ => stepG_end) ?_
      refine F.leave rfl rfl Tryz.func144 (resultsC_none (by rfl) _) ?_
      rw [Frame.finish_at]
      try walk_nrm
      refine F.re ?_
      refine F.ib ?_
      refine F.ctl (fun _ => stepG_inLoop) ?_
      exact ht _ _ _ _ _ _ _ _ _ _ _ _ _ _ _ _ _ _ _ _ _ _ _ _ _ _ _ _ _ _ _ _ _ _
    have kF : Kp [] w6 (w6.setChan e.tch 0 #[] false (k2 + 1) (k2 + 1) false) := Kp.chan hc2
    have hkw : Kp [x] w (w6.setChan e.tch 0 #[] false (k2 + 1) (k2 + 1) false) [⟨e.A, 0, none⟩, ⟨e.A, 1, none⟩] := (((kc.old (by simp) (by simp)).callN kp (fun y hy => .inl hy) (fun y hy => .inl hy)).callN kF (by simp) (by simp))
    have hblkF := hkw.blk E _ _ _ (by simp; omega) (by simp; omega) hblk
    have hpost : WaitPost e x w (w6.setChan e.tch 0 #[] false (k2 + 1) (k2 + 1) false) t en (Value.slice (if cap = 0 then some ⟨E, off, none⟩ else some ⟨E, off + 2, none⟩) 0 cap) :=
      ⟨hkw, kF.cell _ _ (by simp) hA0, (kF.froz _ _ (by simp) hA0).trans zA0, kF.cell _ _ (by simp) hA1, (kF.froz _ _ (by simp) hA1).trans zA1, by
        by_cases hcap : cap = 0
        · exact .inr ⟨E, off, cap, cur, by simp [hcap], hNE, hblkF, by omega⟩
        · exact .inr ⟨E, off + 2, cap, cur, by simp [hcap], hNE, hblkF, by omega⟩, by
        rw [hen]
        by_cases hcap : cap = 0 <;> simp [rowL, Value.ownBlock, hcap]⟩
    have hP : Psi0 wI l e c n Post cs0 (Go.Conc.served gC (.int .i64 1)) (w6.setChan e.tch 0 #[] false (k2 + 1) (k2 + 1) false) := hhomeC _ (cf_fut (fut_c0 R) _) (hcont _ _ hpost)
    exact hP dd gs2 T2 q3 sl2 hsz2 g2 (by rw [size_chan]; exact C3)
  intro b g w hI hall
  obtain ⟨hwf, hwt⟩ := hI
  simp only [hall 0 (by decide), hall 1 (by decide), hall 2 (by decide), hall 3 (by decide), hall 4 (by decide), hall 5 (by decide), hall 6 (by decide), hall 7 (by decide), hall 8 (by decide), hall 9 (by decide), hall 10 (by decide), hall 11 (by decide), pu, Nat.reduceAdd, Nat.reduceEqDiff, reduceIte]
  exact (hwt (hall 11 (by decide))).elim
end

end Go.Proofs.YtobagnjnbmgidaaGreatDoor
