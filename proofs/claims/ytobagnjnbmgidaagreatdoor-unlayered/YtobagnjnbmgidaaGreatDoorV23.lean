/- An entry of the agenda: a task is woken. -/
import Derived.Test.YtobagnjnbmgidaaGreatDoorV22
set_option linter.unusedSimpArgs false
set_option linter.unusedVariables false
set_option maxHeartbeats 8000000
set_option maxRecDepth 100000
namespace Go.Proofs.YtobagnjnbmgidaaGreatDoor
open Go.Conc Go.RowKit
open Go.ConcN (sumTo upd sumTo_upd upd_ne upd_same)

def Gs.woke (σ : Gs) (R : Rn) (i κ : Nat) (js' : List Nat) : Gs := { st := σ.st, ng := σ.ng, L := σ.L, nb := σ.nb, Inb := upd (upd σ.Inb 0 (some (seat0 R.wch R.ech (HomeA R.A R.wch R.ech (R.cR :: R.csR))))) κ none, St := upd σ.St 0 (StL (plA R.A R.wch R.ech)), tk := upd σ.tk i (.live κ), js := js' }

section
variable {R : Rn} {Post : Value → World → Prop} {σ : Gs} {Λ i κ bg X bt M0 M : Nat} {p : Ph Gs} {q : Pk}
theorem good_wake (H : RnOk R) (g : Good R σ M) (hi : i < R.n) {js' : List Nat} (hjs : σ.js = i :: js') (hf : σ.tk i = .parked q) {M' : Nat} (hM : M ≤ M') : Good R (σ.woke R i q.κ js') M' := by
  have hNM := g.N; have tki : (σ.woke R i q.κ js').tk i = .live q.κ := upd_same ..; have tkj : ∀ j, j ≠ i → (σ.woke R i q.κ js').tk j = σ.tk j := fun j h => upd_ne _ _ h
  have hnd := g.nodup; rw [hjs] at hnd; have hij : i ∉ js' := (List.nodup_cons.1 hnd).1
  have hU : ∀ j, j < R.n → ∀ a, ((σ.woke R i q.κ js').tk j).U R j a → j ≠ i ∧ (σ.tk j).U R j a := fun j hj a u => by
    by_cases e : j = i
    · rw [e, tki] at u; exact u.elim
    · rw [tkj j e] at u; exact ⟨e, u⟩
  have hP : ∀ j q', (σ.woke R i q.κ js').tk j = .parked q' → j ≠ i ∧ σ.tk j = .parked q' := fun j q' hq => by
    by_cases e : j = i
    · rw [e, tki] at hq; cases hq
    · rw [tkj j e] at hq; exact ⟨e, hq⟩
  exact { sub := g.sub
          st := fun y hy => by have := g.st y hy; exact ⟨this.1, this.2.1, by omega, this.2.2.2⟩
          N := by omega
          ow := fun j hj a u => by have := g.ow j hj a (hU j hj a u).2; exact ⟨this.1, by omega⟩
          dj := fun j hj j' hj' hne a b u u' hNa => g.dj j hj j' hj' hne a b (hU j hj a u).2 (hU j' hj' b u').2 hNa
          su := fun y hy j hj a u => by
            have h1 := hU j hj a (TSt.v_u u); rw [tkj j h1.1] at u; exact g.su y hy j hj a u
          xu := fun j hj q' hq j' hj' a u => g.xu j hj q' (hP j q' hq).2 j' hj' a (hU j' hj' a u).2
          pk := fun j hj q' hq => by
            have hk := (g.px j hj i hi (hP j q' hq).1 q' q (hP j q' hq).2 hf).2; obtain ⟨h1, h2, h3, h4, h5, h6, h7, h8, h9, h10, h11, h12, h13⟩ := g.pk j hj q' (hP j q' hq).2; exact ⟨h1, h2, (upd_ne _ _ hk).trans ((upd_ne _ _ (by omega)).trans h3), h4, h5, h6, h7, h8, h9, h10, h11, by omega, h13⟩
          px := fun j hj j' hj' hne q' q'' hq hq' => g.px j hj j' hj' hne q' q'' (hP j q' hq).2 (hP j' q'' hq').2
          inb := fun gg s hs h0 => by
            have hs' : upd (upd σ.Inb 0 (some (seat0 R.wch R.ech (HomeA R.A R.wch R.ech (R.cR :: R.csR))))) q.κ none gg = some s := hs
            by_cases e : gg = q.κ
            · rw [e, upd_same] at hs'; cases hs'
            · rw [upd_ne _ _ e, upd_ne _ _ h0] at hs'
              obtain ⟨j, q', hj, hq, hk⟩ := g.inb gg s hs' h0
              have hji : j ≠ i := fun z => by
                rw [z, hf] at hq; have := TSt.parked.inj hq; exact e (by rw [← hk, ← this])
              exact ⟨j, q', hj, by rw [tkj j hji]; exact hq, hk⟩
          stl := fun gg y hs hy => by
            have hs' : (upd (upd σ.Inb 0 (some (seat0 R.wch R.ech (HomeA R.A R.wch R.ech (R.cR :: R.csR))))) q.κ none gg).isSome := hs; have hy' : upd σ.St 0 (StL (plA R.A R.wch R.ech)) gg y := hy
            by_cases e : gg = q.κ
            · rw [e, upd_same] at hs'; cases hs'
            · rw [upd_ne _ _ e] at hs'
              by_cases h0 : gg = 0
              · subst h0
                rw [upd_same] at hy'; obtain ⟨z, hz, rfl⟩ := hy'; exact ⟨z, pl_A g z hz, rfl⟩
              · rw [upd_ne _ _ h0] at hs' hy'
                exact g.stl gg y hs' hy'
          nodup := (List.nodup_cons.1 hnd).2
          mem := fun j => by
            show j ∈ js' ↔ _
            by_cases e : j = i
            · rw [e, tki]; simp [TSt.wt, hij]
            · rw [tkj j e, ← g.mem j, hjs]; simp [e]
          nb9 := by
            show σ.nb + (js'.map fun j => (upd σ.tk i (.live q.κ) j).fr).sum ≤ 9
            rw [sum_upd _ _ _ hij]; have := g.nb9; unfold Gs.fr at this; rw [hjs, List.map_cons, List.sum_cons, hf, show (TSt.parked q).fr = 0 from rfl] at this; omega
          ng0 := g.ng0
          en := fun j hj gc wp he => by
            by_cases e : j = i
            · rw [e, tki] at he; cases he
            · rw [tkj j e] at he; exact g.en j hj gc wp he }

theorem wake_t (H : RnOk R) (w : World) (en ev : Value) (m : List Value) (g0 : Goroutine) (hwt : σ.wt = Λ) (g : Good R σ w.heap.size) (hlv : ∀ j, j < R.n → (σ.tk j).lv = false) (hI0 : σ.Inb 0 = none) (hL : σ.L = σ.pk) (HW : HeadW R σ w en ev m) (hrs : ∀ j, j < R.n → ∀ q, σ.tk j = .parked q → Res R Post Λ j q) (hgd : Hd39 R.A (R.cR :: R.csR) g0)
    (js' : List Nat) (hjs : σ.js = i :: js') (hf : σ.tk i = .parked q) : AtG R Post σ 0 g0 w := by
  have hg := H.gb'; have hn := H.gne; have hl := H.l1; have i0 := H.i0; have hi : i < R.n := ((g.mem i).1 (by rw [hjs]; simp)).1; have hc := H.cb' hi; have hce := H.ce hi; have hNw := HW.N; have hnb0 := g.nb9; have hnb9 : σ.nb ≤ 9 := by omega
  have GG := kg_gk H g.a5; have hnd := g.nodup; rw [hjs] at hnd; have hij : i ∉ js' := (List.nodup_cons.1 hnd).1; obtain ⟨p1, p2, p3, p4, p5, p6, p7, p8, p9, p10, p11, p12, p13, p14, p15⟩ := g.pk i hi q hf; have hxw : q.x < w.heap.size := (g.st _ p1).2.2.1
  have hwt2 : (js'.map fun j => (σ.tk j).wt).sum + 1 = Λ := by
    have := hwt; unfold Gs.wt at this; rw [hjs, List.map_cons, List.sum_cons, hf, show (TSt.parked q).wt = 1 from rfl] at this; omega
  have hpk2 : (js'.map fun j => (σ.tk j).pk).sum + 1 = σ.pk := by
    unfold Gs.pk; rw [hjs, List.map_cons, List.sum_cons, hf, show (TSt.parked q).pk = 1 from rfl]; omega
  have hcnt := HW.cnt; rw [hwt] at hcnt; refine At3.assume GG (fun hK hQ => ?_); refine At3.turn (Q' := QG R (upd σ.tk i (.live q.κ))) qg_live ?_; have t1 : upd σ.tk i (.live q.κ) i = .live q.κ := upd_same ..; have t2 : ∀ j, j ≠ i → upd σ.tk i (.live q.κ) j = σ.tk j := fun j h => upd_ne _ _ h
  have F0 : Fut Tryz.prog true (DX (OkG R σ.st (upd σ.tk i (.live q.κ)))) (At3 Tryz.prog Post (KG R σ.st) (QG R (upd σ.tk i (.live q.κ))) (ShL R.l) σ.St σ.Inb (grp R.A) σ.L σ.nb 0 σ.ng 0) := futG H hnb9 g.a5 g.stl 0; have hent := HW.ent; rw [hjs, List.map_cons, show ent R σ.tk i = (q.t, .func (.func 144) #[.pointer (some ⟨q.x, 0, none⟩)] #[]) from by unfold ent; rw [hf]; rfl] at hent; obtain ⟨v0, ha0⟩ := HW.a0
  have hown : Keeps (fun a => q.U R i a ∨ a = ⟨q.x, 1, none⟩) q.wp w := by
    have := hQ.2 i hi; rw [hf] at this; exact this
  have hUN : ∀ a, q.U R i a → R.own0 i a ∨ R.N ≤ a.block := fun a u => (g.ow i hi a (by rw [hf]; exact u)).1
  have hUx : ∀ a, q.U R i a → a.block ≠ q.x := fun a u => g.xu i hi q hf i hi a (by rw [hf]; exact u)
  have hUA : ∀ a, (q.U R i a ∨ a = ⟨q.x, 1, none⟩) → a ∉ [(⟨R.A, 0, none⟩ : Addr), ⟨R.A, 1, none⟩] := fun a u z => by
    have e : a.block = R.A := by simp at z; rcases z with rfl | rfl <;> rfl
    rcases u with u | u
    · rcases hUN a u with y | y
      · exact a_own H hi y z
      · omega
    · have := congrArg Addr.block u; dsimp only at this; omega
  refine pop_u F0 R.N1 R.A (R.cR :: R.csR) q.t 144 _ _ _ _ en v0 g0 w hgd Tryz.func144 (by rfl) (by rfl) hent (by omega) (by omega) ha0 HW.z0 HW.a1 HW.z1 (g.a1w H t1 t2 (.inr rfl) _) (g.a1w H t1 t2 (.inr rfl) _) (g.a1w H t1 t2 (.inl rfl) _) (fun a h => ok_live (HW.rok a false (.inl h))) (fun a wr h => g.okn H t1 t2 h wr) (fun fr w1 en1 hB k1 b0 z0 b1 z1 he1 hr1 => ?_); have k1s := k1.size; have U1 : Keeps R.UG R.wR w1 := hQ.1.kp k1 (fun a ha => ⟨by simp, a_ug ha⟩); have O1 : Keeps (fun a => q.U R i a ∨ a = ⟨q.x, 1, none⟩) q.wp w1 := hown.kp k1 (fun a ha => ⟨by simp, hUA a ha⟩); have rd : ∀ (b o : Nat), o ≠ 5 → o ≠ 6 → OkG R σ.st (upd σ.tk i (.live q.κ)) ⟨b, o, none⟩ false := fun b o h5 h6 => ⟨sh_off h5 h6, fun h => by cases h⟩
  have hTug : ∀ o, o ≠ 7 → R.UG ⟨R.T i, o, none⟩ := fun o ho => ug_cb H hi (by simp [Rn.cb]) (fun _ => ho)
  have hx0w : w1.cell? ⟨q.x, 0, none⟩ = some (.pointer (some ⟨R.T i, 0, none⟩)) := k1.cellC _ _ (by simp) (by simp <;> omega) (hK.2.1.1 _ p1)
  have ox1 : OkG R σ.st (upd σ.tk i (.live q.κ)) ⟨q.x, 1, none⟩ true := by
    refine ⟨sh_off (by decide) (by decide), fun _ => ⟨by show _ ≤ q.x; omega, fun ⟨y, hy, e⟩ => ?_, fun u => by have : q.x < R.N := u.2.1; omega, fun j hj o => ?_⟩⟩
    · simp only [Loc.cell.injEq] at e
      have := (g.st y hy).1; rw [← e] at this; simp at this
    · by_cases e : j = i
      · rw [e, upd_same] at o; exact o
      · rw [upd_ne _ _ e] at o
        have hU' : ∀ b, (σ.tk j).U R j b → b = ⟨q.x, 1, none⟩ → False := fun b hb eb => g.xu i hi q hf j hj b hb (congrArg Addr.block eb)
        rcases TSt.any (σ.tk j) with ej | ⟨q', ej⟩ | ⟨k, ej⟩ | ⟨u, v, ej⟩
        · rw [ej] at o hU'; exact hU' _ o rfl
        · rw [ej] at o hU'
          rcases o with o | o
          · exact hU' _ o rfl
          · exact (g.px i hi j hj (Ne.symm e) q q' hf ej).1 (congrArg Addr.block o)
        · rw [ej] at o; exact o
        · rw [ej] at o hU'; exact hU' _ o rfl
  refine wake_u F0 R.A (R.T i) q.x R.wch R.ech (R.tch i) fr (R.cR :: R.csR) w1 hB hx0w (O1 _ _ (.inr rfl) p13.1).1 ((O1 _ _ (.inr rfl) p13.1).2.trans p13.2) (U1 _ _ (hTug 0 (by decide)) (H.vT0 i hi)).1 (U1 _ _ (hTug 3 (by decide)) (H.vT3 i hi)).1 (rd _ _ (by decide) (by decide)) (rd _ _ (by decide) (by decide)) ox1 (rd _ _ (by decide) (by decide)) (rd _ _ (by decide) (by decide)) (by omega) (fun a w2 ⟨hrun, hsend, hway⟩ k2 => ?_); have k2s := k2.size; refine At3.assume GG (fun hK2 hQ2 => ?_); have hcc : ∀ c' ∈ R.cc, ∃ k', w2.heap[c']? = some (.chan 0 #[] false k' k' false) := hK2.2.1.2; have hti : R.tch i ∈ R.cc := by simp [Rn.cc]; exact .inr (.inr ⟨i, hi, rfl⟩)
  obtain ⟨nh, hgo⟩ := hway (KG R σ.st) (StL (plA R.A R.wch R.ech)) w2.heap.size w2 (fun w h y hy => h.2.1.1 y (pl_A g y hy)) (fun y hy => ⟨⟨y, hy, rfl⟩, by have := (g.st y (pl_A g y hy)).2.2.1; omega⟩)
  have hts : ∀ y ∈ σ.st, y.1.block ≠ R.tch i := fun y hy => by
    rcases (g.st y hy).2.2.2 with z | z
    · rcases st0_blk z with ⟨z, _⟩ | ⟨j, hj, z⟩
      · omega
      · rw [z]; exact Ne.symm (H.Tother hi hj (by simp [Rn.cb]) (Ne.symm hce.1))
    · omega
  refine At3.give_sit (Q' := QG R (upd σ.tk i (.live q.κ))) (j := q.κ) (c := R.tch i) (kk := 0) (s := seat1 (R.tch i) q.c q.cs) (v := .int .i64 1) (a₂ := a) GG hnb9
    { kc := fun w k h => kg_chan H (by omega) (by omega) hts hti h
      jh := by omega
      jn := p5
      hj := p3
      hk := ⟨_, rfl⟩
      run := hrun
      send := ⟨.tuple #[], #[], fun d m _ => hsend _, by simp⟩
      ch := hcc _ hti } (sh := seat0 R.wch R.ech (HomeA R.A R.wch R.ech (R.cR :: R.csR))) (Sth := StL (plA R.A R.wch R.ech)) (nh := nh + 1) (seat0_wf H.gne2 _) (fun l hl' => ⟨stl_mem hl', fun z => ?_⟩) (.inl ⟨nh, w2, rfl, hgo⟩) (fun c' hc' => ?_) (fun g' s' c' h1 h2 h3 h4 h5 => ?_) (fun k' g₂ hch hh hQ' => ?_) (fun k' hch hQ' => ?_)
  · obtain ⟨y, hy, rfl⟩ := hl'
    simp only [plA, List.mem_cons, List.not_mem_nil, or_false] at hy; rcases hy with rfl | rfl <;> exact sh_off (by decide) (by decide) z
  · rcases seat0_has hc' with rfl | rfl
    · exact hcc _ (by simp [Rn.cc])
    · exact hcc _ (by simp [Rn.cc])
  · obtain ⟨j, q', hj, hq, hk, he⟩ := g.inj H h1 h3 h5
    have := (H.cb' hj).2.1; rcases seat0_has h4 with e | e <;> omega
  · -- the task goes on
    have kc : Kp [] w2 (w2.setChan (R.tch i) 0 #[] false (k' + 1) (k' + 1) false) := Kp.chan hch; have hsz3 : (w2.setChan (R.tch i) 0 #[] false (k' + 1) (k' + 1) false).heap.size = w2.heap.size := size_chan ..; have hK3 : Old R.wI (w2.setChan (R.tch i) 0 #[] false (k' + 1) (k' + 1) false) := old_chan (by omega) hK2.1; generalize w2.setChan (R.tch i) 0 #[] false (k' + 1) (k' + 1) false = w3 at kc hsz3 hK3 ⊢; have k13 : Kp [] w1 w3 [⟨q.x, 1, none⟩] := k2.callN kc (by simp) (by simp); have k03 : Kp [] w w3 [⟨R.A, 0, none⟩, ⟨R.A, 1, none⟩, ⟨q.x, 1, none⟩] := Kp.callN (k1.old (by simp) (fun y hy => .inl (by simp at hy ⊢; rcases hy with h | h; exact .inl h; exact .inr (.inl h)))) k13 (by simp) (fun y hy => .inl (by simp at hy ⊢; exact .inr (.inr hy))); have k3s := k13.size
    have hUGx : ∀ a, R.UG a → a ∉ [(⟨q.x, 1, none⟩ : Addr)] := fun a ha z => by
      simp at z
      have := ha.2.1; rw [z] at this; dsimp only at this; omega
    have U3 : Keeps R.UG R.wR w3 := U1.kp k13 (fun a ha => ⟨by simp, hUGx a ha⟩); have O3 : Keeps (q.U R i) q.wp w3 := Keeps.kp (O1.sub (fun a u => .inl u)) k13 (fun a u => ⟨by simp, fun z => hUx a u (by simp at z; rw [z])⟩); have hκ : (q.κ == 0) = false := by simp; omega
    have G1 : Good R (σ.woke R i q.κ js') w3.heap.size := good_wake H g hi hjs hf (by omega); have F1 := futG (Post := Post) H (st := σ.st) (tk := upd σ.tk i (.live q.κ)) (L := σ.L) (n := σ.ng) (dl := 0) (Inb := (σ.woke R i q.κ js').Inb) (St := (σ.woke R i q.κ js').St) hnb9 g.a5 G1.stl q.κ; rw [hκ] at F1; refine hh (fun g => At3 Tryz.prog Post (KG R σ.st) (QG R (upd σ.tk i (.live q.κ))) (ShL R.l) (σ.woke R i q.κ js').St (σ.woke R i q.κ js').Inb (grp R.A) σ.L σ.nb q.κ σ.ng 0 g w3) (cf_fut F1 w3) ?_; obtain ⟨ν, rfl⟩ : ∃ ν, Λ = ν + 1 := ⟨Λ - 1, by omega⟩; have hJA : ∀ o, (⟨R.J, o, none⟩ : Addr) ∉ [(⟨R.A, 0, none⟩ : Addr), ⟨R.A, 1, none⟩, ⟨q.x, 1, none⟩] := fun o z => by simp at z <;> omega
    obtain ⟨kk, hkl, hrow⟩ := HW.row; have hrokx : ∀ g', g' ∈ rowL en ∨ g' ∈ rowL ev → g' ≠ q.x := fun g' h e => ((HW.rok ⟨q.x, 0, none⟩ true (by rw [← e]; exact h)).2 rfl).2.1 ⟨_, p1, rfl⟩
    have hrokU : ∀ a, q.U R i a → a.block ∉ rowL en ∧ a.block ∉ rowL ev := fun a u => by
      have hn' : ¬ (a.block ∈ rowL en ∨ a.block ∈ rowL ev) := fun h => ((HW.rok a true h).2 rfl).2.2.2 i hi (by rw [hf]; exact .inl u)
      exact ⟨fun z => hn' (.inl z), fun z => hn' (.inr z)⟩
    have hrA : ∀ g' ∈ rowL ev, ∀ y ∈ [(⟨R.A, 0, none⟩ : Addr), ⟨R.A, 1, none⟩, ⟨q.x, 1, none⟩], y.block ≠ g' := fun g' hg' y hy e => by
      have h1 := (row_ge hrow hg').1; have h2 := hrokx g' (.inr hg')
      simp at hy
      rcases hy with rfl | rfl | rfl <;> (dsimp only at e; omega)
    have hes : js'.map (ent R (upd σ.tk i (.live q.κ))) = js'.map (ent R σ.tk) := ent_upd _ _ hij; have rok2 : ∀ (a : Addr) (wr : Bool), a.block ∈ rowL en1 ∨ a.block ∈ rowL ev → OkG R σ.st (upd σ.tk i (.live q.κ)) a wr := fun a wr h => ok_live (HW.rok a wr (h.imp (hr1 _) id))
    have G1t1 : (σ.woke R i q.κ js').tk i = .live q.κ := upd_same ..; have TOK := G1.tok H hi (tk1 := (σ.woke R i q.κ js').tk) G1t1 (fun _ _ => rfl) p6 (M0 := q.M0) (X := q.X) (bt := q.bt) p8 p9; have hUX : q.U R i ⟨q.X, 0, none⟩ := .inr (.inl rfl); have hUb : q.U R i ⟨q.bt, 0, none⟩ := .inr (.inr (.inl rfl)); have hXr := hrokU _ hUX; have hbr := hrokU _ hUb; have hU7 : q.U R i ⟨R.T i, 7, none⟩ := .inl (.inr (.inr rfl)); have hcb := rok_cb H hi (fun a ha => rok2 a true (.inl ha))
    have TWW : TW (eT R i q.M0 q.X q.bt) (OkG R σ.st (upd σ.tk i (.live q.κ))) w3 q.t en1 ev (js'.map (ent R σ.tk)) m :=
      G1.tw H hi U3 (by omega) (by omega) ⟨(O3 _ _ hU7 p14.1).1, (O3 _ _ hU7 p14.1).2.trans p14.2⟩ (k13.cellC _ _ (by simp) (by simp <;> omega) b0) ((k13.frozC _ _ (by simp) (by simp <;> omega) b0).trans z0) (k13.cellC _ _ (by simp) (by simp <;> omega) b1) ((k13.frozC _ _ (by simp) (by simp <;> omega) b1).trans z1) (k03.cellC _ _ (by simp) (hJA _) HW.j0) ((k03.frozC _ _ (by simp) (hJA _) HW.j0).trans HW.zj)
        (k13.ents he1 (fun g' hg' => ⟨by simp, fun y hy e => hrokx g' (.inl (hr1 g' hg')) (by simp at hy; rw [← e, hy])⟩)) ⟨kk, hkl, k03.row hrow fun g' hg' => ⟨by simp, hrA g' hg'⟩⟩ (fun g' h1 h2 => HW.sep g' h1 (hr1 g' h2)) rok2 hcb ⟨fun z => hXr.1 (hr1 _ z), hXr.2⟩ ⟨fun z => hbr.1 (hr1 _ z), hbr.2⟩
    have hlen : js'.length ≤ (js'.map fun j => (σ.tk j).wt).sum := len_le js' _ (fun j hj => ((g.mem j).1 (by rw [hjs]; exact List.mem_cons_of_mem _ hj)).2); have n9 := H.n9
    have hwtB : (σ.woke R i q.κ js').wt = ν := by
      show (js'.map fun j => (upd σ.tk i (.live q.κ) j).wt).sum = ν
      rw [sum_upd _ _ _ hij]; omega
    let P : Ph Gs := { Ok := OkG R σ.st (upd σ.tk i (.live q.κ)), M := w3.heap.size, es := js'.map (ent R σ.tk), cn := 2 * R.n - (ν + 1), sd := true, σ := σ.woke R i q.κ js' }
    have hpt : ∀ j q', (σ.woke R i q.κ js').tk j = .parked q' → j ≠ i ∧ σ.tk j = .parked q' := fun j q' hq => by
      have hq' : upd σ.tk i (.live q.κ) j = .parked q' := hq
      by_cases e : j = i
      · rw [e, upd_same] at hq'; cases hq'
      · rw [upd_ne _ _ e] at hq'; exact ⟨e, hq'⟩
    have CP : CohP R i q.κ q.bg q.X q.bt q.M0 P :=
      { ok := rfl, good := G1, lv := G1t1
        oth := fun j hj e => by show (upd σ.tk i (.live q.κ) j).lv = false; rw [upd_ne _ _ e]; exact hlv j hj
        es := hes.symm
        cn := by show 2 * R.n - (ν + 1) + 1 + (σ.woke R i q.κ js').wt = 2 * R.n; omega
        i0 := (upd_ne _ _ (by omega)).trans (upd_same σ.Inb 0 (some (seat0 R.wch R.ech (HomeA R.A R.wch R.ech (R.cR :: R.csR)))))
        κ0 := p4
        κn := p5
        κp := fun j hj q' hq => (g.px j hj i hi (hpt j q' hq).1 q' q (hpt j q' hq).2 hf).2
        L := by
          show σ.L = (js'.map fun j => (upd σ.tk i (.live q.κ) j).pk).sum + 1
          rw [sum_upd _ _ _ hij, hpk2, hL]
        bg := p15
        bx := fun j hj e a u => by
          have u' : (upd σ.tk i (.live q.κ) j).U R j a := u; rw [upd_ne _ _ e] at u'; have h1 := g.dj i hi j hj (Ne.symm e) ⟨q.X, 0, none⟩ a (by rw [hf]; exact hUX) u' p8.1; have h2 := g.dj i hi j hj (Ne.symm e) ⟨q.bt, 0, none⟩ a (by rw [hf]; exact hUb) u' p9.1; exact ⟨Ne.symm h1, Ne.symm h2⟩
        xx := fun j hj q' hq => by
          have h1 := g.xu j hj q' (hpt j q' hq).2 i hi ⟨q.X, 0, none⟩ (by rw [hf]; exact hUX); have h2 := g.xu j hj q' (hpt j q' hq).2 i hi ⟨q.bt, 0, none⟩ (by rw [hf]; exact hUb); exact ⟨Ne.symm h1, Ne.symm h2⟩
        bN := ⟨p8, p9⟩
        sM := fun h => by cases h }
    have ugS : ∀ a u, R.UG a → R.wR.cell? a = some u → ∀ v, q.wp.cell? a = some v → w3.cell? a = some v ∧ w3.frozen? a = q.wp.frozen? a := fun a u hu hv v hv' => by
      obtain ⟨e1, e2⟩ := p11 a u hu hv; obtain ⟨e3, e4⟩ := U3 a u hu hv; rw [e1] at hv'; rw [← Option.some.inj hv']; exact ⟨e3, e4.trans e2.symm⟩
    have RT : RelyT R i q P w3 en1 ev m :=
      { ok := TOK, tw := TWW
        cnt := by show m.length = 5 * (2 * R.n - (ν + 1)); omega
        sz := Nat.le_refl _
        e9 := by show (js'.map (ent R σ.tk)).length < 900; rw [List.length_map]; omega
        c9 := by show 2 * R.n - (ν + 1) < 900; omega
        row := fun a ha => by
          have := (stt_sb (M0 := q.M0) H hi a ha p8.1 p9.1).1; exact ⟨fun z => TWW.enS _ z this, fun z => TWW.evS _ z this⟩
        temp := fun b b1' b2' b3' b4' b5' => by
          have hV : ∀ a : Addr, a.block = b → q.U R i a := fun a e => .inr (.inr (.inr ⟨by rw [e]; exact b2', by rw [e]; exact b3', by rw [e]; exact b4', by rw [e]; exact b5', by rw [e]; exact b1'⟩))
          have hbr' := hrokU ⟨b, 0, none⟩ (hV _ rfl); refine ⟨fun o v hv => O3 _ _ (hV _ rfl) hv, fun z => hbr'.1 (hr1 _ z), hbr'.2, fun a wr e => ?_⟩
          show OkG R σ.st (upd σ.tk i (.live q.κ)) a wr
          refine ⟨sh_blk H (by omega) (by omega), fun _ => ⟨by omega, fun ⟨y, hy, e'⟩ => ?_, fun u => by have := u.2.1; omega, fun j hj o => ?_⟩⟩
          · simp only [Loc.cell.injEq] at e'
            exact g.su y hy i hi a (by rw [hf]; exact ⟨by rw [e]; exact b2', by rw [e]; exact b3', by rw [e]; exact b4', by rw [e]; exact b5', by rw [e]; exact b1'⟩) (congrArg Addr.block e')
          · by_cases ej : j = i
            · rw [ej, upd_same] at o; exact o
            · rw [upd_ne _ _ ej] at o
              have hU' : ∀ a', (σ.tk j).U R j a' → a' = a → False := fun a' ha' ea => by
                subst ea; exact g.dj i hi j hj (Ne.symm ej) a' a' (by rw [hf]; exact hV _ e) ha' (by omega) rfl
              rcases TSt.any (σ.tk j) with et | ⟨q', et⟩ | ⟨k, et⟩ | ⟨u, v, et⟩
              · rw [et] at o hU'; exact hU' a o rfl
              · rw [et] at o hU'
                rcases o with o | o
                · exact hU' a o rfl
                · exact g.xu j hj q' et i hi a (by rw [hf]; exact hV _ e) (congrArg Addr.block o)
              · rw [et] at o; exact o
              · rw [et] at o hU'; exact hU' a o rfl
        stat := fun a v ha hv => by
          rcases ha with rfl | ha | ha | rfl | rfl
          · have h1 := old_cells p10 (a := ⟨0, 0, none⟩) i0
            have h2 := old_cells hK3 (a := ⟨0, 0, none⟩) i0; exact ⟨(h2.1.trans h1.1.symm).trans hv, h2.2.trans h1.2.symm⟩
          · simp only [List.mem_cons, List.not_mem_nil, or_false] at ha
            rcases ha with rfl | rfl | rfl | rfl | rfl
            · exact ugS _ _ (ug_gb H (.inl rfl)) H.vB1 v hv
            · exact ugS _ _ (ug_gb H (.inl rfl)) H.vB2 v hv
            · exact ugS _ _ (ug_gb H (.inr (.inl rfl))) H.vbo v hv
            · exact ugS _ _ (ug_gb H (.inr (.inr rfl))) H.vbl v hv
            · exact ugS _ _ (ug_cb H hi (by simp [Rn.cb]) (fun e => absurd e.symm hce.2.1)) (H.vbi i hi) v hv
          · exact O3 _ _ (.inl (.inl ha)) hv
          · exact O3 _ _ hUX hv
          · exact O3 _ _ hUb hv
        size := by omega }
    exact (hrs i hi q hf).2 P w3 en1 ev m rfl hwtB CP (fun j hj q' hq => (hrs j hj q' (hpt j q' hq).2).1) RT
  · exact ⟨keeps_chan hQ'.1 hch, fun j hj => keeps_chan (hQ'.2 j hj) hch⟩
end
end Go.Proofs.YtobagnjnbmgidaaGreatDoor
