/- A task begins to wait: what has come about then. -/
import Derived.Test.YtobagnjnbmgidaaGreatDoorV15
set_option linter.unusedSimpArgs false
set_option linter.unusedVariables false
set_option maxHeartbeats 8000000
set_option maxRecDepth 100000
namespace Go.Proofs.YtobagnjnbmgidaaGreatDoor
section
open Go.Conc Go.RowKit
open Go.ConcN (sumTo upd sumTo_upd upd_ne upd_same)

/-- The places that a task on its way to its seat reads. -/
def plT (R : Rn) (i x : Nat) : List (Addr × Value) := [(⟨x, 0, none⟩, .pointer (some ⟨R.T i, 0, none⟩)), (⟨R.T i, 3, none⟩, .chan (some (R.tch i)))]
def Gs.park (σ : Gs) (R : Rn) (i k : Nat) (q : Pk) : Gs := { st := (⟨q.x, 0, none⟩, .pointer (some ⟨R.T i, 0, none⟩)) :: σ.st, ng := σ.ng, L := σ.L, nb := σ.nb, Inb := upd (upd σ.Inb q.κ (some (seat1 (R.tch i) q.c q.cs))) 0 none, St := upd σ.St q.κ (StL (plT R i q.x)), tk := upd σ.tk i (.parked q), js := σ.js.take k ++ i :: σ.js.drop k }

section
variable {R : Rn} {Post : Value → World → Prop} {σ : Gs} {Λ i κ bg X bt M0 M : Nat} {p : Ph Gs}
theorem own0_lt (H : RnOk R) {j : Nat} (hj : j < R.n) {a : Addr} (o : R.own0 j a) : R.wI.heap.size ≤ a.block ∧ a.block < R.N ∧ a.block ∈ 0 :: R.gb ++ R.cb j ++ [X, bt] := by
  have hg := H.gb'; have hl := H.l1; have hc := (H.cb' hj).1; rcases o with o | o | o
  · have := (out_blk o).1
    rw [this]; exact ⟨by omega, by omega, by simp [Rn.gb]⟩
  · subst o
    exact ⟨by show _ ≤ R.HD; omega, by show R.HD < _; omega, by simp [Rn.gb]⟩
  · subst o
    exact ⟨by show _ ≤ R.T j; omega, hc.2, by simp [Rn.cb]⟩
theorem TSt.v_u {R : Rn} {j : Nat} {s : TSt} {a : Addr} (h : s.V a) : s.U R j a := by
  rcases TSt.any s with rfl | ⟨q, rfl⟩ | ⟨k, rfl⟩ | ⟨u, v, rfl⟩
  · exact h.elim
  · exact .inr (.inr (.inr h))
  · exact h.elim
  · exact h.elim
theorem CohP.nin (C : CohP R i κ bg X bt M0 p) : i ∉ p.σ.js := fun z => by have := ((C.good.mem i).1 z).2; rw [C.lv] at this; simp [TSt.wt] at this
theorem st0_T {j : Nat} (hj : j < R.n) : (⟨R.T j, 3, none⟩, Value.chan (some (R.tch j))) ∈ R.st0 := by simp [Rn.st0]; exact .inr ⟨j, hj, rfl, rfl⟩

theorem good_park (H : RnOk R) (C : CohP R i κ bg X bt M0 p) (hi : i < R.n) (hsd : p.sd = false) {x k : Nat} {t : Int} {c : Frame} {cs : List Frame} {en ev : Value} {w : World} (hx : M0 ≤ x) (hxw : x < w.heap.size) (hO : Old R.wI w) (hU : Keeps R.UG R.wR w) (x1 : w.cell? ⟨x, 1, none⟩ = some (.int .i64 0) ∧ w.frozen? ⟨x, 1, none⟩ = false) (t7 : w.cell? ⟨R.T i, 7, none⟩ = some (.bool false) ∧ w.frozen? ⟨R.T i, 7, none⟩ = false) : Good R (p.σ.park R i k ⟨κ, x, t, c, cs, M0, X, bt, bg, en, ev, w⟩) w.heap.size := by
  have g := C.good; have hMM := C.sM hsd; obtain ⟨⟨bX1, bX2⟩, bt1, bt2⟩ := C.bN; have hN : R.N ≤ M0 := by omega
  have hNM := g.N; have hI : R.wI.heap.size ≤ R.N := by have := H.gb'; have := H.l1; omega
  have hij := C.nin; have tki : (p.σ.park R i k ⟨κ, x, t, c, cs, M0, X, bt, bg, en, ev, w⟩).tk i = .parked ⟨κ, x, t, c, cs, M0, X, bt, bg, en, ev, w⟩ := upd_same ..; have tkj : ∀ j, j ≠ i → (p.σ.park R i k ⟨κ, x, t, c, cs, M0, X, bt, bg, en, ev, w⟩).tk j = p.σ.tk j := fun j h => upd_ne _ _ h
  have hUi : ∀ a, Pk.U R i ⟨κ, x, t, c, cs, M0, X, bt, bg, en, ev, w⟩ a → (R.own0 i a ∨ R.N ≤ a.block) ∧ a.block < w.heap.size ∧ (R.N ≤ a.block → a.block = X ∨ a.block = bt ∨ (M0 ≤ a.block ∧ a.block ≠ x)) := fun a u => by
    rcases u with u | u | u | u
    · have := own0_lt (X := X) (bt := bt) H hi u
      exact ⟨.inl u, by omega, fun z => by omega⟩
    · subst u; exact ⟨.inr bX1, by show X < _; omega, fun _ => .inl rfl⟩
    · subst u; exact ⟨.inr bt1, by show bt < _; omega, fun _ => .inr (.inl rfl)⟩
    · exact ⟨.inr (by have := u.1; dsimp only at this; omega), u.2.1, fun _ => .inr (.inr ⟨u.1, u.2.2.2.2⟩)⟩
  exact { sub := fun y hy => List.mem_cons_of_mem _ (g.sub y hy)
          st := fun y hy => by
            rcases List.mem_cons.1 hy with rfl | hy
            · exact ⟨.inl rfl, by show _ ≤ x; omega, hxw, .inr (by show _ ≤ x; omega)⟩
            · have := g.st y hy; exact ⟨this.1, this.2.1, by omega, this.2.2.2⟩
          N := by omega
          ow := fun j hj a u => by
            by_cases e : j = i
            · subst e; rw [tki] at u; exact ⟨(hUi a u).1, (hUi a u).2.1⟩
            · rw [tkj j e] at u; have := g.ow j hj a u; exact ⟨this.1, by omega⟩
          dj := fun j hj j' hj' hne a b u u' hNa => by
            by_cases e : j = i
            · subst e
              rw [tki] at u; rw [tkj j' (Ne.symm hne)] at u'; have h1 := (hUi a u).2.2 hNa; have h2 := (g.ow j' hj' b u').2; have h3 := C.bx j' hj' (Ne.symm hne) b u'; omega
            · rw [tkj j e] at u
              have h2 := (g.ow j hj a u).2; have h3 := C.bx j hj e a u
              by_cases e' : j' = i
              · subst e'
                rw [tki] at u'; intro hab; have h1 := (hUi b u').2.2 (by omega); omega
              · rw [tkj j' e'] at u'; exact g.dj j hj j' hj' hne a b u u' hNa
          su := fun y hy j hj a u => by
            rcases List.mem_cons.1 hy with rfl | hy
            · show a.block ≠ x
              by_cases e : j = i
              · rw [e, tki] at u
                exact u.2.2.2.2
              · rw [tkj j e] at u
                have h2 := (g.ow j hj a (TSt.v_u u)).2; omega
            · have h2 := (g.st y hy).2.2.1
              by_cases e : j = i
              · rw [e, tki] at u
                have h1 : M0 ≤ a.block := u.1; omega
              · rw [tkj j e] at u; exact g.su y hy j hj a u
          xu := fun j hj q hq j' hj' a u => by
            by_cases e : j = i
            · rw [e, tki] at hq
              cases hq
              show a.block ≠ x
              by_cases e' : j' = i
              · rw [e', tki] at u
                have h1 := hUi a u; omega
              · rw [tkj j' e'] at u
                have h2 := (g.ow j' hj' a u).2; omega
            · rw [tkj j e] at hq
              by_cases e' : j' = i
              · rw [e', tki] at u
                have h1 := hUi a u; have h2 := (g.st _ (g.pk j hj q hq).1).2.2.1; have h3 := (g.pk j hj q hq).2.1; have h4 := C.xx j hj q hq; dsimp only at h2; omega
              · rw [tkj j' e'] at u; exact g.xu j hj q hq j' hj' a u
          pk := fun j hj q hq => by
            by_cases e : j = i
            · subst e
              rw [tki] at hq; cases hq
              have hκ := C.κ0; exact ⟨List.mem_cons_self .., by show _ ≤ x; omega, (upd_ne _ _ (by show κ ≠ 0; omega)).trans (upd_same ..), C.κ0, C.κn, hN, by show M0 ≤ w.heap.size; omega, ⟨bX1, bX2⟩, ⟨bt1, bt2⟩, hO, hU, Nat.le_refl _, x1, t7, List.mem_cons_of_mem _ C.bg⟩
            · rw [tkj j e] at hq
              obtain ⟨h1, h2, h3, h4, h5, h6, h7, h8, h9, h10, h11, h12, h13, h14, h15⟩ := g.pk j hj q hq; exact ⟨List.mem_cons_of_mem _ h1, h2, (upd_ne _ _ (by omega)).trans ((upd_ne _ _ (C.κp j hj q hq)).trans h3), h4, h5, h6, h7, h8, h9, h10, h11, by omega, h13, h14, List.mem_cons_of_mem _ h15⟩
          px := fun j hj j' hj' hne q q' hq hq' => by
            have hlt : ∀ j, j < R.n → ∀ q, p.σ.tk j = .parked q → q.x < M0 := fun j hj q hq => by have := (g.st _ (g.pk j hj q hq).1).2.2.1; dsimp only at this; omega
            by_cases e : j = i
            · subst e
              rw [tki] at hq; cases hq; rw [tkj j' (Ne.symm hne)] at hq'; have := hlt j' hj' q' hq'; exact ⟨by show x ≠ _; omega, Ne.symm (C.κp j' hj' q' hq')⟩
            · rw [tkj j e] at hq
              by_cases e' : j' = i
              · subst e'
                rw [tki] at hq'; cases hq'; have := hlt j hj q hq; exact ⟨by show _ ≠ x; omega, C.κp j hj q hq⟩
              · rw [tkj j' e'] at hq'; exact g.px j hj j' hj' hne q q' hq hq'
          inb := fun gg s hs h0 => by
            have hs' : upd (upd p.σ.Inb κ (some (seat1 (R.tch i) c cs))) 0 none gg = some s := hs; rw [upd_ne _ _ h0] at hs'
            by_cases e : gg = κ
            · exact ⟨i, _, hi, tki, e.symm⟩
            · rw [upd_ne _ _ e] at hs'
              obtain ⟨j, q, hj, hq, hk⟩ := g.inb gg s hs' h0; have hji : j ≠ i := fun z => by subst z; rw [C.lv] at hq; cases hq
              exact ⟨j, q, hj, by rw [tkj j hji]; exact hq, hk⟩
          stl := fun gg y hs hy => by
            have hs' : (upd (upd p.σ.Inb κ (some (seat1 (R.tch i) c cs))) 0 none gg).isSome := hs
            by_cases h0 : gg = 0
            · subst h0; rw [upd_same] at hs'; cases hs'
            · rw [upd_ne _ _ h0] at hs'
              have hy' : upd p.σ.St κ (StL (plT R i x)) gg y := hy
              by_cases e : gg = κ
              · subst e
                rw [upd_same] at hy'; obtain ⟨z, hz, rfl⟩ := hy'; simp only [plT, List.mem_cons, List.not_mem_nil, or_false] at hz; rcases hz with rfl | rfl
                · exact ⟨_, List.mem_cons_self .., rfl⟩
                · exact ⟨_, List.mem_cons_of_mem _ (g.sub _ (st0_T hi)), rfl⟩
              · rw [upd_ne _ _ e] at hs' hy'
                obtain ⟨z, hz, rfl⟩ := g.stl gg y hs' hy'; exact ⟨z, List.mem_cons_of_mem _ hz, rfl⟩
          nodup := by
            show (p.σ.js.take k ++ i :: p.σ.js.drop k).Nodup
            have hnd := g.nodup; rw [← List.take_append_drop k p.σ.js, List.nodup_append] at hnd; rw [List.nodup_append]; refine ⟨hnd.1, List.nodup_cons.2 ⟨fun z => hij (List.mem_of_mem_drop z), hnd.2.1⟩, fun a ha b hb => ?_⟩; rcases List.mem_cons.1 hb with rfl | hb
            · exact fun z => hij (z ▸ List.mem_of_mem_take ha)
            · exact hnd.2.2 a ha b hb
          mem := fun j => by
            show j ∈ p.σ.js.take k ++ i :: p.σ.js.drop k ↔ _
            have hm : j ∈ p.σ.js.take k ++ i :: p.σ.js.drop k ↔ j = i ∨ j ∈ p.σ.js := by
              conv => rhs; rhs; rw [← List.take_append_drop k p.σ.js]
              simp only [List.mem_append, List.mem_cons]
              constructor
              · rintro (h | h | h)
                · exact .inr (.inl h)
                · exact .inl h
                · exact .inr (.inr h)
              · rintro (h | h | h)
                · exact .inr (.inl h)
                · exact .inl h
                · exact .inr (.inr h)
            rw [hm]
            by_cases e : j = i
            · subst e; rw [tki]; simp [TSt.wt, hi]
            · rw [tkj j e]; simp only [e, false_or]; exact g.mem j
          nb9 := by
            show p.σ.nb + ((p.σ.js.take k ++ i :: p.σ.js.drop k).map fun j => (upd p.σ.tk i (.parked ⟨κ, x, t, c, cs, M0, X, bt, bg, en, ev, w⟩) j).fr).sum ≤ 9
            rw [sum_ins, upd_same, sum_upd _ _ _ hij]; have := g.nb9; rw [show (TSt.parked ⟨κ, x, t, c, cs, M0, X, bt, bg, en, ev, w⟩).fr = 0 from rfl, Nat.zero_add]; exact this
          ng0 := g.ng0
          en := fun j hj gc wp he => by
            by_cases e : j = i
            · subst e; rw [tki] at he; cases he
            · rw [tkj j e] at he; exact g.en j hj gc wp he }

theorem wt_park (C : CohP R i κ bg X bt M0 p) (k : Nat) (q : Pk) : (p.σ.park R i k q).wt = p.σ.wt + 1 ∧ (p.σ.park R i k q).pk = p.σ.pk + 1 := by
  constructor
  · show ((p.σ.js.take k ++ i :: p.σ.js.drop k).map fun j => (upd p.σ.tk i (.parked q) j).wt).sum = _
    rw [sum_ins, upd_same, sum_upd _ _ _ C.nin]; rw [show (TSt.parked q).wt = 1 from rfl, Nat.add_comm]
    rfl
  · show ((p.σ.js.take k ++ i :: p.σ.js.drop k).map fun j => (upd p.σ.tk i (.parked q) j).pk).sum = _
    rw [sum_ins, upd_same, sum_upd _ _ _ C.nin]; rw [show (TSt.parked q).pk = 1 from rfl, Nat.add_comm]
    rfl

theorem head_park (H : RnOk R) (C : CohP R i κ bg X bt M0 p) (hi : i < R.n) (hsd : p.sd = false) {x k : Nat} {now t : Int} {c : Frame} {cs : List Frame} {en ev : Value} {m : List Value} {w w' : World} (hx : M0 ≤ x) (nx1 : x ∉ rowL en) (nx2 : x ∉ rowL ev)
    (W : TW (eT R i M0 X bt) p.Ok w now en ev (p.es.take k ++ wakeE t x :: p.es.drop k) m) (hm : m.length = 5 * (p.cn + 1)) (kp : Kp [] w w') : HeadW R (p.σ.park R i k ⟨κ, x, t, c, cs, M0, X, bt, bg, en, ev, w⟩) w' en ev m := by
  obtain ⟨kk, hkl, hr⟩ := W.row
  have hsb : ∀ (a : Addr) (b : Nat), b ∈ 0 :: R.gb ++ R.cb i ++ [X, bt] → a.block ∈ rowL en ∨ a.block ∈ rowL ev → a.block ≠ b := fun a b hb h e => by
    rcases h with h | h
    · exact W.enS _ h (by rw [e]; exact hb)
    · exact W.evS _ h (by rw [e]; exact hb)
  exact { a0 := ⟨_, kp.cell _ _ (by simp) W.a0⟩
          z0 := (kp.froz _ _ (by simp) W.a0).trans W.za0
          a1 := kp.cell _ _ (by simp) W.a1
          z1 := (kp.froz _ _ (by simp) W.a1).trans W.z1
          j0 := kp.cell _ _ (by simp) W.j0
          zj := (kp.froz _ _ (by simp) W.j0).trans W.zj
          ent := by
            show Ents R.N1 w' en ((p.σ.js.take k ++ i :: p.σ.js.drop k).map (ent R (upd p.σ.tk i (.parked ⟨κ, x, t, c, cs, M0, X, bt, bg, en, ev, w⟩))))
            have e1 : ent R (upd p.σ.tk i (.parked ⟨κ, x, t, c, cs, M0, X, bt, bg, en, ev, w⟩)) i = wakeE t x := by unfold ent; rw [upd_same]
            have h1 : i ∉ p.σ.js.take k := fun z => C.nin (List.mem_of_mem_take z)
            have h2 : i ∉ p.σ.js.drop k := fun z => C.nin (List.mem_of_mem_drop z)
            rw [List.map_append, List.map_cons, e1, ent_upd _ _ h1, ent_upd _ _ h2, List.map_take, List.map_drop, ← C.es]; exact kp.ents W.ent (fun g hg => ⟨by simp, by simp⟩)
          row := ⟨kk, hkl, kp.row hr fun g hg => ⟨by simp, by simp⟩⟩
          sep := W.sep
          rok := fun a wr h => by
            have h0 := W.rok a wr h; rw [C.ok] at h0; refine ⟨h0.1, fun hw => ?_⟩; obtain ⟨q1, q2, q3, q4⟩ := h0.2 hw
            have nx : a.block ≠ x := fun e => by
              rw [e] at h; exact h.elim nx1 nx2
            refine ⟨q1, fun ⟨y, hy, e⟩ => ?_, q3, fun j hj o => ?_⟩
            · rcases List.mem_cons.1 hy with rfl | hy
              · simp only [Loc.cell.injEq] at e; rw [e] at nx; exact nx rfl
              · exact q2 ⟨y, hy, e⟩
            · by_cases e : j = i
              · subst e
                have o' : ((TSt.parked ⟨κ, x, t, c, cs, M0, X, bt, bg, en, ev, w⟩).own R j) a := by
                  have : (upd p.σ.tk j (.parked ⟨κ, x, t, c, cs, M0, X, bt, bg, en, ev, w⟩) j) = _ := upd_same ..; rw [← this]; exact o
                rcases o' with (o | o | o | o) | o
                · exact hsb a _ (own0_lt (X := X) (bt := bt) H hj o).2.2 h rfl
                · exact hsb a X (by simp) h (congrArg Addr.block o)
                · exact hsb a bt (by simp) h (congrArg Addr.block o)
                · exact h.elim o.2.2.1 o.2.2.2.1
                · exact nx (congrArg Addr.block o)
              · have : (p.σ.park R i k ⟨κ, x, t, c, cs, M0, X, bt, bg, en, ev, w⟩).tk j = p.σ.tk j := upd_ne _ _ e
                rw [this] at o; exact q4 j hj o
          last := fun gc wp h1 h2 => by
            have h2' : upd p.σ.tk i _ 0 = _ := h2; rw [show i = 0 by omega, upd_same] at h2'; cases h2'
          cnt := by
            rw [(wt_park C k _).1, hm]; have := C.cn; rw [hsd] at this
            simp at this
            omega
          N := Nat.le_trans W.size kp.size }
end
end
section
open Go.Conc Go.RowKit
open Go.ConcN (sumTo upd sumTo_upd upd_ne upd_same)

/-- On its way to its own seat. -/
def WayT (T tch x : Nat) (c : Frame) (cs : List Frame) (a : Goroutine) : Prop := ∀ (K : World → Prop) (Still : Loc → Prop) (B : Nat) (w : World), (∀ w, K w → w.cell? ⟨x, 0, none⟩ = some (.pointer (some ⟨T, 0, none⟩)) ∧ w.cell? ⟨T, 3, none⟩ = some (.chan (some tch))) → (Still (.cell ⟨x, 0, none⟩) ∧ x < B) → (Still (.cell ⟨T, 3, none⟩) ∧ T < B) →
  ∃ n, Goes Tryz.prog false (RK K) (DS Still B) (fun g _ => ∃ g₂, AtIn Tryz.prog false K Still B (seat1 tch c cs) g g₂) n a w
/-- About to give, and to wait. -/
def GiveW (wch T tch x : Nat) (c : Frame) (cs : List Frame) (a : Goroutine) : Prop :=
  a.status = .running ∧ (∀ w, stepG Tryz.prog false a w = .comm a #[scase wch (.agg #[]) (.tuple #[])] true .send w #[]) ∧ WayT T tch x c cs (Go.Conc.served a undef)

theorem end153_u {Ok : Addr → Bool → Prop} {Ψ : Goroutine → World → Prop} (F : Fut Tryz.prog false (DX Ok) Ψ) (A T wch tch x : Nat) (c : Frame) (cs : List Frame) (w0 : World) (hx0 : w0.cell? ⟨x, 0, none⟩ = some (.pointer (some ⟨T, 0, none⟩))) (ht0 : w0.cell? ⟨T, 0, none⟩ = some (.pointer (some ⟨A, 0, none⟩))) (ha3 : w0.cell? ⟨A, 3, none⟩ = some (.chan (some wch)))
    (o1 : Ok ⟨x, 0, none⟩ false) (o2 : Ok ⟨T, 0, none⟩ false) (o3 : Ok ⟨A, 3, none⟩ false) (hc : ∀ a, GiveW wch T tch x c cs a → Ψ a w0) : Ψ (G (Frame.enter Tryz.prog 153 #[.pointer (some ⟨x, 0, none⟩)] .normal) (c :: cs)) w0 := by
  rw [enter_at _ Tryz.func153 rfl]; simp only [Tryz.ntmps153, List.size_toArray, List.length_cons, List.length_nil, Nat.reduceAdd, Nat.reduceSub, Array.replicate_succ, Array.replicate_zero, List.push_toArray, List.append_toArray, List.nil_append, List.cons_append]; refine F.sr ?_; simp only [rg, Nat.reduceAdd]; refine F.oq rfl rfl rfl (by simp [go_sem]) fun d K h => ?_; go_simp; refine h _ ?_; clear h K d; try walk_nrm
  refine F.esr ?_; simp only [rg, Nat.reduceAdd]; iterate 3 (refine F.oq rfl rfl rfl (by simp [go_sem]) fun d K h => ?_; go_simp; refine h _ ?_; clear h K d; try walk_nrm)
  refine F.ol rfl rfl rfl fun d K h => ?_; go_simp; refine h _ (fun e m => ?_) ?_; simp [go_sem, *] at m; subst m; exact evr (w := w0) (by assumption) (by first | assumption | (apply hfr <;> dsimp only <;> omega)); clear h K d; try walk_nrm
  iterate 2 (refine F.oq rfl rfl rfl (by simp [go_sem]) fun d K h => ?_; go_simp; refine h _ ?_; clear h K d; try walk_nrm)
  refine F.ol rfl rfl rfl fun d K h => ?_; go_simp; refine h _ (fun e m => ?_) ?_; simp [go_sem, *] at m; subst m; exact evr (w := w0) (by assumption) (by first | assumption | (apply hfr <;> dsimp only <;> omega)); clear h K d; try walk_nrm
  iterate 2 (refine F.oq rfl rfl rfl (by simp [go_sem]) fun d K h => ?_; go_simp; refine h _ ?_; clear h K d; try walk_nrm)
  refine F.ol rfl rfl rfl fun d K h => ?_; go_simp; refine h _ (fun e m => ?_) ?_; simp [go_sem, *] at m; subst m; exact evr (w := w0) (by assumption) (by first | assumption | (apply hfr <;> dsimp only <;> omega)); clear h K d; try walk_nrm
  refine F.oq rfl rfl rfl (by simp [go_sem]) fun d K h => ?_; go_simp; refine h _ ?_; clear h K d; try walk_nrm
  refine hc _ ⟨rfl, fun w => ?_, fun K Still B w hK sx sT => ?_⟩
  · rw [stepG_comm (cases := #[scase wch (.agg #[]) (.tuple #[])]) (blocking := true) (shape := .send) (w' := w) rfl rfl (by decide) (by simp [execOp, scase, Act.eval])]
    rw [listed_nil (by simp [go_sem, execOp, Act.eval])]
  clear F; have F := qf_seat (P := Tryz.prog) (K := K) (Still := Still) (B := B) false (seat1 tch c cs) w; rw [served_fr, Frame.finish_at]; try walk_nrm
  have f0 := fun w h => (hK w h).1
  have f3 := fun w h => (hK w h).2
  refine F.esr ?_; simp only [rg, Nat.reduceAdd]; iterate 3 (refine F.oq rfl rfl rfl (by simp [go_sem]) (fun w hw => by go_simp; first | exact ⟨rfl, rfl⟩ | exact rfl) ?_; try walk_nrm)
  apply F.op rfl rfl (by decide)
  · intro w hw e he
    have hfact := f0 w hw; simp [go_sem, hfact] at he; subst he; exact ⟨_, rfl, sx.1, sx.2⟩
  · intro w hw
    have hfact := f0 w hw; go_simp
    first | exact ⟨rfl, rfl⟩ | exact rfl
  try walk_nrm
  iterate 2 (refine F.oq rfl rfl rfl (by simp [go_sem]) (fun w hw => by go_simp; first | exact ⟨rfl, rfl⟩ | exact rfl) ?_; try walk_nrm)
  apply F.op rfl rfl (by decide)
  · intro w hw e he
    have hfact := f3 w hw; simp [go_sem, hfact] at he; subst he; exact ⟨_, rfl, sT.1, sT.2⟩
  · intro w hw
    have hfact := f3 w hw; go_simp
    first | exact ⟨rfl, rfl⟩ | exact rfl
  try walk_nrm
  refine ⟨0, fun w₁ r => ⟨_, rfl, rfl, rfl, rfl, ?_, #[], by simp, fun w hw => ?_⟩⟩
  · clear F
    intro Φ F ht; rw [served_fr, Frame.finish_at]; try walk_nrm
    refine F.oq rfl rfl rfl (by simp [go_sem]) (fun w hw => by go_simp; first | exact ⟨rfl, rfl⟩ | exact rfl) ?_; try walk_nrm
    refine F.re ?_; refine F.ctl (fun _ => stepG_ret') ?_; refine F.leave rfl rfl Tryz.func153 (resultsC_tmp (by rfl) _) ?_; exact ht
  · rw [stepG_comm (cases := #[rcase tch (.int .i64 0)]) (blocking := true) (shape := .recv false) (w' := w) rfl rfl (by decide) (by simp [go_sem, rcase])]
    rw [listed_nil (by simp [go_sem])]
    rfl

section
variable {R : Rn} {Post : Value → World → Prop} {σ : Gs} {Λ i κ bg X bt M0 M : Nat} {p : Ph Gs} {st : List (Addr × Value)} {w : World}
theorem st_wch (H : RnOk R) (g : Good R σ M) : ∀ y ∈ σ.st, y.1.block ≠ R.wch ∧ y.1.block ≠ R.ech := fun y hy => by
  have hg := H.gb'; have hn := H.gne; have hl := H.l1; rcases (g.st y hy).2.2.2 with z | z
  · rcases st0_blk z with ⟨z, _⟩ | ⟨j, hj, z⟩
    · omega
    · have := (H.cb' hj).1; rw [z]; dsimp only; omega
  · omega
theorem kg_chan (H : RnOk R) {c k : Nat} (hI : R.wI.heap.size ≤ c) (hA : c ≠ R.A) (hst : ∀ y ∈ st, y.1.block ≠ c) (hc : c ∈ R.cc) (h : KG R st w) : KG R st (w.setChan c 0 #[] false k k false) := by
  obtain ⟨h1, h2, ⟨v, h3⟩, h4, v6, h5⟩ := h; have e5 : ∀ b o, b = R.A → (w.setChan c 0 #[] false k k false).cell? ⟨b, o, none⟩ = w.cell? ⟨b, o, none⟩ ∧ (w.setChan c 0 #[] false k k false).frozen? ⟨b, o, none⟩ = w.frozen? ⟨b, o, none⟩ := fun b o hb => by subst hb; exact cell_chan hA ..
  exact ⟨old_chan hI h1, kl_chan (fun y hy => Ne.symm (hst y hy)) hc h2, ⟨v, (e5 _ _ rfl).1.trans h3⟩, (e5 _ _ rfl).2.trans h4, v6, (e5 _ _ rfl).1.trans h5⟩
theorem seat1_has {tch c' : Nat} {c : Frame} {cs : List Frame} (h : (seat1 tch c cs).has c') : c' = tch := Seat.one_has.1 h
theorem Good.inj (H : RnOk R) (g : Good R σ M) {gg c' : Nat} {s : Seat} (h0 : gg ≠ 0) (hs : σ.Inb gg = some s) (hc : s.has c') : ∃ j q, j < R.n ∧ σ.tk j = .parked q ∧ q.κ = gg ∧ c' = R.tch j := by
  obtain ⟨j, q, hj, hq, hk⟩ := g.inb gg s hs h0; have := (g.pk j hj q hq).2.2.1; rw [hk, hs] at this; rw [Option.some.inj this] at hc; exact ⟨j, q, hj, hq, hk, seat1_has hc⟩

theorem wait_t (H : RnOk R) (IH : ∀ ν, ν < Λ → HeadAll R Post ν) (hi : i < R.n) (p : Ph Gs) (x : Nat) (c : Frame) (cs : List Frame) (w : World) (now t : Int) (en ev : Value) (m : List Value) (k : Nat) (hsd : p.sd = false) (hx1 : M0 ≤ x) (hx2 : x < w.heap.size) (nx1 : x ∉ rowL en) (nx2 : x ∉ rowL ev) (x0 : w.cell? ⟨x, 0, none⟩ = some (.pointer (some ⟨R.T i, 0, none⟩))) (x1 : w.cell? ⟨x, 1, none⟩ = some (.int .i64 0)) (zx : w.frozen? ⟨x, 1, none⟩ = false) (hk : k ≤ p.es.length)
    (W : TW (eT R i M0 X bt) p.Ok w now en ev (p.es.take k ++ wakeE t x :: p.es.drop k) m) (hm : m.length = 5 * (p.cn + 1))
    (hcont : ∀ (p' : Ph Gs) (w' : World) (en' ev' : Value) (m' : List Value), p'.sd = true → RelyT R i ⟨κ, x, t, c, cs, M0, X, bt, bg, en, ev, w⟩ p' w' en' ev' m' → PsiT R Post Λ i κ bg X bt M0 p' (G (c.finish (.int .i64 1)) cs) w') :
    PsiT R Post Λ i κ bg X bt M0 p (G (Frame.enter Tryz.prog 153 #[.pointer (some ⟨x, 0, none⟩)] .normal) (c :: cs)) w := by
  intro C hlam hrs; have g := C.good; have hg := H.gb'; have hn := H.gne; have hT := (H.cb' hi).1; have hMM := C.sM hsd; have hNM := g.N; have hl := H.l1; have hκ : (κ == 0) = false := by have := C.κ0; simp; omega
  have hnb : p.σ.nb ≤ 9 := Nat.le_trans (Nat.le_add_right _ _) g.nb9; have F := futG (Post := Post) H (st := p.σ.st) (tk := p.σ.tk) (L := p.σ.L) (n := p.σ.ng) (dl := 0) hnb g.a5 g.stl κ; rw [hκ] at F; refine end153_u F R.A (R.T i) R.wch (R.tch i) x c cs w x0 W.t0 W.a3 ⟨sh_off (by decide) (by decide), fun h => by cases h⟩ ⟨sh_off (by decide) (by decide), fun h => by cases h⟩ ⟨sh_off (by decide) (by decide), fun h => by cases h⟩ (fun a ⟨hrun, hsend, hway⟩ => ?_); clear F; have GG := kg_gk H g.a5; refine At3.assume GG (fun hK hQ => ?_); generalize hq : (⟨κ, x, t, c, cs, M0, X, bt, bg, en, ev, w⟩ : Pk) = q at hcont; have GP : Good R (p.σ.park R i k q) w.heap.size := by rw [← hq]; exact good_park H C hi hsd hx1 hx2 hK.1 hQ.1 ⟨x1, zx⟩ ⟨W.t7, W.z7⟩
  have qκ : q.κ = κ := by rw [← hq]
  have qx : q.x = x := by rw [← hq]
  have qc : q.c = c := by rw [← hq]
  have qs : q.cs = cs := by rw [← hq]
  have GG' := kg_gk H GP.a5; have est : (p.σ.park R i k q).st = (⟨x, 0, none⟩, .pointer (some ⟨R.T i, 0, none⟩)) :: p.σ.st := by simp only [Gs.park, qx]
  have hK' : KG R (p.σ.park R i k q).st w := by rw [est]; exact ⟨hK.1, kl_cons x0 hK.2.1, hK.2.2⟩
  have hsub : ∀ w, KG R (p.σ.park R i k q).st w → KG R p.σ.st w := fun w h => by rw [est] at h; exact ⟨h.1, kl_sub (fun y hy => List.mem_cons_of_mem _ hy) (fun _ h => h) h.2.1, h.2.2⟩
  refine At3.less GG' hsub hK' ?_
  have kx : ∀ w, KG R (p.σ.park R i k q).st w → w.cell? ⟨x, 0, none⟩ = some (.pointer (some ⟨R.T i, 0, none⟩)) ∧ w.cell? ⟨R.T i, 3, none⟩ = some (.chan (some (R.tch i))) := fun w h => by
    rw [est] at h; exact ⟨h.2.1.1 _ (List.mem_cons_self ..), h.2.1.1 _ (List.mem_cons_of_mem _ (g.sub _ (st0_T hi)))⟩
  obtain ⟨nh, hgo⟩ := hway (KG R (p.σ.park R i k q).st) (StL (plT R i x)) w.heap.size w kx ⟨⟨_, List.mem_cons_self .., rfl⟩, hx2⟩ ⟨⟨_, List.mem_cons_of_mem _ (List.mem_cons_self ..), rfl⟩, by omega⟩; have hwch : R.wch ∈ R.cc := by simp [Rn.cc]
  have hws : ∀ y ∈ (p.σ.park R i k q).st, y.1.block ≠ R.wch := fun y hy => (st_wch H GP y hy).1
  have hcc : ∀ c' ∈ R.cc, ∃ k', w.heap[c']? = some (.chan 0 #[] false k' k' false) := hK.2.1.2; have hti : R.tch i ∈ R.cc := by simp [Rn.cc]; exact .inr (.inr ⟨i, hi, rfl⟩)
  have κ0 := C.κ0
  refine At3.give_sit (Q' := QG R (p.σ.park R i k q).tk) (j := 0) (c := R.wch) (kk := 0) (s := seat0 R.wch R.ech (HomeA R.A R.wch R.ech (R.cR :: R.csR))) (v := .agg #[]) (a₂ := a) GG' hnb
    { kc := fun w k h => kg_chan H (by omega) (by omega) hws hwch h
      jh := by omega
      jn := g.ng0
      hj := C.i0
      hk := ⟨_, rfl⟩
      run := hrun
      send := ⟨.tuple #[], #[], fun d m _ => by rw [hκ]; exact hsend _, by simp⟩
      ch := hcc _ hwch } (sh := seat1 (R.tch i) c cs) (Sth := StL (plT R i x)) (nh := nh + 1) (Seat.one_wf _ _ _ _) (fun l hl => ⟨stl_mem hl, fun z => ?_⟩) (.inl ⟨nh, w, rfl, by rw [hκ]; exact hgo⟩) (fun c' hc' => by rw [seat1_has hc']; exact hcc _ hti) (fun g' s' c' h1 h2 h3 h4 h5 => ?_) (fun k' g₂ hch hh hQ' => ?_) (fun k' hch hQ' => ?_)
  · obtain ⟨y, hy, rfl⟩ := hl
    simp only [plT, List.mem_cons, List.not_mem_nil, or_false] at hy; rcases hy with rfl | rfl <;> exact sh_off (by decide) (by decide) z
  · obtain ⟨j, q', hj, hq', hk', hc'⟩ := g.inj H h2 h3 h5
    have e1 := seat1_has h4; have hji : j ≠ i := fun e => by subst e; rw [C.lv] at hq'; cases hq'
    exact H.cdj i hi j hj (Ne.symm hji) (R.tch i) (by simp [Rn.cb]) (by rw [← e1, hc']; simp [Rn.cb])
  · have kc : Kp [] w (w.setChan R.wch 0 #[] false (k' + 1) (k' + 1) false) := Kp.chan hch
    have hwt := wt_park (R := R) C k q; have hlc : lc p = p.σ.wt + 1 := by simp [lc, hsd]
    have HW : HeadW R (p.σ.park R i k q) (w.setChan R.wch 0 #[] false (k' + 1) (k' + 1) false) en ev m := by rw [← hq]; exact head_park H C hi hsd hx1 nx1 nx2 W hm kc
    have Fp := futG (Post := Post) H (st := (p.σ.park R i k q).st) (tk := (p.σ.park R i k q).tk) (L := p.σ.L) (n := p.σ.ng) (dl := 0) (Inb := (p.σ.park R i k q).Inb) (St := (p.σ.park R i k q).St) hnb GP.a5 GP.stl 0; have eI : (p.σ.park R i k q).Inb = upd (upd p.σ.Inb κ (some (seat1 (R.tch i) c cs))) 0 none := by simp only [Gs.park, qκ, qc, qs]
    have eS : (p.σ.park R i k q).St = upd p.σ.St κ (StL (plT R i x)) := by simp only [Gs.park, qκ, qx]
    rw [← eI, ← eS]; refine hh 0 (by omega) (fun g => At3 Tryz.prog Post (KG R (p.σ.park R i k q).st) (QG R (p.σ.park R i k q).tk) (ShL R.l) (p.σ.park R i k q).St (p.σ.park R i k q).Inb (grp R.A) p.σ.L p.σ.nb 0 p.σ.ng 0 g _) (cf_fut Fp _) (fun g' hg' => ?_); refine IH (p.σ.wt + 1) (by omega) (p.σ.park R i k q) _ en ev m g' hwt.1 (by rw [size_chan]; exact GP) (fun j hj => ?_) (by rw [eI, upd_same]) (by rw [hwt.2]; exact C.L) HW (fun j hj q' hq' => ?_) hg'
    · by_cases e : j = i
      · subst e; show (upd p.σ.tk j (.parked q) j).lv = false; rw [upd_same]; rfl
      · show (upd p.σ.tk i (.parked q) j).lv = false; rw [upd_ne _ _ e]; exact C.oth j hj e
    · by_cases e : j = i
      · subst e
        have : q' = q := by
          have h9 : upd p.σ.tk j (.parked q) j = .parked q' := hq'; rw [upd_same] at h9; exact (TSt.parked.inj h9).symm
        subst this; refine Res.of (Λ := Λ) (fun p' w' en' ev' m' h1 h2 => ?_) _ (by omega); have := hcont p' w' en' ev' m' h1 h2; rw [← hq]; exact this
      · have h9 : upd p.σ.tk i (.parked q) j = .parked q' := hq'
        rw [upd_ne _ _ e] at h9; rw [← hlc]; exact hrs j hj q' h9
  · refine ⟨keeps_chan hQ'.1 hch, fun j hj => ?_⟩
    by_cases e : j = i
    · subst e
      show Keeps ((upd p.σ.tk j (.parked q) j).own R j) ((upd p.σ.tk j (.parked q) j).ref R) _
      rw [upd_same]; have : (TSt.parked q).ref R = w := by rw [← hq]; rfl
      rw [this]; exact keeps_chan (Keeps.refl _ _) hch
    · show Keeps ((upd p.σ.tk i (.parked q) j).own R j) ((upd p.σ.tk i (.parked q) j).ref R) _
      rw [upd_ne _ _ e]; exact keeps_chan (hQ'.2 j hj) hch
end
end
section
open Go.Conc Go.RowKit
open Go.ConcN (sumTo upd sumTo_upd upd_ne upd_same)

def Gs.fin (σ : Gs) (i : Nat) (gc : List Nat) (w : World) : Gs := { σ with L := σ.pk, Inb := upd σ.Inb 0 none, tk := upd σ.tk i (.ended gc w) }

section
variable {R : Rn} {Post : Value → World → Prop} {σ : Gs} {Λ i κ bg X bt M0 M : Nat} {p : Ph Gs}

theorem good_end (H : RnOk R) (C : CohP R i κ bg X bt M0 p) (hi : i < R.n) {gc : List Nat} {w : World} (hM : p.M ≤ w.heap.size) (hgc : ∀ g ∈ gc, p.M ≤ g ∧ g < w.heap.size) (he : EndJ R i gc w) : Good R (p.σ.fin i gc w) w.heap.size := by
  have g := C.good; have hN := g.N; have hij := C.nin; have tki : (p.σ.fin i gc w).tk i = .ended gc w := upd_same ..; have tkj : ∀ j, j ≠ i → (p.σ.fin i gc w).tk j = p.σ.tk j := fun j h => upd_ne _ _ h
  have hUi : ∀ a, (a ∈ outC R.O i ∨ a.block ∈ gc) → (R.own0 i a ∨ R.N ≤ a.block) ∧ a.block < w.heap.size ∧ (R.N ≤ a.block → p.M ≤ a.block) := fun a u => by
    rcases u with u | u
    · have := own0_lt (X := X) (bt := bt) H hi (.inl u : R.own0 i a)
      exact ⟨.inl (.inl u), by omega, fun z => by omega⟩
    · have := hgc _ u
      exact ⟨.inr (by omega), this.2, fun _ => this.1⟩
  exact { sub := g.sub
          st := fun y hy => by have := g.st y hy; exact ⟨this.1, this.2.1, by omega, this.2.2.2⟩
          N := by omega
          ow := fun j hj a u => by
            by_cases e : j = i
            · subst e; rw [tki] at u; exact ⟨(hUi a u).1, (hUi a u).2.1⟩
            · rw [tkj j e] at u; have := g.ow j hj a u; exact ⟨this.1, by omega⟩
          dj := fun j hj j' hj' hne a b u u' hNa => by
            by_cases e : j = i
            · subst e
              rw [tki] at u; rw [tkj j' (Ne.symm hne)] at u'; have h1 := (hUi a u).2.2 hNa; have h2 := (g.ow j' hj' b u').2; omega
            · rw [tkj j e] at u
              have h2 := (g.ow j hj a u).2
              by_cases e' : j' = i
              · subst e'
                rw [tki] at u'; intro hab; have h1 := (hUi b u').2.2 (by omega); omega
              · rw [tkj j' e'] at u'; exact g.dj j hj j' hj' hne a b u u' hNa
          su := fun y hy j hj a u => by
            by_cases e : j = i
            · rw [e, tki] at u
              exact u.elim
            · rw [tkj j e] at u; exact g.su y hy j hj a u
          xu := fun j hj q hq j' hj' a u => by
            by_cases e : j = i
            · rw [e, tki] at hq; cases hq
            · rw [tkj j e] at hq
              by_cases e' : j' = i
              · rw [e', tki] at u
                have h1 := hUi a u; have h2 := (g.st _ (g.pk j hj q hq).1).2.2.1; have h3 := (g.pk j hj q hq).2.1; dsimp only at h2; rcases h1.1 with z | z
                · have := (own0_lt (X := X) (bt := bt) H hi z).2.1
                  omega
                · have := h1.2.2 z
                  omega
              · rw [tkj j' e'] at u; exact g.xu j hj q hq j' hj' a u
          pk := fun j hj q hq => by
            by_cases e : j = i
            · rw [e, tki] at hq; cases hq
            · rw [tkj j e] at hq
              obtain ⟨h1, h2, h3, h4, h5, h6, h7, h8, h9, h10, h11, h12, h13⟩ := g.pk j hj q hq; exact ⟨h1, h2, (upd_ne _ _ (by omega)).trans h3, h4, h5, h6, h7, h8, h9, h10, h11, by omega, h13⟩
          px := fun j hj j' hj' hne q q' hq hq' => by
            by_cases e : j = i
            · rw [e, tki] at hq; cases hq
            · by_cases e' : j' = i
              · rw [e', tki] at hq'; cases hq'
              · rw [tkj j e] at hq; rw [tkj j' e'] at hq'; exact g.px j hj j' hj' hne q q' hq hq'
          inb := fun gg s hs h0 => by
            have hs' : upd p.σ.Inb 0 none gg = some s := hs; rw [upd_ne _ _ h0] at hs'; obtain ⟨j, q, hj, hq, hk⟩ := g.inb gg s hs' h0; have hji : j ≠ i := fun z => by subst z; rw [C.lv] at hq; cases hq
            exact ⟨j, q, hj, by rw [tkj j hji]; exact hq, hk⟩
          stl := fun gg y hs hy => by
            have hs' : (upd p.σ.Inb 0 none gg).isSome := hs
            by_cases h0 : gg = 0
            · subst h0; rw [upd_same] at hs'; cases hs'
            · rw [upd_ne _ _ h0] at hs'; exact g.stl gg y hs' hy
          nodup := g.nodup
          mem := fun j => by
            show j ∈ p.σ.js ↔ _
            by_cases e : j = i
            · rw [e, tki]; simp [TSt.wt, hij]
            · rw [tkj j e]; exact g.mem j
          nb9 := by
            show p.σ.nb + (p.σ.js.map fun j => (upd p.σ.tk i (.ended gc w) j).fr).sum ≤ 9
            rw [sum_upd _ _ _ hij]; exact g.nb9
          ng0 := g.ng0
          en := fun j hj gc' wp he' => by
            by_cases e : j = i
            · rw [e, tki] at he'; cases he'; rw [e]; exact he
            · rw [tkj j e] at he'; exact g.en j hj gc' wp he' }
theorem wt_end (C : CohP R i κ bg X bt M0 p) (gc : List Nat) (w : World) : (p.σ.fin i gc w).wt = p.σ.wt ∧ (p.σ.fin i gc w).pk = p.σ.pk := by
  constructor
  · show (p.σ.js.map fun j => (upd p.σ.tk i (.ended gc w) j).wt).sum = _
    rw [sum_upd _ _ _ C.nin]; rfl
  · show (p.σ.js.map fun j => (upd p.σ.tk i (.ended gc w) j).pk).sum = _
    rw [sum_upd _ _ _ C.nin]; rfl

theorem head_end (H : RnOk R) (C : CohP R i κ bg X bt M0 p) (hi : i < R.n) {t : Int} {en ev : Value} {m : List Value} {w w' wE : World} {gc : List Nat} (W : TW (eT R i M0 X bt) p.Ok w t en ev p.es m) (hm : m.length = 5 * (p.cn + (if p.sd then 1 else 2))) (hl : ∃ m0, m = m0 ++ evc (R.s0 i + R.k2 i) i (-1) 2 0) (kp : Kp [] w w' (⟨R.T i, 7, none⟩ :: outC R.O i)) (hgc : ∀ g ∈ gc, g ∉ rowL en ∧ g ∉ rowL ev) : HeadW R (p.σ.fin i gc wE) w' en ev m := by
  obtain ⟨kk, hkl, hr⟩ := W.row; have hg := H.gb'; have hn := H.gne; have hc := (H.cb' hi).1; have hsb : ∀ b : Nat, b ∈ 0 :: R.gb ++ R.cb i ++ [X, bt] → b ∉ rowL en ∧ b ∉ rowL ev := fun b hb => ⟨fun z => W.enS _ z hb, fun z => W.evS _ z hb⟩
  have hO := hsb R.O (by simp [Rn.gb]); have hT := hsb (R.T i) (by simp [Rn.cb])
  have cC : ∀ y ∈ (⟨R.T i, 7, none⟩ :: outC R.O i : List Addr), y.block = R.O ∨ y.block = R.T i := fun y hy => by
    rcases List.mem_cons.1 hy with rfl | hy
    · exact .inr rfl
    · exact .inl (out_blk hy).1
  have cA : ∀ (b o : Nat), b = R.A ∨ b = R.J → (⟨b, o, none⟩ : Addr) ∉ (⟨R.T i, 7, none⟩ :: outC R.O i : List Addr) := fun b o hb z => by
    have := cC _ z; dsimp only at this; omega
  have cR : ∀ g, g ∈ rowL en ∨ g ∈ rowL ev → g ∉ ([] : List Nat) ∧ ∀ y ∈ (⟨R.T i, 7, none⟩ :: outC R.O i : List Addr), y.block ≠ g := fun g hg' => ⟨by simp, fun y hy e => by
    rcases cC y hy with z | z
    · rw [← e, z] at hg'; exact hg'.elim hO.1 hO.2
    · rw [← e, z] at hg'; exact hg'.elim hT.1 hT.2⟩
  exact { a0 := ⟨_, kp.cellC _ _ (by simp) (cA _ _ (.inl rfl)) W.a0⟩
          z0 := (kp.frozC _ _ (by simp) (cA _ _ (.inl rfl)) W.a0).trans W.za0
          a1 := kp.cellC _ _ (by simp) (cA _ _ (.inl rfl)) W.a1
          z1 := (kp.frozC _ _ (by simp) (cA _ _ (.inl rfl)) W.a1).trans W.z1
          j0 := kp.cellC _ _ (by simp) (cA _ _ (.inr rfl)) W.j0
          zj := (kp.frozC _ _ (by simp) (cA _ _ (.inr rfl)) W.j0).trans W.zj
          ent := by
            show Ents R.N1 w' en (p.σ.js.map (ent R (upd p.σ.tk i (.ended gc wE))))
            rw [ent_upd _ _ C.nin, ← C.es]; exact kp.ents W.ent (fun g hg => cR g (.inl hg))
          row := ⟨kk, hkl, kp.row hr fun g hg => cR g (.inr hg)⟩
          sep := W.sep
          rok := fun a wr h => by
            have h0 := W.rok a wr h; rw [C.ok] at h0; refine ⟨h0.1, fun hw => ?_⟩; obtain ⟨q1, q2, q3, q4⟩ := h0.2 hw; refine ⟨q1, q2, q3, fun j hj o => ?_⟩
            by_cases e : j = i
            · have o' : ((TSt.ended gc wE).own R i) a := by
                have : (upd p.σ.tk i (.ended gc wE) i) = _ := upd_same ..; rw [← this, ← e]; rw [← e] at o; exact e ▸ o
              rcases o' with o | o
              · rw [(out_blk o).1] at h; exact h.elim hO.1 hO.2
              · exact h.elim (hgc _ o).1 (hgc _ o).2
            · have : (p.σ.fin i gc wE).tk j = p.σ.tk j := upd_ne _ _ e
              rw [this] at o; exact q4 j hj o
          last := fun gc wp h1 _ => by
            have e : i = 0 := by omega
            rw [e] at hl; exact hl
          cnt := by
            rw [(wt_end C gc wE).1, hm]; have := C.cn; omega
          N := Nat.le_trans W.size kp.size }

/-- What an outcome holds on to. -/
def gcOf : Option Addr → List Nat
  | some a => [a.block]
  | none => []

theorem end_t (H : RnOk R) (IH : ∀ ν, ν < Λ → HeadAll R Post ν) (hi : i < R.n) (p : Ph Gs) (gE : Goroutine) (a b c' : Int) (x : Option Addr) (k cap : Nat) (w2 w3 w : World) (w0 : World) (en0 ev0 en ev : Value) (m : List Value) (hE : EndU R.A R.ech bg gE) (D : Dn (eT R i M0 X bt) (StT R i X bt) M0 (R.s0 i + R.k2 i) w0 en0 ev0 p w2 en ev m) (ho : OutU (R.k0 i) (R.k1 i) (R.s0 i + R.k2 i) p.M w2 en ev (.agg #[.int .i64 a, .int .i64 b, .int .i64 c', .slice x k cap])) (k3 : Kp [] w2 w3 (outC R.O i)) (hO3 : OutAt w3 R.O i a b c' x k cap) (k4 : Kp [] w3 w [⟨R.T i, 7, none⟩]) :
    PsiT R Post Λ i κ bg X bt M0 p gE w := by
  intro C hlam hrs; have g := C.good; have hg := H.gb'; have hn := H.gne; have hT := (H.cb' hi).1; have hNM := g.N; have hl := H.l1; have hκ : (κ == 0) = false := by have := C.κ0; simp; omega
  have κ0 := C.κ0; have hnb : p.σ.nb ≤ 9 := Nat.le_trans (Nat.le_add_right _ _) g.nb9; have GG := kg_gk H g.a5; have hTO : ∀ o, (⟨R.O, o, none⟩ : Addr) ∉ [(⟨R.T i, 7, none⟩ : Addr)] := fun o z => by simp at z <;> omega
  have hO : OutAt w R.O i a b c' x k cap := ⟨k4.cellC _ _ (by simp) (hTO _) hO3.c0, k4.cellC _ _ (by simp) (hTO _) hO3.c1, k4.cellC _ _ (by simp) (hTO _) hO3.c2, k4.cellC _ _ (by simp) (hTO _) hO3.c3⟩; have k3' : Kp [] w2 w3 (⟨R.T i, 7, none⟩ :: outC R.O i) := k3.old (by simp) (fun y hy => .inl (List.mem_cons_of_mem _ hy)); have kAll : Kp [] w2 w (⟨R.T i, 7, none⟩ :: outC R.O i) := k3'.callN k4 (by simp) (fun y hy => .inl (by simp at hy; subst hy; simp)); have hsz : w2.heap.size ≤ w.heap.size := kAll.size; have hMw : p.M ≤ w.heap.size := Nat.le_trans D.sz hsz
  have hgx : EndJ R i (gcOf x) w ∧ (∀ g ∈ gcOf x, p.M ≤ g ∧ g < w.heap.size) ∧ ∀ g ∈ gcOf x, g ∉ rowL en ∧ g ∉ rowL ev := by
    rcases ho with ⟨h1, h2⟩ | ⟨h1, gg, cp, h2, h3, h4, h5, h6, h7⟩ | ⟨h1, h2⟩
    · have hx : x = none := by simp at h2; exact h2.2.2.2.1
      exact ⟨⟨a, b, c', x, k, cap, hO, .inl ⟨h1, h2⟩⟩, by subst hx; simp [gcOf], by subst hx; simp [gcOf]⟩
    · have hx : x = some ⟨gg, 0, none⟩ := by simp at h2; exact h2.2.2.2.1
      have hmem : ∀ g, g ∈ gcOf x → g = gg := fun g hg => by subst hx; simpa [gcOf] using hg
      refine ⟨⟨a, b, c', x, k, cap, hO, .inr (.inl ⟨h1, gg, cp, h2, by subst hx; simp [gcOf], ?_⟩)⟩, fun g hg => by rw [hmem g hg]; exact ⟨h3, by omega⟩, fun g hg => by rw [hmem g hg]; exact ⟨h5, h6⟩⟩
      exact h7.kp kAll (by simp) (fun y hy e => by
        rcases List.mem_cons.1 hy with rfl | hy
        · dsimp only at e; omega
        · have := (out_blk hy).1; omega)
    · have hx : x = none := by simp at h2; exact h2.2.2.2.1
      exact ⟨⟨a, b, c', x, k, cap, hO, .inr (.inr ⟨h1, h2⟩)⟩, by subst hx; simp [gcOf], by subst hx; simp [gcOf]⟩
  obtain ⟨hEJ, hgc1, hgc2⟩ := hgx; generalize hgc : gcOf x = gc at hEJ hgc1 hgc2; refine At3.assume GG (fun hK hQ => ?_); have GP : Good R (p.σ.fin i gc w) w.heap.size := good_end H C hi hMw hgc1 hEJ; have hech : R.ech ∈ R.cc := by simp [Rn.cc]
  have hws : ∀ y ∈ p.σ.st, y.1.block ≠ R.ech := fun y hy => (st_wch H g y hy).2
  obtain ⟨nh, hdp⟩ := hE.dp (KG R p.σ.st) (fun W h => h.2.2.1) (fun W h => h.2.1.1 _ C.bg)
  have key : At3 Tryz.prog Post (KG R p.σ.st) (QG R p.σ.tk) (ShL R.l) p.σ.St p.σ.Inb (grp R.A) (p.σ.pk + 1) p.σ.nb κ p.σ.ng 0 gE w := by
    refine At3.give_dep (Q' := QG R (p.σ.fin i gc w).tk) (j := 0) (c := R.ech) (kk := 1) (s := seat0 R.wch R.ech (HomeA R.A R.wch R.ech (R.cR :: R.csR))) (v := .agg #[]) (a₂ := gE) GG hnb
      { kc := fun w k h => kg_chan H (by omega) (by omega) hws hech h
        jh := by omega
        jn := g.ng0
        hj := C.i0
        hk := ⟨_, rfl⟩
        run := hE.run
        send := ⟨.tuple #[], #[], fun d m _ => by rw [hκ]; exact hE.send _, by simp⟩
        ch := hK.2.1.2 _ hech } κ0 hdp (fun k' g₂ hch hh hQ' => ?_) (fun k' hch hQ' => ?_)
    · have kc : Kp [] w (w.setChan R.ech 0 #[] false (k' + 1) (k' + 1) false) := Kp.chan hch
      have hwt := wt_end C gc w; have HW : HeadW R (p.σ.fin i gc w) (w.setChan R.ech 0 #[] false (k' + 1) (k' + 1) false) en ev m := head_end H C hi D.tw D.cnt.1 D.cnt.2 (kAll.callN kc (by simp) (by simp)) hgc2; have Fp := futG (Post := Post) H (st := p.σ.st) (tk := (p.σ.fin i gc w).tk) (L := p.σ.pk) (n := p.σ.ng) (dl := 0) (Inb := (p.σ.fin i gc w).Inb) (St := p.σ.St) hnb g.a5 GP.stl 0; refine hh 1 (by omega) (fun g => At3 Tryz.prog Post (KG R p.σ.st) (QG R (p.σ.fin i gc w).tk) (ShL R.l) p.σ.St (p.σ.fin i gc w).Inb (grp R.A) p.σ.pk p.σ.nb 0 p.σ.ng 0 g _) (cf_fut Fp _) (fun g' hg' => ?_); have hle : p.σ.wt ≤ lc p := Nat.le_add_right _ _; refine IH p.σ.wt (by omega) (p.σ.fin i gc w) _ en ev m g' hwt.1 (by rw [size_chan]; exact GP) (fun j hj => ?_) (by show upd p.σ.Inb 0 none 0 = none; rw [upd_same]) hwt.2.symm HW (fun j hj q' hq' => ?_) hg'
      · by_cases e : j = i
        · rw [e]; show (upd p.σ.tk i (.ended gc w) i).lv = false; rw [upd_same]; rfl
        · show (upd p.σ.tk i (.ended gc w) j).lv = false; rw [upd_ne _ _ e]; exact C.oth j hj e
      · have h9 : upd p.σ.tk i (.ended gc w) j = .parked q' := hq'
        by_cases e : j = i
        · rw [e, upd_same] at h9; cases h9
        · rw [upd_ne _ _ e] at h9
          exact Res.mono hle (hrs j hj q' h9)
    · refine ⟨keeps_chan hQ'.1 hch, fun j hj => ?_⟩
      by_cases e : j = i
      · rw [e]
        show Keeps ((upd p.σ.tk i (.ended gc w) i).own R i) ((upd p.σ.tk i (.ended gc w) i).ref R) _
        rw [upd_same]; exact keeps_chan (Keeps.refl _ _) hch
      · show Keeps ((upd p.σ.tk i (.ended gc w) j).own R j) ((upd p.σ.tk i (.ended gc w) j).ref R) _
        rw [upd_ne _ _ e]; exact keeps_chan (hQ'.2 j hj) hch
  rw [← C.L] at key; exact key
end
end
section
open Go.Conc Go.RowKit
open Go.ConcN (sumTo upd sumTo_upd upd_ne upd_same)

def Gs.begun (σ : Gs) (R : Rn) (i X bg : Nat) (js' : List Nat) : Gs := { st := (⟨X, 0, none⟩, .pointer (some ⟨R.A, 0, none⟩)) :: (⟨bg, 0, none⟩, .pointer (some ⟨R.A, 5, none⟩)) :: σ.st, ng := σ.ng + 1, L := σ.L + 1, nb := σ.nb + 1, Inb := upd σ.Inb 0 (some (seat0 R.wch R.ech (HomeA R.A R.wch R.ech (R.cR :: R.csR)))), St := upd σ.St 0 (StL ((⟨X, 0, none⟩, .pointer (some ⟨R.A, 0, none⟩)) :: plA R.A R.wch R.ech)), tk := upd σ.tk i (.live σ.ng), js := js' }

section
variable {R : Rn} {Post : Value → World → Prop} {σ : Gs} {Λ i κ bg X bt M0 M : Nat} {p : Ph Gs}
theorem futU_t (H : RnOk R) (IH : ∀ ν, ν < Λ → HeadAll R Post ν) (hi : i < R.n) : FutU (eT R i M0 X bt) (StT R i X bt) M0 (PsiT R Post Λ i κ bg X bt M0) :=
  ⟨fun p => futT H p, fun p x c cs w now t en ev m k h1 h2 h3 h4 h5 h6 h7 h8 h9 h10 h11 hcont => wait_t H IH hi p x c cs w now t en ev m k h1 h2 h3 h4 h5 h6 h7 h8 h9 h10 h11 (fun p' w' en' ev' m' s r => hcont p' w' en' ev' m' s r.ok r.tw r.cnt r.sz r.e9 r.c9 r.row r.temp r.stat r.size)⟩

theorem pl_A (g : Good R σ M) : ∀ y ∈ plA R.A R.wch R.ech, y ∈ σ.st := fun y hy => g.sub y (by
  simp only [plA, List.mem_cons, List.not_mem_nil, or_false] at hy; rcases hy with rfl | rfl <;> simp [Rn.st0])
theorem len_le : ∀ (l : List Nat) (f : Nat → Nat), (∀ j ∈ l, 0 < f j) → l.length ≤ (l.map f).sum
  | [], _, _ => by simp
  | a :: l, f, h => by
    have := len_le l f (fun j hj => h j (List.mem_cons_of_mem _ hj)); have := h a (List.mem_cons_self ..)
    simp
    omega

theorem good_start (H : RnOk R) (g : Good R σ M) (hi : i < R.n) {js' : List Nat} (hjs : σ.js = i :: js') (hf : σ.tk i = .fresh) {M' : Nat} (hX : M ≤ X ∧ X < M') (hb : M ≤ bg ∧ bg < M') : Good R (σ.begun R i X bg js') M' := by
  have hNM := g.N; have hI : R.wI.heap.size ≤ R.N := by have := H.gb'; have := H.l1; omega
  have tki : (σ.begun R i X bg js').tk i = .live σ.ng := upd_same ..; have tkj : ∀ j, j ≠ i → (σ.begun R i X bg js').tk j = σ.tk j := fun j h => upd_ne _ _ h
  have hnd := g.nodup; rw [hjs] at hnd; have hij : i ∉ js' := (List.nodup_cons.1 hnd).1
  have hU : ∀ j, j < R.n → ∀ a, ((σ.begun R i X bg js').tk j).U R j a → j ≠ i ∧ (σ.tk j).U R j a := fun j hj a u => by
    by_cases e : j = i
    · rw [e, tki] at u; exact u.elim
    · rw [tkj j e] at u; exact ⟨e, u⟩
  have hP : ∀ j q, (σ.begun R i X bg js').tk j = .parked q → j ≠ i ∧ σ.tk j = .parked q := fun j q hq => by
    by_cases e : j = i
    · rw [e, tki] at hq; cases hq
    · rw [tkj j e] at hq; exact ⟨e, hq⟩
  exact { sub := fun y hy => List.mem_cons_of_mem _ (List.mem_cons_of_mem _ (g.sub y hy))
          st := fun y hy => by
            rcases List.mem_cons.1 hy with rfl | hy
            · exact ⟨.inl rfl, by show _ ≤ X; omega, hX.2, .inr (by show _ ≤ X; omega)⟩
            · rcases List.mem_cons.1 hy with rfl | hy
              · exact ⟨.inl rfl, by show _ ≤ bg; omega, hb.2, .inr (by show _ ≤ bg; omega)⟩
              · have := g.st y hy; exact ⟨this.1, this.2.1, by omega, this.2.2.2⟩
          N := by omega
          ow := fun j hj a u => by have := g.ow j hj a (hU j hj a u).2; exact ⟨this.1, by omega⟩
          dj := fun j hj j' hj' hne a b u u' hNa => g.dj j hj j' hj' hne a b (hU j hj a u).2 (hU j' hj' b u').2 hNa
          su := fun y hy j hj a u => by
            have h1 := hU j hj a (TSt.v_u u); have h2 := (g.ow j hj a h1.2).2; rw [tkj j h1.1] at u; rcases List.mem_cons.1 hy with rfl | hy
            · show a.block ≠ X; omega
            · rcases List.mem_cons.1 hy with rfl | hy
              · show a.block ≠ bg; omega
              · exact g.su y hy j hj a u
          xu := fun j hj q hq j' hj' a u => g.xu j hj q (hP j q hq).2 j' hj' a (hU j' hj' a u).2
          pk := fun j hj q hq => by
            obtain ⟨h1, h2, h3, h4, h5, h6, h7, h8, h9, h10, h11, h12, h13, h14, h15⟩ := g.pk j hj q (hP j q hq).2; exact ⟨List.mem_cons_of_mem _ (List.mem_cons_of_mem _ h1), h2, (upd_ne _ _ (by omega)).trans h3, h4, Nat.lt_succ_of_lt h5, h6, h7, h8, h9, h10, h11, by omega, h13, h14, List.mem_cons_of_mem _ (List.mem_cons_of_mem _ h15)⟩
          px := fun j hj j' hj' hne q q' hq hq' => g.px j hj j' hj' hne q q' (hP j q hq).2 (hP j' q' hq').2
          inb := fun gg s hs h0 => by
            have hs' : upd σ.Inb 0 _ gg = some s := hs; rw [upd_ne _ _ h0] at hs'; obtain ⟨j, q, hj, hq, hk⟩ := g.inb gg s hs' h0; have hji : j ≠ i := fun z => by subst z; rw [hf] at hq; cases hq
            exact ⟨j, q, hj, by rw [tkj j hji]; exact hq, hk⟩
          stl := fun gg y hs hy => by
            have hs' : (upd σ.Inb 0 (some (seat0 R.wch R.ech (HomeA R.A R.wch R.ech (R.cR :: R.csR)))) gg).isSome := hs; have hy' : upd σ.St 0 (StL ((⟨X, 0, none⟩, .pointer (some ⟨R.A, 0, none⟩)) :: plA R.A R.wch R.ech)) gg y := hy
            by_cases h0 : gg = 0
            · subst h0
              rw [upd_same] at hy'; obtain ⟨z, hz, rfl⟩ := hy'; rcases List.mem_cons.1 hz with rfl | hz
              · exact ⟨_, List.mem_cons_self .., rfl⟩
              · exact ⟨z, List.mem_cons_of_mem _ (List.mem_cons_of_mem _ (pl_A g z hz)), rfl⟩
            · rw [upd_ne _ _ h0] at hs' hy'
              obtain ⟨z, hz, rfl⟩ := g.stl gg y hs' hy'; exact ⟨z, List.mem_cons_of_mem _ (List.mem_cons_of_mem _ hz), rfl⟩
          nodup := (List.nodup_cons.1 hnd).2
          mem := fun j => by
            show j ∈ js' ↔ _
            by_cases e : j = i
            · rw [e, tki]; simp [TSt.wt, hij]
            · rw [tkj j e, ← g.mem j, hjs]; simp [e]
          nb9 := by
            show σ.nb + 1 + (js'.map fun j => (upd σ.tk i (.live σ.ng) j).fr).sum ≤ 9
            rw [sum_upd _ _ _ hij]; have := g.nb9; unfold Gs.fr at this; rw [hjs, List.map_cons, List.sum_cons, hf, show TSt.fresh.fr = 1 from rfl] at this; omega
          ng0 := Nat.succ_pos _
          en := fun j hj gc wp he => by
            by_cases e : j = i
            · rw [e, tki] at he; cases he
            · rw [tkj j e] at he; exact g.en j hj gc wp he }

theorem st_sh (g : Good R σ M) : ∀ y, AnyS σ.St (fun gg => (σ.Inb gg).isSome) y → ¬ ShL R.l y := fun y ⟨gg, h1, h2⟩ ⟨A, _, z⟩ => by
  obtain ⟨p, hp, rfl⟩ := g.stl gg y h1 h2; have := (g.st p hp).1; rcases z with z | z <;> (simp at z; rw [z] at this; simp at this)
theorem qg_live {tk : Nat → TSt} {w : World} (h : QG R tk w) : QG R (upd tk i (.live κ)) w := ⟨h.1, fun j hj => by
  by_cases e : j = i
  · subst e; rw [upd_same]; exact fun a v u => u.elim
  · rw [upd_ne _ _ e]; exact h.2 j hj⟩
theorem ok_live {st : List (Addr × Value)} {tk : Nat → TSt} {a : Addr} {wr : Bool} (h : OkG R st tk a wr) : OkG R st (upd tk i (.live κ)) a wr := ⟨h.1, fun hw => by
  obtain ⟨h1, h2, h3, h4⟩ := h.2 hw; refine ⟨h1, h2, h3, fun j hj o => ?_⟩
  by_cases e : j = i
  · subst e; rw [upd_same] at o; exact o.elim
  · rw [upd_ne _ _ e] at o; exact h4 j hj o⟩
theorem old_cells {wI w : World} (h : Old wI w) {a : Addr} (ha : a.block < wI.heap.size) : w.cell? a = wI.cell? a ∧ w.frozen? a = wI.frozen? a := by
  have e := h.2.2.2.2 a.block ha
  constructor
  · unfold World.cell?; rw [e]
  · unfold World.frozen?; rw [e]
theorem stt_sb (H : RnOk R) (hi : i < R.n) (a : Addr) (ha : StT R i X bt a) (hX : R.N ≤ X) (hb : R.N ≤ bt) : (eT R i M0 X bt).sb a.block ∧ a.block ≠ (eT R i M0 X bt).A ∧ a.block ≠ (eT R i M0 X bt).J ∧ a ≠ ⟨R.HD, (eT R i M0 X bt).cl, none⟩ := by
  have hg := H.gb'; have hn := H.gne; have hc := H.cb' hi; have hl := H.l1; have i0 := H.i0
  have key : a.block ∈ 0 :: R.gb ++ R.cb i ++ [X, bt] ∧ a.block ≠ R.A ∧ a.block ≠ R.J ∧ a.block ≠ R.HD := by
    rcases ha with rfl | ha | ha | rfl | rfl
    · exact ⟨by simp, by show 0 ≠ _; omega, by show 0 ≠ _; omega, by show 0 ≠ _; omega⟩
    · simp only [List.mem_cons, List.not_mem_nil, or_false] at ha
      rcases ha with rfl | rfl | rfl | rfl | rfl
      · exact ⟨by simp [Rn.gb], by show R.B ≠ _; omega, by show R.B ≠ _; omega, by show R.B ≠ _; omega⟩
      · exact ⟨by simp [Rn.gb], by show R.B ≠ _; omega, by show R.B ≠ _; omega, by show R.B ≠ _; omega⟩
      · exact ⟨by simp [Rn.gb], by show R.bo ≠ _; omega, by show R.bo ≠ _; omega, by show R.bo ≠ _; omega⟩
      · exact ⟨by simp [Rn.gb], by show R.bl ≠ _; omega, by show R.bl ≠ _; omega, by show R.bl ≠ _; omega⟩
      · exact ⟨by simp [Rn.cb], by show R.bi i ≠ _; omega, by show R.bi i ≠ _; omega, by show R.bi i ≠ _; omega⟩
    · rw [(out_blk ha).1]
      exact ⟨by simp [Rn.gb], by omega, by omega, by omega⟩
    · exact ⟨by simp, by show X ≠ _; omega, by show X ≠ _; omega, by show X ≠ _; omega⟩
    · exact ⟨by simp, by show bt ≠ _; omega, by show bt ≠ _; omega, by show bt ≠ _; omega⟩
  exact ⟨key.1, key.2.1, key.2.2.1, fun e => key.2.2.2 (congrArg Addr.block e)⟩
end
end
end Go.Proofs.YtobagnjnbmgidaaGreatDoor
