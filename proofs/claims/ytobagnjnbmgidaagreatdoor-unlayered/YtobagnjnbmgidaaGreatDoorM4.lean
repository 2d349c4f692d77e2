/- On: hand-overs, a go statement, the beginning. -/
import Derived.Test.YtobagnjnbmgidaaGreatDoorG6
namespace Go.Proofs.YtobagnjnbmgidaaGreatDoor
section
open Go.Conc
open Go.ConcN (sumTo upd sumTo_upd upd_ne upd_same)

section
variable {P : Program} {Post : Value → World → Prop} {K K' Q Q' : World → Prop} {Shun : Loc → Prop} {St St' : Nat → Loc → Prop} {B : Nat} {Inb Inb' : Nat → Option Seat} {Gp : Grp} {h j c k kk L nb n : Nat} {ds ds' : List Nat} {sg sg' : Nat → Nat} {T T' : Trace} {gs gs' : Array Goroutine} {w w' : World} {q q' : Nat → Nat} {a a₂ g : Goroutine} {s : Seat} {v z z' : Value} {es : Array Event}

theorem C3.passed (C : C3 P K Shun St B Inb Gp h ds sg T gs w q) (hoth : ∀ x, x ≠ h → x ≠ j → gs'[x]? = gs[x]?) (hI : ∀ x, x ≠ h → x ≠ j → Inb' x = Inb x) (hIj : Inb' j = none) (hSt : ∀ x, x ≠ h → x ≠ j → St' x = St x) (hds : ∀ x, x ≠ h → (x ∈ ds' ↔ x ∈ ds)) (hjh : j ≠ h) (hjd : j ∉ ds) (hnd : ds'.Nodup)
    (hsg : ∀ x, x ≠ h → sg' x = sg x) (hq : ∀ x, x ≠ h → q' x = q x) (hD : ∀ x, Deaf T' x = Deaf T x) (hab : ∀ x, gs'.size ≤ x → gs.size ≤ x)
    (hh : (h ∉ ds' ∧ ∃ g, gs'[h]? = some g ∧ Idle P K (St' h) B T' h (q' h) g (Inb' h)) ∨ (h ∈ ds' ∧ 0 < h ∧ Inb' h = none ∧ ∃ g, gs'[h]? = some g ∧ DP P K Gp (q' h) (sg' h) g ∧ Deaf T' h = dC (sg' h)))
    (hch : ∀ i s c, Inb' i = some s → s.has c → ∃ cap k, w'.heap[c]? = some (.chan cap #[] false k k false)) (hwf : ∀ s, Inb' h = some s → s.Wf) (hinj : ∀ i s s' c, Inb' h = some s → i ≠ h → i ≠ j → Inb i = some s' → s.has c → ¬ s'.has c)
    (hlow : ∀ s c, Inb' h = some s → s.has c → c < B) (hss : ∀ l, (Inb' h).isSome → St' h l → ¬ Shun l) (hp : P3 Shun St' (fun g => (Inb' g).isSome) B j T') (hK : K w') : C3 P K Shun St' B Inb' Gp j ds' sg' T' gs' w' q' := by
  have hcase : ∀ i s, Inb' i = some s → (i = h) ∨ (i ≠ h ∧ i ≠ j ∧ Inb i = some s) := fun i s e => by
    by_cases e1 : i = h
    · exact .inl e1
    · have e2 : i ≠ j := fun z => by rw [z, hIj] at e; cases e
      exact .inr ⟨e1, e2, by rw [← hI i e1 e2]; exact e⟩
  refine ⟨fun x y hx hd hy => ?_, fun x hx => ?_, hnd, hch, fun i s e => ?_, fun i i' s s' c e1 e2 h1 h2 => ?_, fun x hx => by rw [hD]; exact C.above x (hab x hx), fun i s c e hc => ?_, hIj, fun i l hs hl => ?_, hp, hK⟩
  · by_cases e : x = h
    · subst e
      rcases hh with ⟨_, g, hg, hid⟩ | ⟨hin, _⟩
      · rw [hg] at hy; obtain rfl := Option.some.inj hy; exact hid
      · exact absurd hin hd
    · rw [hoth x e hx] at hy
      have := C.idle x y e (fun z => hd ((hds x e).2 z)) hy; rw [hI x e hx, hSt x e hx, hq x e]; cases ei : Inb x with
      | none => rw [ei] at this; exact ⟨this.1, by rw [hD]; exact this.2⟩
      | some s => rw [ei] at this; exact this
  · by_cases e : x = h
    · subst e
      rcases hh with ⟨hn, _⟩ | ⟨_, h0, hn, g, hg, hdp, hdf⟩
      · exact absurd hx hn
      · exact ⟨fun z => hjh z.symm, h0, hn, g, hg, hdp, hdf⟩
    · have hx' := (hds x e).1 hx
      have exj : x ≠ j := fun z => hjd (z ▸ hx')
      obtain ⟨h1, h2, h3, g, h4, h5, h6⟩ := C.dep x hx'; exact ⟨exj, h2, by rw [hI x e exj]; exact h3, g, by rw [hoth x e exj]; exact h4, by rw [hq x e, hsg x e]; exact h5, by rw [hD, hsg x e]; exact h6⟩
  · rcases hcase i s e with rfl | ⟨_, _, e'⟩
    · exact hwf s e
    · exact C.wf i s e'
  · rcases hcase i s e1 with rfl | ⟨i1, i2, e1'⟩ <;> rcases hcase i' s' e2 with rfl | ⟨i3, i4, e2'⟩
    · rfl
    · exact absurd h2 (hinj i' s s' c e1 i3 i4 e2' h1)
    · exact absurd h1 (hinj i s' s c e2 i1 i2 e1' h2)
    · exact C.inj i i' s s' c e1' e2' h1 h2
  · rcases hcase i s e with rfl | ⟨_, _, e'⟩
    · exact hlow s c e hc
    · exact C.low i s c e' hc
  · obtain ⟨s, e⟩ := Option.isSome_iff_exists.1 hs
    rcases hcase i s e with rfl | ⟨i1, i2, e'⟩
    · exact hss l hs hl
    · exact C.ss i l (by rw [e']; rfl) (by rw [← hSt i i1 i2]; exact hl)

def Met3 (P : Program) (K : World → Prop) (Shun : Loc → Prop) (St : Nat → Loc → Prop) (B : Nat) (Inb : Nat → Option Seat) (Gp : Grp) (L nb h j : Nat) (a₂ : Goroutine) (s : Seat) (c kk k n : Nat) (v : Value) (w : World) (m : Machine) (t : Trace) : Prop :=
  ∃ (gs' gs₀ : Array Goroutine) (g₂ : Goroutine) (d : Nat) (sl' : Option (Nat × Nat)) (q' : Nat → Nat) (ds : List Nat) (sg : Nat → Nat) (T₀ ops₀ : Trace) (fh : FuncId) (ph : String) (fj : FuncId) (pj : String), m = crowd gs' (Wv Gp ((w.at d).setChan c 0 #[] false (k + 1) (k + 1) false) (L + ds.length)) sl' ∧
    t = T₀ ++ (ops₀ ++ met h j fh ph fj pj c k 0) ∧ gs'.size = n ∧ gs₀.size = n ∧ gs'[h]? = some (Go.Conc.served a₂ undef) ∧ gs'[j]? = some (Go.Conc.served g₂ (commResult s.cases s.shape kk v true)) ∧ s.home g₂ ∧ (∀ x, x ≠ h → x ≠ j → gs'[x]? = gs₀[x]?) ∧ L + ds.length ≤ nb ∧ (∀ i, i ∈ ds → sg i ≤ 2) ∧
    C3 P K Shun St B Inb Gp h ds sg T₀ gs₀ (Wv Gp (w.at d) (L + ds.length)) q' ∧ P3 Shun St (fun g => (Inb g).isSome) B h (T₀ ++ ops₀) ∧ (∀ x, Deaf (T₀ ++ ops₀) x = Deaf T₀ x) ∧ Deaf T₀ h = 0

theorem wv_setChan (G : GK K Shun Gp) (hK : K w) (hc : w.heap[c]? = some (.chan 0 #[] false k k false)) (m x : Nat) : (Wv Gp w m).setChan c 0 #[] false x x false = Wv Gp (w.setChan c 0 #[] false x x false) m :=
  setChan_comm w (fun e => by obtain ⟨cs, el, f, hr⟩ := (G.row w hK).1; rw [e, hc] at hr; cases hr) _ _ _ _ _ _ _

theorem give_parked3 (G : GK K Shun Gp) (hB : Gp.st.block < B) (hnb : nb ≤ 9) (hjh : j ≠ h) (hj : Inb j = some s) (hk : s.cases[kk]? = some (rcase c z)) (hc : w.heap[c]? = some (.chan 0 #[] false k k false)) :
    ∀ (μ : Nat) (gs : Array Goroutine) (T : Trace) (q : Nat → Nat) (sl : Option (Nat × Nat)) (d₀ : Nat) (ds : List Nat) (sg : Nat → Nat), sumTo gs.size q = μ → j < gs.size → gs[h]? = some (parked a₂ #[scase c v z'] .send) → 0 < q j → L + ds.length ≤ nb → (∀ i, i ∈ ds → sg i ≤ 2) → Deaf T h = 0 →
      C3 P K Shun St B Inb Gp h ds sg T gs (Wv Gp (w.at d₀) (L + ds.length)) q → ∃ N m' T', runNT P N (crowd gs (Wv Gp (w.at d₀) (L + ds.length)) sl) T = (.next m', T') ∧ Met3 P K Shun St B Inb Gp L nb h j a₂ s c kk k gs.size v w m' T' := by
  intro μ
  induction μ using Nat.strongRecOn with
  | _ μ ih =>
    intro gs T q sl d₀ ds sg hμ hjlt ha hqj hL hsg hdf C; have hjd : j ∉ ds := fun e => by rw [(C.dep j e).2.2.1] at hj; cases hj
    have hgj : gs[j]? = some gs[j] := Array.getElem?_eq_getElem hjlt; have hS : Sits P (j == 0) K (St j) B s (q j) gs[j] := by have := C.idle j _ hjh hjd hgj; rwa [hj] at this
    have hrun : gs[j].status = .running := (Go.Conc.Sits.status C.keep hS).elim (·.1) fun x => by omega
    obtain ⟨i, g, d, sl', hi, hg, hpick⟩ := crowd_pick (P := P) (w := Wv Gp (w.at d₀) (L + ds.length)) (sl := sl) (C.awake ha (.inr rfl)) ⟨j, _, hgj, hrun⟩; have hpick' : stepT P (crowd gs (Wv Gp (w.at d₀) (L + ds.length)) sl) = runT P (crowd gs (Wv Gp (w.at d) (L + ds.length)) sl') i := hpick; have Cd : C3 P K Shun St B Inb Gp h ds sg T gs (Wv Gp (w.at d) (L + ds.length)) q := C.in (G.at' _ d C.keep) (fun _ _ _ _ _ => rfl); have hKd : K (w.at d) := (wv_k G).1 Cd.keep; have hcw : (w.at d).heap[c]? = some (.chan 0 #[] false k k false) := hc; have hcm : ∀ m, (Wv Gp (w.at d) m).heap[c]? = some (.chan 0 #[] false k k false) := fun m => (wv_chan G hKd m hcw).trans hcw
    have hcd := hcm (L + ds.length); have hlth : h < gs.size := (Array.getElem?_eq_some_iff.1 ha).1; have hih : i ≠ h := fun e => by subst e; rw [ha] at hi; obtain rfl := Option.some.inj hi; cases hg
    have hwf := C.wf j s hj
    by_cases ej : i = j ∧ ∃ g₂, AtIn P (i == 0) K (St i) B s g g₂
    · obtain ⟨rfl, g₂, hat⟩ := ej
      obtain ⟨_, _, _, _, hhome, esj, hesj, hstp⟩ := hat; obtain ⟨hops, hr, hl, hd⟩ := evC_ops (i := i) (fn := g.frame.fn) (pos := g.frame.place) hesj
      have hp : partners (gs.setIfInBounds i ph) c true = [(h, 0)] := by
        rw [partners_one (stand_get (Ne.symm hjh) ha) fun x y hxh hy => by
          rcases getElem?_stand gs i x y hy with ⟨_, rfl⟩ | ⟨_, hy'⟩
          · exact offersAt_ph _ _
          · exact Cd.noSend hxh hy' _]
        simp [offersAt_parked_send]
      have ho : ∀ (m : Nat) (c' : CommCase), m ≠ kk → s.cases[m]? = some c' → NoWays (Wv Gp (w.at d) (L + ds.length)) (gs.setIfInBounds i ph) c' := by
        intro m c' hm hc'; obtain ⟨c₂, z₂, rfl⟩ := hwf.recvs c' (Array.mem_of_getElem? hc'); have hne : c ≠ c₂ := fun ec => seat_apart hwf hk m _ hm hc' (by rw [ec]; rfl)
        obtain ⟨cap₂, k₂, hc₂⟩ := Cd.chans i s c₂ hj ⟨m, z₂, hc'⟩; refine ways_recv_none hc₂ (partners_nil fun x y hy => ?_); rcases getElem?_stand gs i x y hy with ⟨_, rfl⟩ | ⟨_, hy'⟩
        · exact offersAt_ph _ _
        · by_cases hxh : x = h
          · subst hxh
            rw [ha] at hy'; obtain rfl := Option.some.inj hy'; rw [offersAt_parked_send, if_neg hne]
          · exact Cd.noSend hxh hy' _
      have hrt := crowd_sel_recv_meets (sl := sl') hi (hstp _ Cd.keep) hk ho hcd (Ne.symm hjh) ha hp; have hsome : (Inb i).isSome := by rw [hj]; rfl
      refine ⟨1, _, _, run_one (hpick'.trans hrt), _, gs, g₂, d, sl', q, ds, sg, T, _, _, _, _, _, by rw [wv_setChan G hKd hcw], rfl, by simp, rfl, ?_, ?_, hhome, fun x hx hxj => ?_, hL, hsg, Cd, p3_read C.past hops (fun op hop b hb => ⟨(hr op hop b hb).1, hsome, (hr op hop b hb).2⟩) (fun _ => hd T) hl, fun x => ?_, hdf⟩
      · rw [Array.getElem?_setIfInBounds_ne hjh, Array.getElem?_setIfInBounds_self_of_lt hlth, finishComm_send]
      · rw [Array.getElem?_setIfInBounds_self_of_lt (by simpa using hjlt), finishComm_served]
      · rw [Array.getElem?_setIfInBounds_ne (fun z => hxj z.symm), Array.getElem?_setIfInBounds_ne (fun z => hx z.symm)]
      · by_cases ex : x = i
        · subst ex; exact hd T
        · exact Deaf_other T (fun z => ex z.symm) _ hops
    · obtain ⟨gs', ops, q', ds', sg', hrt, hops, hsz, hgh, hqo, hq0, C', hsg', hle, hlt⟩ := Cd.by (sl := sl') G hB (by omega) hsg hi hih hg (fun gx m hgx => by rw [ha] at hgx; obtain rfl := Option.some.inj hgx; exact again_send_open (hcm m))
        (fun s' g₂ hs' hat gx c' hgx hc' => by
          rw [ha] at hgx; obtain rfl := Option.some.inj hgx; rw [offersAt_parked_send, if_neg]; intro ec; have hij : i = j := C.inj i j s' s c hs' hj (ec ▸ hc') ⟨kk, z, hk⟩; subst hij; rw [hj] at hs'; obtain rfl := Option.some.inj hs'; exact ej ⟨rfl, g₂, hat⟩)
      have hq' : 0 < q' j := by
        by_cases hij : j = i
        · subst hij
          rcases Nat.eq_zero_or_pos (q' j) with h0 | h0
          · obtain ⟨g₂, hat⟩ := hq0 s hj h0
            exact absurd ⟨rfl, g₂, hat⟩ ej
          · exact h0
        · rw [hqo j hij]; exact hqj
      obtain ⟨N, m', T', h1, h2⟩ := ih (sumTo gs'.size q') (by rw [hsz]; omega) gs' _ q' sl' d ds' sg' rfl (by rw [hsz]; exact hjlt) (by rw [hgh]; exact ha) hq' (by omega) hsg' (by rw [Deaf_other T hih _ hops]; exact hdf) C'; exact ⟨N + 1, m', T', by simp only [runNT, hpick', hrt]; exact h1, by rw [← hsz]; exact h2⟩

theorem give3 (G : GK K Shun Gp) (hB : Gp.st.block < B) (hnb : nb ≤ 9) (hjh : j ≠ h) (hj : Inb j = some s) (hk : s.cases[kk]? = some (rcase c z)) (hc : w.heap[c]? = some (.chan 0 #[] false k k false)) (hrun : a.status = .running)
    (hsend : ∀ d m, K (w.at d) → stepG P (h == 0) a (Wv Gp (w.at d) m) = .comm a₂ #[scase c v z'] true .send (Wv Gp (w.at d) m) es) (hes : ∀ e ∈ es, EvR Shun (AnyS St (fun g => (Inb g).isSome)) B h e ∧ e.loc ≠ .mark .disable ∧ e.loc ≠ .mark .enable)
    (gs : Array Goroutine) (T : Trace) (q : Nat → Nat) (sl : Option (Nat × Nat)) (d₀ : Nat) (ds : List Nat) (sg : Nat → Nat) (hjlt : j < gs.size) (ha : gs[h]? = some a) (hL : L + ds.length ≤ nb) (hsg : ∀ i, i ∈ ds → sg i ≤ 2) (hdf : Deaf T h = 0) (C : C3 P K Shun St B Inb Gp h ds sg T gs (Wv Gp (w.at d₀) (L + ds.length)) q) :
    ∃ N m' T', runNT P N (crowd gs (Wv Gp (w.at d₀) (L + ds.length)) sl) T = (.next m', T') ∧ Met3 P K Shun St B Inb Gp L nb h j a₂ s c kk k gs.size v w m' T' := by
  obtain ⟨N, gs₁, d₁, d, sl₁, sl', T₁, q₁, ds₁, sg₁, e1, e2, e3, e4, e5, e6, Cd, e8⟩ := r3_picked G hB hnb hrun _ gs T q sl d₀ ds sg rfl ha hL hsg C; have hKd : K (w.at d) := (wv_k G).1 Cd.keep; have hcw : (w.at d).heap[c]? = some (.chan 0 #[] false k k false) := hc; have hcd : (Wv Gp (w.at d) (L + ds₁.length)).heap[c]? = some (.chan 0 #[] false k k false) := (wv_chan G hKd _ hcw).trans hcw; have hlth : h < gs₁.size := (Array.getElem?_eq_some_iff.1 e4).1; have hjd : j ∉ ds₁ := fun e => by rw [(Cd.dep j e).2.2.1] at hj; cases hj
  have hjlt' : j < gs₁.size := by omega
  have hgj : gs₁[j]? = some gs₁[j] := Array.getElem?_eq_getElem hjlt'; have hwf := Cd.wf j s hj; have hS : Sits P (j == 0) K (St j) B s (q₁ j) gs₁[j] := by have := Cd.idle j _ hjh hjd hgj; rwa [hj] at this
  have hdT : Deaf T₁ h = 0 := e8.trans hdf; have hpo : P3 Shun St (fun g => (Inb g).isSome) B h (T₁ ++ MemOp.ofEvents h a.frame.fn a.frame.place es) := p3_own Cd.past (fun e he => (hes e he).1) (by rw [Cd.noh]; simp); have hdf' : Deaf (T₁ ++ MemOp.ofEvents h a.frame.fn a.frame.place es) h = Deaf T₁ h := by rw [Deaf_own]; exact deafBehind_still (fun e he => (hes e he).2) _
  have hDa : ∀ x, Deaf (T₁ ++ MemOp.ofEvents h a.frame.fn a.frame.place es) x = Deaf T₁ x := fun x => by
    by_cases ex : x = h
    · subst ex; exact hdf'
    · exact Deaf_other T₁ (fun z => ex z.symm) _ ops_g
  have hoff : ∀ (x : Nat) (y : Goroutine), x ≠ j → (gs₁.setIfInBounds h ph)[x]? = some y → offersAt y c false = [] := by
    intro x y hxj hy; rcases getElem?_stand gs₁ h x y hy with ⟨_, rfl⟩ | ⟨hx, hy'⟩
    · exact offersAt_ph _ _
    · exact Cd.noRecv hx hy' fun s' hs' hc' => hxj (Cd.inj x j s' s c hs' hj hc' ⟨kk, z, hk⟩)
  rcases hS with ⟨nn, w₀, hq, hG⟩ | ⟨hq0, g₀, g₂, hpk, hat⟩
  · have hjr : gs₁[j].status = .running := (Go.Conc.Sits.status Cd.keep (.inl ⟨nn, w₀, hq, hG⟩)).elim (·.1) fun x => by omega
    have hp : partners (gs₁.setIfInBounds h ph) c false = [] := partners_nil fun x y hy => by
      by_cases hxj : x = j
      · subst hxj
        rw [stand_get hjh hgj] at hy; obtain rfl := Option.some.inj hy; exact offersAt_of_not_blocked (by rw [hjr]; simp) _ _
      · exact hoff x y hxj hy
    have hw : ∀ cc ∈ #[scase c v z'], NoWays (Wv Gp (w.at d) (L + ds₁.length)) (gs₁.setIfInBounds h ph) cc := by
      intro cc hcc; simp only [List.mem_toArray, List.mem_cons, List.not_mem_nil, or_false] at hcc; subst hcc; exact ways_send_none hcd (Nat.le_refl _) hp
    have hrt := crowd_waits (sl := sl') e4 (hsend d _ hKd) hw
    have C' : C3 P K Shun St B Inb Gp h ds₁ sg₁ (T₁ ++ MemOp.ofEvents h a.frame.fn a.frame.place es) (gs₁.setIfInBounds h (parked a₂ #[scase c v z'] .send)) (Wv Gp (w.at d) (L + ds₁.length)) q₁ := by
      refine ⟨fun y gy hy hyd hgy => ?_, fun y hy => ?_, Cd.nd, Cd.chans, Cd.wf, Cd.inj, fun x hx => by rw [hDa]; exact Cd.above x (by simpa using hx), Cd.low, Cd.noh, Cd.ss, hpo, Cd.keep⟩
      · rw [Array.getElem?_setIfInBounds_ne (fun e => hy e.symm)] at hgy
        have := Cd.idle y gy hy hyd hgy; cases e : Inb y with
        | none => rw [e] at this; exact ⟨this.1, by rw [hDa]; exact this.2⟩
        | some s' => rw [e] at this; exact this
      · obtain ⟨h1, h2, h3, g, h4, h5, h6⟩ := Cd.dep y hy
        exact ⟨h1, h2, h3, g, by rw [Array.getElem?_setIfInBounds_ne (fun e => h1 e.symm)]; exact h4, h5, by rw [hDa]; exact h6⟩
    obtain ⟨N', m', T', h1, h2⟩ := give_parked3 (v := v) (z' := z') (a₂ := a₂) G hB hnb hjh hj hk hc _ _ _ q₁ sl' d ds₁ sg₁ rfl (by simpa using hjlt') (Array.getElem?_setIfInBounds_self_of_lt hlth) (by omega) e5 e6 (by rw [hDa]; exact hdT) C'; exact ⟨(N + 1) + N', m', T', runNT_then (run_then e1 (e2.trans hrt)) h1, by rw [← e3]; simpa using h2⟩
  · have hgj' : gs₁[j]? = some (parked g₂ s.cases s.shape) := by rw [hgj, hpk]
    have hp : partners (gs₁.setIfInBounds h ph) c false = [(j, kk)] := by
      rw [partners_one (stand_get hjh hgj') fun x y hxj hy => hoff x y hxj hy, offersAt_parked_at hk (seat_apart hwf hk)]
      rfl
    have hrt := crowd_send_meets_sel (sl := sl') e4 (hsend d _ hKd) hcd hjh hgj' hk hp; refine ⟨N + 1, _, _, run_then e1 (e2.trans hrt), _, gs₁, g₂, d, sl', q₁, ds₁, sg₁, T₁, _, _, _, _, _, by rw [wv_setChan G hKd hcw], rfl, by simp [e3], e3, ?_, ?_, hat.2.2.2.2.1, fun x hx hxj => ?_, e5, e6, Cd, hpo, hDa, hdT⟩
    · exact Array.getElem?_setIfInBounds_self_of_lt (by simpa using hlth)
    · rw [Array.getElem?_setIfInBounds_ne (fun z => hjh z.symm), Array.getElem?_setIfInBounds_self_of_lt hjlt', finishComm_served]
    · rw [Array.getElem?_setIfInBounds_ne (fun z => hx z.symm), Array.getElem?_setIfInBounds_ne (fun z => hxj z.symm)]

structure Give (P : Program) (K : World → Prop) (Shun : Loc → Prop) (St : Nat → Loc → Prop) (Inb : Nat → Option Seat) (Gp : Grp) (h n j c kk : Nat) (s : Seat) (v : Value) (a a₂ : Goroutine) (w : World) : Prop where
  kc : ∀ w k, K w → K (w.setChan c 0 #[] false k k false)
  jh : j ≠ h
  jn : j < n
  hj : Inb j = some s
  hk : ∃ z, s.cases[kk]? = some (rcase c z)
  run : a.status = .running
  send : ∃ z' es, (∀ d m, K (w.at d) → stepG P (h == 0) a (Wv Gp (w.at d) m) = .comm a₂ #[scase c v z'] true .send (Wv Gp (w.at d) m) es) ∧ ∀ e ∈ es, EvR Shun (AnyS St (fun g => (Inb g).isSome)) w.heap.size h e ∧ e.loc ≠ .mark .disable ∧ e.loc ≠ .mark .enable
  ch : ∃ k, w.heap[c]? = some (.chan 0 #[] false k k false)

theorem At3.give_sit (G : GK K Shun Gp) (hnb : nb ≤ 9) (H : Give P K Shun St Inb Gp h n j c kk s v a a₂ w) {sh : Seat} {Sth : Loc → Prop} {nh : Nat} (hwf : sh.Wf) (hSt : ∀ l, Sth l → l.isMemory = true ∧ ¬ Shun l) (hsit : Sits P (h == 0) K Sth w.heap.size sh nh (Go.Conc.served a₂ undef))
    (hch : ∀ c', sh.has c' → ∃ k', w.heap[c']? = some (.chan 0 #[] false k' k' false)) (hinj : ∀ i s' c', i ≠ h → i ≠ j → Inb i = some s' → sh.has c' → ¬ s'.has c')
    (next : ∀ k g₂, w.heap[c]? = some (.chan 0 #[] false k k false) → s.home g₂ → Q w → At3 P Post K Q' Shun (upd St h Sth) (upd (upd Inb h (some sh)) j none) Gp L nb j n 0 (Go.Conc.served g₂ (commResult s.cases s.shape kk v true)) (w.setChan c 0 #[] false (k + 1) (k + 1) false))
    (hQ : ∀ k, w.heap[c]? = some (.chan 0 #[] false k k false) → Q w → Q' (w.setChan c 0 #[] false (k + 1) (k + 1) false)) : At3 P Post K Q Shun St Inb Gp L nb h n 0 a w := by
  intro d₀ gs T q sl ds sg hsz ha hL hsg hq hd C; obtain ⟨k, hc⟩ := H.ch; obtain ⟨z, hk⟩ := H.hk; obtain ⟨z', es, hsend, hes⟩ := H.send; have hjh := H.jh; have hj := H.hj; have hB : Gp.st.block < w.heap.size := (G.row _ ((wv_k G).1 C.keep)).1.lt; obtain ⟨N, m', t', e1, gs', gs₀, g₂, d, sl', q', ds', sg', T₀, ops₀, fh, ph, fj, pj, rfl, rfl, m1, m2, m3, m4, m5, m6, m7, m8, C0, p0, hD0, hdh⟩ := give3 (v := v) (z' := z') G hB hnb hjh hj hk hc H.run hsend hes gs T q sl d₀ ds sg (by rw [hsz]; exact H.jn) ha hL hsg hd C; refine Goal.back e1 ?_; have hKd : K (w.at d) := (wv_k G).1 C0.keep; have hcw : (w.at d).heap[c]? = some (.chan 0 #[] false k k false) := hc; have hsc : s.has c := ⟨kk, z, hk⟩; have hDD : ∀ x, Deaf (T₀ ++ (ops₀ ++ met h j fh ph fj pj c k 0)) x = Deaf T₀ x := fun x => by rw [← Array.append_assoc, Deaf_quiet (met_quiet h j fh ph fj pj c k 0 x), hD0]
  have hIx : ∀ x, x ≠ h → x ≠ j → upd (upd Inb h (some sh)) j none x = Inb x := fun x h1 h2 => by rw [upd_ne _ _ h2, upd_ne _ _ h1]
  have hIh : upd (upd Inb h (some sh)) j none h = some sh := by rw [upd_ne _ _ (fun e => hjh e.symm), upd_same]
  have hSx : ∀ x, x ≠ h → upd St h Sth x = St x := fun x h1 => upd_ne _ _ h1
  have hcc : ∀ c' : Nat, (∃ cap k' : Nat, (w.at d).heap[c']? = some (Obj.chan cap #[] false k' k' false)) → ∃ cap k' : Nat, (Wv Gp ((w.at d).setChan c 0 #[] false (k + 1) (k + 1) false) (L + ds'.length)).heap[c']? = some (Obj.chan cap #[] false k' k' false) := fun c' ⟨cap, k', hk'⟩ => by
    have hK2 : K ((w.at d).setChan c 0 #[] false (k + 1) (k + 1) false) := H.kc _ _ hKd
    by_cases e : c = c'
    · subst e
      have := heap_setChan_self (w.at d) hcw 0 #[] false (k + 1) (k + 1) false; exact ⟨0, k + 1, (wv_chan G hK2 _ this).trans this⟩
    · have : ((w.at d).setChan c 0 #[] false (k + 1) (k + 1) false).heap[c']? = some (.chan cap #[] false k' k' false) := by rw [heap_setChan_ne _ _ _ _ _ _ _ e]; exact hk'
      exact ⟨cap, k', (wv_chan G hK2 _ this).trans this⟩
  have pp := p3_met (St' := upd St h Sth) (Sit' := fun g => (upd (upd Inb h (some sh)) j none g).isSome) p0 (fun g l hg hl => C0.ss g l hg hl) (fun g hg hgj => by
      have hgh : g ≠ h := fun e => by rw [e, C0.noh] at hg; cases hg
      refine ⟨by show (upd (upd Inb h (some sh)) j none g).isSome; rw [hIx g hgh hgj]; exact hg, fun l hl => by rw [hSx g hgh]; exact hl⟩)
    (fun g hg => by
      by_cases e : g = h
      · subst e; exact .inr ⟨rfl, fun l hl => hSt l (by rw [upd_same] at hl; exact hl)⟩
      · have e2 : g ≠ j := fun z => by subst z; rw [upd_same] at hg; cases hg
        refine .inl ⟨by rw [hIx g e e2] at hg; exact hg, e2, fun l hl => by rw [hSx g e] at hl; exact hl⟩) (by rw [hD0]; exact hdh) (by show (Inb j).isSome; rw [hj]; rfl) fh ph fj pj k (C0.low j s c hj hsc)
  rw [Array.append_assoc] at pp
  have C' : C3 P K Shun (upd St h Sth) w.heap.size (upd (upd Inb h (some sh)) j none) Gp j ds' sg' (T₀ ++ (ops₀ ++ met h j fh ph fj pj c k 0)) gs' (Wv Gp ((w.at d).setChan c 0 #[] false (k + 1) (k + 1) false) (L + ds'.length)) (upd q' h nh) := by
    refine C0.passed m6 hIx (upd_same ..) (fun x h1 h2 => hSx x h1) (fun x _ => Iff.rfl) hjh (fun e => by rw [(C0.dep j e).2.2.1] at hj; cases hj) C0.nd (fun _ _ => rfl) (fun x hx => upd_ne _ _ hx) hDD (fun x hx => by omega) (.inl ⟨fun e => (C0.dep h e).1 rfl, _, m3, ?_⟩) (fun i s' c' e hc' => ?_) (fun s' e => ?_) (fun i s1 s2 c' e h1 h2 e2 x1 x2 => ?_) (fun s' c' e hc' => ?_) (fun l _ hl => ?_) pp ((wv_k G).2 (H.kc _ _ hKd))
    · rw [hIh, upd_same, upd_same]; exact hsit
    · by_cases e1 : i = h
      · subst e1
        rw [hIh] at e; obtain rfl := Option.some.inj e; obtain ⟨k', hk'⟩ := hch c' hc'; exact hcc c' ⟨0, k', hk'⟩
      · have e2 : i ≠ j := fun z => by rw [z, upd_same] at e; cases e
        rw [hIx i e1 e2] at e; obtain ⟨cap, k', hk'⟩ := C0.chans i s' c' e hc'; exact hcc c' ⟨cap, k', wv_back G hKd _ hk'⟩
    · rw [hIh] at e; obtain rfl := Option.some.inj e; exact hwf
    · rw [hIh] at e; obtain rfl := Option.some.inj e; exact hinj i s2 c' h1 h2 e2 x1 x2
    · rw [hIh] at e; obtain rfl := Option.some.inj e
      obtain ⟨k', hk'⟩ := hch c' hc'; exact (Array.getElem?_eq_some_iff.1 hk').1
    · rw [upd_same] at hl; exact (hSt l hl).2
  have hfin := next k g₂ hc m5 hq d gs' _ (upd q' h nh) sl' ds' sg' (m1.trans hsz) m4 m7 m8 (hQ k hc hq) (by rw [hDD]; exact C0.past.hears j (by show (Inb j).isSome; rw [hj]; rfl)) (by rw [show (w.setChan c 0 #[] false (k + 1) (k + 1) false).heap.size = w.heap.size from by simp [World.setChan]]; exact C'); exact hfin

theorem At3.give_dep (G : GK K Shun Gp) (hnb : nb ≤ 9) (H : Give P K Shun St Inb Gp h n j c kk s v a a₂ w) (h0 : 0 < h) {nh : Nat} (hdp : DP P K Gp nh 0 (Go.Conc.served a₂ undef))
    (next : ∀ k g₂, w.heap[c]? = some (.chan 0 #[] false k k false) → s.home g₂ → Q w → At3 P Post K Q' Shun St (upd Inb j none) Gp L nb j n 0 (Go.Conc.served g₂ (commResult s.cases s.shape kk v true)) (w.setChan c 0 #[] false (k + 1) (k + 1) false))
    (hQ : ∀ k, w.heap[c]? = some (.chan 0 #[] false k k false) → Q w → Q' (w.setChan c 0 #[] false (k + 1) (k + 1) false)) : At3 P Post K Q Shun St Inb Gp (L + 1) nb h n 0 a w := by
  intro d₀ gs T q sl ds sg hsz ha hL hsg hq hd C; obtain ⟨k, hc⟩ := H.ch; obtain ⟨z, hk⟩ := H.hk; obtain ⟨z', es, hsend, hes⟩ := H.send; have hjh := H.jh; have hj := H.hj; have hB : Gp.st.block < w.heap.size := (G.row _ ((wv_k G).1 C.keep)).1.lt; obtain ⟨N, m', t', e1, gs', gs₀, g₂, d, sl', q', ds', sg', T₀, ops₀, fh, ph, fj, pj, rfl, rfl, m1, m2, m3, m4, m5, m6, m7, m8, C0, p0, hD0, hdh⟩ := give3 (v := v) (z' := z') G hB hnb hjh hj hk hc H.run hsend hes gs T q sl d₀ ds sg (by rw [hsz]; exact H.jn) ha hL hsg hd C; refine Goal.back e1 ?_; have hKd : K (w.at d) := (wv_k G).1 C0.keep; have hcw : (w.at d).heap[c]? = some (.chan 0 #[] false k k false) := hc; have hsc : s.has c := ⟨kk, z, hk⟩; have hDD : ∀ x, Deaf (T₀ ++ (ops₀ ++ met h j fh ph fj pj c k 0)) x = Deaf T₀ x := fun x => by rw [← Array.append_assoc, Deaf_quiet (met_quiet h j fh ph fj pj c k 0 x), hD0]
  have hIx : ∀ x, x ≠ j → upd Inb j none x = Inb x := fun x h2 => upd_ne _ _ h2
  have hIh : upd Inb j none h = none := by rw [hIx h (fun e => hjh e.symm)]; exact C0.noh
  have hlen : L + (h :: ds').length = L + 1 + ds'.length := by simp; omega
  have pp := p3_met (St' := St) (Sit' := fun g => (upd Inb j none g).isSome) p0 (fun g l hg hl => C0.ss g l hg hl) (fun g hg hgj => ⟨by show (upd Inb j none g).isSome; rw [hIx g hgj]; exact hg, fun l hl => hl⟩)
    (fun g hg => by
      have e2 : g ≠ j := fun z => by subst z; rw [upd_same] at hg; cases hg
      exact .inl ⟨by rw [hIx g e2] at hg; exact hg, e2, fun l hl => hl⟩) (by rw [hD0]; exact hdh) (by show (Inb j).isSome; rw [hj]; rfl) fh ph fj pj k (C0.low j s c hj hsc)
  rw [Array.append_assoc] at pp
  have C' : C3 P K Shun St w.heap.size (upd Inb j none) Gp j (h :: ds') (upd sg' h 0) (T₀ ++ (ops₀ ++ met h j fh ph fj pj c k 0)) gs' (Wv Gp ((w.at d).setChan c 0 #[] false (k + 1) (k + 1) false) (L + (h :: ds').length)) (upd q' h nh) := by
    rw [hlen]
    refine C0.passed m6 (fun x _ h2 => hIx x h2) (upd_same ..) (fun _ _ _ => rfl) (fun x hx => by simp [hx]) hjh (fun e => by rw [(C0.dep j e).2.2.1] at hj; cases hj) (List.nodup_cons.2 ⟨fun e => (C0.dep h e).1 rfl, C0.nd⟩) (fun x hx => upd_ne _ _ hx) (fun x hx => upd_ne _ _ hx) hDD (fun x hx => by omega)
      (.inr ⟨by simp, h0, hIh, _, m3, by rw [upd_same, upd_same]; exact hdp, by rw [hDD, upd_same]; exact hdh⟩) (fun i s' c' e hc' => ?_) (fun s' e => by rw [hIh] at e; cases e) (fun i s1 s2 c' e => by rw [hIh] at e; cases e) (fun s' c' e => by rw [hIh] at e; cases e) (fun l hs => by rw [hIh] at hs; cases hs) pp ((wv_k G).2 (H.kc _ _ hKd))
    have e2 : i ≠ j := fun z => by rw [z, upd_same] at e; cases e
    rw [hIx i e2] at e; obtain ⟨cap, k', hk'⟩ := C0.chans i s' c' e hc'; have hk2 := wv_back G hKd _ hk'; have hK2 : K ((w.at d).setChan c 0 #[] false (k + 1) (k + 1) false) := H.kc _ _ hKd
    by_cases e : c = c'
    · subst e
      have := heap_setChan_self (w.at d) hcw 0 #[] false (k + 1) (k + 1) false; exact ⟨0, k + 1, (wv_chan G hK2 _ this).trans this⟩
    · have : ((w.at d).setChan c 0 #[] false (k + 1) (k + 1) false).heap[c']? = some (.chan cap #[] false k' k' false) := by rw [heap_setChan_ne _ _ _ _ _ _ _ e]; exact hk2
      exact ⟨cap, k', (wv_chan G hK2 _ this).trans this⟩
  have hfin := next k g₂ hc m5 hq d gs' _ (upd q' h nh) sl' (h :: ds') (upd sg' h 0) (m1.trans hsz) m4 (by rw [hlen]; exact m7) (fun i hi => by
      by_cases e : i = h
      · subst e; rw [upd_same]; omega
      · rw [upd_ne _ _ e]; exact m8 i (by simpa [e] using hi)) (hQ k hc hq) (by rw [hDD]; exact C0.past.hears j (by show (Inb j).isSome; rw [hj]; rfl)) (by rw [show (w.setChan c 0 #[] false (k + 1) (k + 1) false).heap.size = w.heap.size from by simp [World.setChan]]; exact C')
  rw [hlen] at hfin; exact hfin
end
end
section
open Go.Conc
open Go.ConcN (sumTo upd sumTo_upd upd_ne upd_same)

theorem set_same {w : World} {z : Addr} {v : Value} (hs : z.spot = none) (h : w.cell? z = some v) : w.setCell z v = w := by
  refine world_ext (fun r => ?_) rfl rfl rfl rfl; rw [heap_set]
  by_cases e : z.block = r
  · subst e
    rw [if_pos rfl]; unfold World.cell? at h; cases hb : w.heap[z.block]? with
    | none => rfl
    | some o =>
      rw [hb] at h; cases o with
      | cells c el f =>
        simp only [hs, Option.isSome_none, Bool.false_eq_true, if_false] at h; simp only [Option.map_some, setO, hs, Option.isSome_none, Bool.false_eq_true, if_false]
        congr 2
        refine Array.ext_getElem? fun i => ?_
        rw [Array.getElem?_setIfInBounds]
        split
        · rename_i e; subst e; split
          · exact h.symm
          · rename_i hlt; rw [Array.getElem?_eq_none_iff.2 (by omega)]
        · rfl
      | _ => rfl
  · rw [if_neg e]

section
variable {P : Program} {Post : Value → World → Prop} {K K' Q Q' : World → Prop} {Shun : Loc → Prop} {St St' : Nat → Loc → Prop} {B : Nat} {Inb Inb' : Nat → Option Seat} {Gp : Grp} {h j c k kk L nb n dl : Nat} {ds ds' : List Nat} {sg sg' : Nat → Nat} {T T' : Trace} {gs gs' : Array Goroutine} {w w' : World} {q q' : Nat → Nat} {a a₂ g : Goroutine} {s : Seat} {v z z' : Value} {es : Array Event}

theorem At3.hire (G : GK K Shun Gp) (hnb : nb ≤ 9) (hs : a.status = .running) {a' child : Goroutine} (hgo : ∀ d m, K (w.at d) → stepG P (h == 0) a (Wv Gp (w.at d) m) = .spawn a' child (Wv Gp (w.at d) m) es) (hes : ∀ e ∈ es, EvR Shun (AnyS St (fun g => (Inb g).isSome)) w.heap.size h e ∧ e.loc ≠ .mark .disable ∧ e.loc ≠ .mark .enable)
    {sh : Seat} {Sth : Loc → Prop} {nh : Nat} (hwf : sh.Wf) (hSt : ∀ l, Sth l → l.isMemory = true ∧ ¬ Shun l) (hsit : Sits P (h == 0) K Sth w.heap.size sh nh a') (hch : ∀ c', sh.has c' → ∃ k', w.heap[c']? = some (.chan 0 #[] false k' k' false)) (hinj : ∀ i s' c', i ≠ h → Inb i = some s' → sh.has c' → ¬ s'.has c') (hIn : Inb n = none)
    (next : At3 P Post K Q Shun (upd St h Sth) (upd Inb h (some sh)) Gp L nb n (n + 1) 0 child w) : At3 P Post K Q Shun St Inb Gp L nb h n 0 a w := by
  intro d₀ gs T q sl ds sg hsz ha hL hsg hq hd C; have hB : Gp.st.block < w.heap.size := (G.row _ ((wv_k G).1 C.keep)).1.lt; obtain ⟨N, gs₁, d₁, d, sl₁, sl', T₁, q₁, ds₁, sg₁, e1, e2, e3, e4, e5, e6, C1, e8⟩ := r3_picked G hB hnb hs _ gs T q sl d₀ ds sg rfl ha hL hsg C; have hKd : K (w.at d) := (wv_k G).1 C1.keep; have hn1 : gs₁.size = n := e3.trans hsz; have hlt : h < gs₁.size := (Array.getElem?_eq_some_iff.1 e4).1; have hnh : n ≠ h := by omega
  have hrt := runT_crowd_spawn (P := P) (sl := sl') (w := Wv Gp (w.at d) (L + ds₁.length)) (w' := Wv Gp (w.at d) (L + ds₁.length)) e4 (hgo d _ hKd)
  have hpush : ((MemOp.ofEvents h a.frame.fn a.frame.place es).push { g := h, fn := a.frame.fn, pos := a.frame.place, act := .go gs₁.size } |>.push { g := gs₁.size, fn := child.frame.fn, pos := a.frame.place, act := .start }) =
      MemOp.ofEvents h a.frame.fn a.frame.place es ++ #[{ g := h, fn := a.frame.fn, pos := a.frame.place, act := .go gs₁.size }, { g := gs₁.size, fn := child.frame.fn, pos := a.frame.place, act := .start }] := by
    apply Array.ext'; simp
  rw [hpush] at hrt; have hdf' : Deaf (T₁ ++ MemOp.ofEvents h a.frame.fn a.frame.place es) h = Deaf T₁ h := by rw [Deaf_own]; exact deafBehind_still (fun e he => (hes e he).2) _
  have hDa : ∀ x, Deaf (T₁ ++ MemOp.ofEvents h a.frame.fn a.frame.place es) x = Deaf T₁ x := fun x => by
    by_cases ex : x = h
    · subst ex; exact hdf'
    · exact Deaf_other T₁ (fun z => ex z.symm) _ ops_g
  have hpo : P3 Shun St (fun g => (Inb g).isSome) w.heap.size h (T₁ ++ MemOp.ofEvents h a.frame.fn a.frame.place es) := p3_own C1.past (fun e he => (hes e he).1) (by rw [C1.noh]; simp); have hIx : ∀ x, x ≠ h → upd Inb h (some sh) x = Inb x := fun x h1 => upd_ne _ _ h1
  have hSx : ∀ x, x ≠ h → upd St h Sth x = St x := fun x h1 => upd_ne _ _ h1
  have pp := p3_go (c := gs₁.size) (St' := upd St h Sth) (Sit' := fun g => (upd Inb h (some sh) g).isSome) hpo (fun g l hg hl => C1.ss g l hg hl) (fun g hg => by
      have hgh : g ≠ h := fun e => by rw [e, C1.noh] at hg; cases hg
      refine ⟨by show (upd Inb h (some sh) g).isSome; rw [hIx g hgh]; exact hg, fun l hl => by rw [hSx g hgh]; exact hl⟩)
    (fun g hg => by
      by_cases e : g = h
      · subst e; exact .inr ⟨rfl, fun l hl => hSt l (by rw [upd_same] at hl; exact hl)⟩
      · rw [hIx g e] at hg
        exact .inl ⟨hg, fun z => (by rw [z, hn1, hIn] at hg; cases hg), fun l hl => by rw [hSx g e] at hl; exact hl⟩) (by rw [hDa, e8]; exact hd) (by rw [hDa]; exact C1.above _ (Nat.le_refl _)) a.frame.fn a.frame.place child.frame.fn a.frame.place
  have hq2 := go_quiet (h := h) (c := gs₁.size) a.frame.fn a.frame.place child.frame.fn a.frame.place; have hDD : ∀ x, Deaf (T₁ ++ (MemOp.ofEvents h a.frame.fn a.frame.place es ++ #[{ g := h, fn := a.frame.fn, pos := a.frame.place, act := .go gs₁.size }, { g := gs₁.size, fn := child.frame.fn, pos := a.frame.place, act := .start }])) x = Deaf T₁ x := fun x => by rw [← Array.append_assoc, Deaf_quiet (hq2 x), hDa]
  rw [Array.append_assoc] at pp; refine Goal.back (run_then e1 (e2.trans hrt)) ?_; have hself : (((gs₁.setIfInBounds h a').push child))[h]? = some a' := by rw [Array.getElem?_push_lt (by simpa using hlt)]; simp
  have C' : C3 P K Shun (upd St h Sth) w.heap.size (upd Inb h (some sh)) Gp n ds₁ sg₁ (T₁ ++ (MemOp.ofEvents h a.frame.fn a.frame.place es ++ #[{ g := h, fn := a.frame.fn, pos := a.frame.place, act := .go gs₁.size }, { g := gs₁.size, fn := child.frame.fn, pos := a.frame.place, act := .start }])) ((gs₁.setIfInBounds h a').push child) (Wv Gp (w.at d) (L + ds₁.length)) (upd q₁ h nh) := by
    refine C1.passed (fun x h1 h2 => ?_) (fun x h1 _ => hIx x h1) (by rw [hIx n hnh]; exact hIn) (fun x h1 _ => hSx x h1) (fun x _ => Iff.rfl) hnh (fun e => ?_) C1.nd (fun _ _ => rfl) (fun x hx => upd_ne _ _ hx) hDD (fun x hx => by simp at hx; omega) (.inl ⟨fun e => (C1.dep h e).1 rfl, _, hself, ?_⟩) (fun i s' c' e hc' => ?_) (fun s' e => ?_) (fun i s1 s2 c' e h1 h2 e2 x1 x2 => ?_) (fun s' c' e hc' => ?_) (fun l _ hl => ?_) (by rw [← hn1]; exact pp) C1.keep
    · rw [Array.getElem?_push]
      split
      · rename_i hx; simp at hx; omega
      · rw [Array.getElem?_setIfInBounds_ne (fun z => h1 z.symm)]
    · obtain ⟨_, _, _, g, hg, _⟩ := C1.dep n e
      have := (Array.getElem?_eq_some_iff.1 hg).1; omega
    · rw [upd_same, upd_same, upd_same]; exact hsit
    · by_cases e1 : i = h
      · subst e1
        rw [upd_same] at e; obtain rfl := Option.some.inj e; obtain ⟨k', hk'⟩ := hch c' hc'; have hk2 : (w.at d).heap[c']? = some (.chan 0 #[] false k' k' false) := hk'; exact ⟨0, k', (wv_chan G hKd _ hk2).trans hk2⟩
      · rw [hIx i e1] at e
        exact C1.chans i s' c' e hc'
    · rw [upd_same] at e; obtain rfl := Option.some.inj e; exact hwf
    · rw [upd_same] at e; obtain rfl := Option.some.inj e; exact hinj i s2 c' h1 e2 x1 x2
    · rw [upd_same] at e; obtain rfl := Option.some.inj e
      obtain ⟨k', hk'⟩ := hch c' hc'; exact (Array.getElem?_eq_some_iff.1 hk').1
    · rw [upd_same] at hl; exact (hSt l hl).2
  exact next d _ _ (upd q₁ h nh) sl' ds₁ sg₁ (by simp [hn1]) (by rw [← hn1, Array.getElem?_push]; simp) e5 e6 hq (by rw [hDD]; exact C1.above n (by omega)) C'

theorem At3.assume (G : GK K Shun Gp) (H : K w → Q w → At3 P Post K Q Shun St Inb Gp L nb h n dl g w) : At3 P Post K Q Shun St Inb Gp L nb h n dl g w :=
  fun d gs T q sl ds sg h1 h2 h3 h4 h5 h6 C => H (G.at' (w.at d) w.drawn ((wv_k G).1 C.keep)) h5 d gs T q sl ds sg h1 h2 h3 h4 h5 h6 C
theorem At3.turn (hQ : Q w → Q' w) (H : At3 P Post K Q' Shun St Inb Gp L nb h n dl g w) : At3 P Post K Q Shun St Inb Gp L nb h n dl g w :=
  fun d gs T q sl ds sg h1 h2 h3 h4 h5 h6 C => H d gs T q sl ds sg h1 h2 h3 h4 (hQ h5) h6 C
theorem At3.less (G' : GK K' Shun Gp) (hK : ∀ w, K' w → K w) (hw : K' w) (H : At3 P Post K' Q Shun St Inb Gp L nb h n dl g w) : At3 P Post K Q Shun St Inb Gp L nb h n dl g w :=
  fun d gs T q sl ds sg h1 h2 h3 h4 h5 h6 C => H d gs T q sl ds sg h1 h2 h3 h4 h5 h6 (C.less hK ((wv_k G').2 (G'.at' _ _ hw)))

theorem At3.add (G : GK K Shun Gp) (hnb : nb ≤ 9) (hs : a.status = .running) {g' : Nat → Goroutine} (hst : ∀ d m, m ≤ nb → K (w.at d) → stepG P (h == 0) a (Wv Gp (w.at d) m) = .go (g' m) (Wv Gp (w.at d) (m + 1)) es) (hes : ∀ e ∈ es, EvR Shun (AnyS St (fun g => (Inb g).isSome)) w.heap.size h e)
    (next : ∀ m, m ≤ nb → At3 P Post K Q Shun St Inb Gp (L + 1) (nb + 1) h n (deafBehind dl es) (g' m) w) : At3 P Post K Q Shun St Inb Gp L nb h n dl a w := by
  intro d₀ gs T q sl ds sg hn ha hL hsg hq hd C; have hB : Gp.st.block < w.heap.size := (G.row _ ((wv_k G).1 C.keep)).1.lt; obtain ⟨N, gs', d₁, d, sl₁, sl', T', q', ds', sg', e1, e2, e3, e4, e5, e6, e7, e8⟩ := r3_picked G hB hnb hs _ gs T q sl d₀ ds sg rfl ha hL hsg C; have hKd : K (w.at d) := (wv_k G).1 e7.keep; have hl : L + 1 + ds'.length = L + ds'.length + 1 := by omega
  obtain ⟨C', ha'⟩ := e7.own (a' := g' (L + ds'.length)) (w' := Wv Gp (w.at d) (L + 1 + ds'.length)) e4 ((wv_k G).2 hKd) (fun i s c hx hc => by
    obtain ⟨cap, k, hk⟩ := e7.chans i s c hx hc; have hb := wv_back G hKd _ hk; rw [wv_chan G hKd _ hb, wv_chan G hKd _ hb]) hes
  refine Goal.back (run_then e1 (e2.trans (runT_crowd_go (sl := sl') e4 (hst d _ e5 hKd)))) ?_; rw [← hl]; exact next _ e5 d _ _ _ sl' ds' sg' (by simp [e3, hn]) ha' (by omega) e6 hq (by rw [Deaf_own, e8, hd]) C'

theorem At3.of_solo {K0 : World → Prop} (G : GK K Shun Gp) (hsp : Gp.st.spot = none) (hK : K w) (hQ : Q w) (hz : Num .u64 Gp.st w 0) (H : At3 P Post K Q Shun St (fun _ => none) Gp 0 nb 0 n 0 g w) : At0 P Post K0 Shun n g w := by
  intro d gs T q sl hsz hg C; have hw : Wv Gp (w.at d) (0 + ([] : List Nat).length) = w.at d := set_same hsp hz.1; have hh : Deaf T 0 = 0 := C.past.hears 0 rfl
  have C' : C3 P K Shun St w.heap.size (fun _ => none) Gp 0 [] (fun _ => 0) T gs (Wv Gp (w.at d) (0 + ([] : List Nat).length)) q := by
    rw [hw]; exact ⟨fun i g hi _ hg => C.idle i g hi hg, fun i hi => (by cases hi), List.nodup_nil, fun i s c e => (by cases e), fun i s e => (by cases e), fun i i' s s' c e => (by cases e), C.above, fun i s c e => (by cases e), rfl, fun i l hs => (by cases hs), ⟨C.past.clean, fun i x hx hm => (C.past.known i x hx hm).imp id fun z => z.2.1.elim, fun _ _ _ _ _ hs => (by cases hs), fun _ hs => (by cases hs), C.past.seen⟩, G.at' _ _ hK⟩
  have := H d gs T q sl [] (fun _ => 0) hsz hg (by simp) (fun i hi => by cases hi) hQ hh C'; rw [hw] at this; exact this
end
end
end Go.Proofs.YtobagnjnbmgidaaGreatDoor
