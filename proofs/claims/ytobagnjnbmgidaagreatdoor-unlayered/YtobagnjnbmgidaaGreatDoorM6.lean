/- The join: goroutine 0 waits for the group, those that have ended count it down, however many. -/
import Derived.Test.YtobagnjnbmgidaaGreatDoorM4
set_option maxHeartbeats 8000000
set_option maxRecDepth 100000
namespace Go.Proofs.YtobagnjnbmgidaaGreatDoor
open Go.Conc
open Go.ConcN (sumTo upd sumTo_upd upd_ne upd_same)

section
variable (P : Program) (K : World → Prop) (Shun : Loc → Prop) (B : Nat) (Gp : Grp) (Anchor : Goroutine → Prop)
def WS1 (F : Goroutine → Prop) (k : Nat) (M : Nat → Goroutine → Prop) (t : Nat) (g : Goroutine) : Prop :=
  (g.status = .running ∧ ∃ g', (∀ w, K w → ∃ es, stepG P true g w = .go g' w es ∧ ∀ e ∈ es, EvR Shun (fun _ => False) B 0 e ∧ e.loc ≠ .mark .disable ∧ e.loc ≠ .mark .enable) ∧ M t g') ∨
  (t = 0 ∧ g.status = .running ∧ ∃ g', (∀ w, K w → stepG P true g w = .go g' w #[mkE .disable]) ∧ M 1 g') ∨
  (t = 1 ∧ g.status = .running ∧ (∀ m, 0 < m → m ≤ k → ∃ g', (∀ w, K w → Num .u64 Gp.st w (gv m 0) → stepG P true g w = .go g' w #[rdE Gp.st]) ∧ M (100 + m) g') ∧ ∃ g', (∀ w, K w → Num .u64 Gp.st w (gv 0 0) → stepG P true g w = .go g' w #[rdE Gp.st]) ∧ M 6 g') ∨
  (t = 5 ∧ g.status = .running ∧ ∃ g', (∀ w, K w → Num .u64 Gp.st w (gv 0 0) → stepG P true g w = .go g' w #[rdE Gp.st]) ∧ M 6 g') ∨
  (∃ m, 0 < m ∧ m ≤ k ∧ t = 100 + m ∧ g.status = .running ∧ (∃ g', (∀ w, K w → Num .u64 Gp.st w (gv m 0) → stepG P true g w = .go g' (w.setCell Gp.st (.int .u64 (gv m 1))) #[rdE Gp.st, wrE Gp.st]) ∧ M 3 g') ∧ ∀ m', m' < m → ∃ g', (∀ w, K w → Num .u64 Gp.st w (gv m' 0) → stepG P true g w = .go g' w #[rdE Gp.st]) ∧ F g') ∨
  (t = 3 ∧ g.status = .running ∧ ∃ g', (∀ w, K w → stepG P true g w = .go g' w #[mkE (.write Gp.se)]) ∧ M 4 g') ∨
  (t = 4 ∧ g.status = .running ∧ g.offers = none ∧ ∃ g', (∀ w, K w → Num .u32 Gp.se w 1 → stepG P true g w = .go g' (w.setCell Gp.se (.int .u32 0)) (semEvents Gp.se)) ∧ (∀ w, K w → Num .u32 Gp.se w 0 → stepG P true g w = .go { g with status := .blocked } w #[]) ∧ M 5 g') ∨
  (t = 6 ∧ g.status = .running ∧ ∃ g', (∀ w, K w → stepG P true g w = .go g' w #[mkE .enable]) ∧ M 7 g') ∨
  (t = 7 ∧ g.status = .running ∧ ∃ g', (∀ w, K w → stepG P true g w = .go g' w #[mkE (.acquire Gp.st)]) ∧ M 8 g')
def WSn (F : Goroutine → Prop) (k : Nat) : Nat → Nat → Goroutine → Prop
  | 0, t, g => t = 8 ∧ g.status = .running ∧ Anchor g
  | n + 1, t, g => (t = 8 ∧ g.status = .running ∧ Anchor g) ∨ WS1 P K Shun B Gp F k (WSn F k n) t g
def WS : Nat → Nat → Nat → Goroutine → Prop
  | 0 => WSn P K Shun B Gp Anchor (fun _ => False) 0
  | k + 1 => WSn P K Shun B Gp Anchor (fun g => ∃ n, WS k n 1 g) (k + 1)
def WF (k : Nat) (g : Goroutine) : Prop := ∃ k' n, k = k' + 1 ∧ WS P K Shun B Gp Anchor k' n 1 g
end

section
variable {P : Program} {K : World → Prop} {Shun : Loc → Prop} {B : Nat} {Gp : Grp} {Anchor : Goroutine → Prop} {M M' : Nat → Goroutine → Prop} {F F' : Goroutine → Prop} {t n k : Nat} {g g' : Goroutine}
theorem WS1.mono (hF : ∀ g, F g → F' g) (h : ∀ t g, M t g → M' t g) (x : WS1 P K Shun B Gp F k M t g) : WS1 P K Shun B Gp F' k M' t g := by
  rcases x with ⟨a, g', b, c⟩ | ⟨a, b, g', c, d⟩ | ⟨a, b, c, g', d, e⟩ | ⟨a, b, g', c, d⟩ | ⟨m, a, b, c, d, ⟨g', e, f⟩, f'⟩ | ⟨a, b, g', c, d⟩ | ⟨a, b, c, g', d, e, f⟩ | ⟨a, b, g', c, d⟩ | ⟨a, b, g', c, d⟩
  · exact .inl ⟨a, g', b, h _ _ c⟩
  · exact .inr (.inl ⟨a, b, g', c, h _ _ d⟩)
  · exact .inr (.inr (.inl ⟨a, b, fun m h1 h2 => by obtain ⟨g2, x1, x2⟩ := c m h1 h2; exact ⟨g2, x1, h _ _ x2⟩, g', d, h _ _ e⟩))
  · exact .inr (.inr (.inr (.inl ⟨a, b, g', c, h _ _ d⟩)))
  · exact .inr (.inr (.inr (.inr (.inl ⟨m, a, b, c, d, ⟨g', e, h _ _ f⟩, fun m' hm => by obtain ⟨g2, x1, x2⟩ := f' m' hm; exact ⟨g2, x1, hF _ x2⟩⟩))))
  · exact .inr (.inr (.inr (.inr (.inr (.inl ⟨a, b, g', c, h _ _ d⟩)))))
  · exact .inr (.inr (.inr (.inr (.inr (.inr (.inl ⟨a, b, c, g', d, e, h _ _ f⟩))))))
  · exact .inr (.inr (.inr (.inr (.inr (.inr (.inr (.inl ⟨a, b, g', c, h _ _ d⟩)))))))
  · exact .inr (.inr (.inr (.inr (.inr (.inr (.inr (.inr ⟨a, b, g', c, h _ _ d⟩)))))))
theorem WSn.up : ∀ (n m : Nat) (t : Nat) (g : Goroutine), n ≤ m → WSn P K Shun B Gp Anchor F k n t g → WSn P K Shun B Gp Anchor F k m t g
  | 0, 0, _, _, _, x => x
  | 0, _ + 1, _, _, _, x => .inl x
  | n + 1, 0, _, _, h, _ => absurd h (by omega)
  | n + 1, m + 1, _, _, h, x => x.elim .inl fun y => .inr (y.mono (fun _ z => z) fun t g => WSn.up n m t g (by omega))
theorem WS.eq : WS P K Shun B Gp Anchor k = WSn P K Shun B Gp Anchor (WF P K Shun B Gp Anchor k) k := by
  cases k with
  | zero =>
    have : WF P K Shun B Gp Anchor 0 = fun _ => False := by funext g; simp [WF]
    rw [this]; rfl
  | succ k =>
    have : WF P K Shun B Gp Anchor (k + 1) = fun g => ∃ n, WS P K Shun B Gp Anchor k n 1 g := by
      funext g
      refine propext ⟨fun ⟨k', n, e, h⟩ => ?_, fun ⟨n, h⟩ => ⟨k, n, rfl, h⟩⟩; obtain rfl : k = k' := by omega
      exact ⟨n, h⟩
    rw [this]; rfl
theorem WS.up (h : WS P K Shun B Gp Anchor k n t g) (m : Nat) (hm : n ≤ m) : WS P K Shun B Gp Anchor k m t g := by rw [WS.eq] at h ⊢; exact WSn.up n m t g hm h
theorem WS.one (h : WS1 P K Shun B Gp (WF P K Shun B Gp Anchor k) k (fun t g => WS P K Shun B Gp Anchor k n t g) t g) : WS P K Shun B Gp Anchor k (n + 1) t g := by rw [WS.eq] at h ⊢; exact .inr h
theorem WS.inv (h : WS P K Shun B Gp Anchor k n t g) : (t = 8 ∧ g.status = .running ∧ Anchor g) ∨ ∃ m, n = m + 1 ∧ WS1 P K Shun B Gp (WF P K Shun B Gp Anchor k) k (fun t g => WS P K Shun B Gp Anchor k m t g) t g := by
  rw [WS.eq] at h; cases n with
  | zero => exact .inl h
  | succ m => exact h.elim .inl fun x => .inr ⟨m, rfl, by rw [WS.eq]; exact x⟩
theorem WS.anchor (hs : g.status = .running) (h : Anchor g) : WS P K Shun B Gp Anchor k n 8 g := by
  rw [WS.eq]; cases n with
  | zero => exact ⟨rfl, hs, h⟩
  | succ n => exact .inl ⟨rfl, hs, h⟩
theorem WS.running (h : WS P K Shun B Gp Anchor k n t g) : g.status = .running := by
  rcases h.inv with ⟨_, h, _⟩ | ⟨_, _, h⟩
  · exact h
  rcases h with ⟨h, _⟩ | ⟨_, h, _⟩ | ⟨_, h, _⟩ | ⟨_, h, _⟩ | ⟨_, _, _, _, h, _⟩ | ⟨_, h, _⟩ | ⟨_, h, _⟩ | ⟨_, h, _⟩ | ⟨_, h, _⟩ <;> exact h
end

def Tab3 (k a : Nat) (ds : List Nat) (sg : Nat → Nat) (s m : Int) : Prop :=
  (((a ≤ 1 ∧ ds.length ≤ k) ∨ ∃ j, a = 100 + j ∧ 0 < j ∧ j ≤ k ∧ ds.length ≤ j) ∧ (∀ i, i ∈ ds → sg i ≤ 2) ∧ s = gv ds.length 0 ∧ m = 0) ∨
  ((a = 3 ∨ a = 4) ∧ (∀ i, i ∈ ds → sg i ≤ 2) ∧ 0 < ds.length ∧ s = gv ds.length 1 ∧ m = 0) ∨
  ((a = 3 ∨ a = 4) ∧ (∃ i, ds = [i] ∧ (sg i = 3 ∨ sg i = 4)) ∧ s = gv 0 1 ∧ m = 0) ∨
  ((a = 3 ∨ a = 4) ∧ (∃ i, ds = [i] ∧ sg i = 5) ∧ s = gv 0 0 ∧ m = 0) ∨
  ((a = 3 ∨ a = 4) ∧ ds = [] ∧ s = gv 0 0 ∧ m = 1) ∨
  (5 ≤ a ∧ a ≤ 8 ∧ ds = [] ∧ s = gv 0 0 ∧ m = 0)

section
variable {P : Program} {K : World → Prop} {Shun : Loc → Prop} {St : Nat → Loc → Prop} {B : Nat} {Inb : Nat → Option Seat} {Gp : Grp} {Anchor : Goroutine → Prop} {h : Nat} {ds : List Nat} {sg : Nat → Nat} {T : Trace} {gs : Array Goroutine} {w : World} {q : Nat → Nat}

theorem C3.slip (C : C3 P K Shun St B Inb Gp h ds sg T gs w q) {i : Nat} {g : Goroutine} (sl : Option (Nat × Nat)) (hi : gs[i]? = some g) (hih : i ≠ h) (hid : i ∉ ds) (hn : Inb i = none) (hrun : g.status = .running) :
    ∃ gs' g' ops q', runT P (crowd gs w sl) i = (.next (crowd gs' w sl), ops) ∧ (∀ op ∈ ops, op.g = i) ∧ gs'.size = gs.size ∧ (∀ y, gs[h]? = some y → gs'[h]? = some (woken P g g' w y)) ∧ C3 P K Shun St B Inb Gp h ds sg (T ++ ops) gs' w q' ∧ sumTo gs.size q' < sumTo gs.size q := by
  have hlt : i < gs.size := (Array.getElem?_eq_some_iff.1 hi).1; have hI := C.idle i g hih hid hi; rw [hn] at hI; obtain ⟨hpos, hq⟩ := hI; have hi0 : (i == 0) = false := by simp; omega
  cases hqi : q i with
  | zero => rw [hqi] at hq; rw [hq.1] at hrun; cases hrun
  | succ k =>
    rw [hqi] at hq; rcases hq with ⟨hf, _⟩ | ⟨_, g', es, hm, hstp, hq'⟩
    · rw [hf] at hrun; cases hrun
    have hoth : ∀ x, x ≠ i → x ≠ h → ((gs.map (woken P g g' w)).setIfInBounds i g')[x]? = gs[x]? := by
      intro x hx hxh; rw [Array.getElem?_setIfInBounds_ne (fun e => hx e.symm), Array.getElem?_map]; cases e : gs[x]? with
      | none => rfl
      | some y => simp [woken_of_again (P := P) (x := g) (x' := g') (C.fixed hxh e)]
    have hself : ((gs.map (woken P g g' w)).setIfInBounds i g')[i]? = some g' := Array.getElem?_setIfInBounds_self_of_lt (by simpa using hlt); have hD : ∀ x, x ≠ i → Deaf (T ++ MemOp.ofEvents i g.frame.fn g.frame.place es) x = Deaf T x := fun x hx => Deaf_other T (fun z => hx z.symm) _ ops_g
    have hp := p3_read (g := i) C.past (u := MemOp.ofEvents i g.frame.fn g.frame.place es) ops_g (fun op hop b hb => by obtain ⟨e, he, rfl⟩ := Go.Conc.mem_ofEvents hop; rw [touch_mute (hm e he)] at hb; cases hb) (fun hs => by rw [hn] at hs; cases hs) (fun op hop => by obtain ⟨e, he, rfl⟩ := Go.Conc.mem_ofEvents hop; exact low_mute (hm e he) B); refine ⟨_, g', _, upd q i k, runT_crowd_go (sl := sl) hi (by rw [hi0]; exact hstp w), ops_g, by simp, fun y hy => ?_, ⟨fun x y hx hd hy => ?_, fun x hx => ?_, C.nd, C.chans, C.wf, C.inj, fun j hj => ?_, C.low, C.noh, C.ss, hp, C.keep⟩, sum_less hlt hqi (Nat.le_refl _)⟩
    · rw [Array.getElem?_setIfInBounds_ne hih, Array.getElem?_map, hy]; rfl
    · by_cases e : x = i
      · subst e
        rw [hself] at hy; obtain rfl := Option.some.inj hy; rw [hn, upd_same]; exact ⟨hpos, by rw [Deaf_own]; exact hq'⟩
      · rw [hoth x e hx] at hy
        rw [upd_ne q k e]; have := C.idle x y hx hd hy; cases ei : Inb x with
        | none => rw [ei] at this; exact ⟨this.1, by rw [hD x e]; exact this.2⟩
        | some s => rw [ei] at this; exact this
    · have e : x ≠ i := fun z => hid (z ▸ hx)
      obtain ⟨h1, h2, h3, y, h4, h5, h6⟩ := C.dep x hx; exact ⟨h1, h2, h3, y, by rw [hoth x e h1]; exact h4, by rw [upd_ne q k e]; exact h5, by rw [hD x e]; exact h6⟩
    · simp only [Array.size_setIfInBounds, Array.size_map] at hj
      rw [hD j (by omega)]; exact C.above j hj

theorem evr_any (e : Event) (x : EvR Shun (fun _ => False) B 0 e) : EvR Shun (AnyS St (fun g => ((fun _ => none : Nat → Option Seat) g).isSome)) B 0 e :=
  ⟨fun y hy => ⟨fun ⟨g, hg, _⟩ => (by cases hg), (x.1 y hy).2⟩, x.2⟩

theorem join3 (J : JK K Shun B Gp) : ∀ (L k S : Nat) (gs : Array Goroutine) (w : World) (sl : Option (Nat × Nat)) (T : Trace) (q : Nat → Nat) (a0 : Goroutine) (bl : Bool) (tm nm : Nat) (ds : List Nat) (sg : Nat → Nat) (s m : Int),
    sumTo gs.size q = L → 2 * nm + (if bl then 0 else 1) = S → gs[0]? = some (if bl then { a0 with status := .blocked } else a0) → C3 P K Shun St B (fun _ => none) Gp 0 ds sg T gs w q → WS P K Shun B Gp Anchor k nm tm a0 →
    (bl = true → tm = 4 ∧ m = 0 ∧ a0.offers = none) → ds.length ≤ 9 → Tab3 k tm ds sg s m → Num .u64 Gp.st w s → Num .u32 Gp.se w m → Deaf T 0 = dM tm →
    ∃ N m' T', runNT P N (crowd gs w sl) T = (.next m', T') ∧ Joined P K Shun B Gp Anchor gs.size m' T' := by
  intro L
  induction L using Nat.strongRecOn with
  | _ L ihL =>
  intro k
  induction k using Nat.strongRecOn with
  | _ k ihk =>
  intro S
  induction S using Nat.strongRecOn with
  | _ S ihS =>
  intro gs w sl T q a0 bl tm nm ds sg s m hL hS h0 C hM hbl h9 hT hst hse hd0; have hrun0 := hM.running; have hlt0 : 0 < gs.size := (Array.getElem?_eq_some_iff.1 h0).1
  by_cases hanch : Anchor a0 ∧ tm = 8
  · obtain ⟨hA, rfl⟩ := hanch
    have hb : bl = false := by
      cases bl with
      | false => rfl
      | true => have := (hbl rfl).1; omega
    subst hb
    obtain ⟨rfl, rfl, rfl⟩ : ds = [] ∧ s = gv 0 0 ∧ m = 0 := by
      rcases hT with ⟨x, _⟩ | ⟨x, _⟩ | ⟨x, _⟩ | ⟨x, _⟩ | ⟨x, _⟩ | ⟨_, _, x, y, z⟩
      · rcases x with x | ⟨j, x, _⟩ <;> omega
      · omega
      · omega
      · omega
      · omega
      · exact ⟨x, y, z⟩
    exact ⟨0, _, T, rfl, gs, w, sl, q, a0, rfl, rfl, h0, hA, ⟨fun x y hx hy => C.idle x y hx (by simp) hy, fun i s c _ e => (by cases e), fun i s e => (by cases e), fun _ _ z => z.elim, fun i i' s s' c e => (by cases e), C.above, fun i s e => (by cases e), fun i hi => hi.elim, fun i s _ e => (by cases e), ⟨C.past.clean, fun i a ha hm => .inl ((C.past.known i a ha hm).elim id fun ⟨_, g, _, hg, _⟩ => by cases hg), fun _ _ _ _ z => z.elim, fun _ z => z.elim, C.past.seen⟩, C.keep⟩, hd0, hst, hse⟩
  -- somebody runs
  have hsome : ∃ (i : Nat) (g : Goroutine), gs[i]? = some g ∧ g.status = .running := by
    cases bl with
    | false => exact ⟨0, a0, h0, hrun0⟩
    | true =>
      obtain ⟨e1, e2, _⟩ := hbl rfl
      have hne : ∃ i, i ∈ ds := by
        rcases hT with ⟨x, _⟩ | ⟨_, _, x, _⟩ | ⟨_, ⟨i, x, _⟩, _⟩ | ⟨_, ⟨i, x, _⟩, _⟩ | ⟨_, _, _, x⟩ | ⟨x, _⟩
        · rcases x with x | ⟨j, x, _⟩ <;> omega
        · exact List.exists_mem_of_length_pos x
        · exact ⟨i, by rw [x]; simp⟩
        · exact ⟨i, by rw [x]; simp⟩
        · omega
        · omega
      obtain ⟨i, hi⟩ := hne; obtain ⟨_, _, _, g, hg, hdp, _⟩ := C.dep i hi; exact ⟨i, g, hg, hdp.running⟩
  have hawake : ∀ g ∈ gs, awake g := by
    refine C.awake h0 ?_; cases bl with
    | false => exact .inl hrun0
    | true => exact .inr rfl
  obtain ⟨i, g, d, sl', hi, hg, hpick⟩ := crowd_pick (P := P) (w := w) (sl := sl) hawake hsome; have Cd : C3 P K Shun St B (fun _ => none) Gp 0 ds sg T gs (w.at d) q := C.in (J.at' _ d C.keep) (fun _ _ _ e => by cases e); have hKd : K (w.at d) := Cd.keep; have next : ∀ {m₁ ops}, runT P (crowd gs (w.at d) sl') i = (.next m₁, ops) → ∀ N, runNT P (N + 1) (crowd gs w sl) T = runNT P N m₁ (T ++ ops) := fun e N => by simp only [runNT, hpick, e]
  by_cases e0 : i = 0
  · subst e0
    have hb : bl = false := by
      cases bl with
      | false => rfl
      | true => rw [h0] at hi; obtain rfl := Option.some.inj hi; cases hg
    subst hb; obtain rfl : g = a0 := by rw [h0] at hi; exact (Option.some.inj hi).symm
    have step0 : ∀ (a' : Goroutine) (w' : World) (es : Array Event), stepG P true g (w.at d) = .go a' w' es → K w' → (∀ e ∈ es, EvR Shun (fun _ => False) B 0 e) →
        ∃ gs', runT P (crowd gs (w.at d) sl') 0 = (.next (crowd gs' w' sl'), MemOp.ofEvents 0 g.frame.fn g.frame.place es) ∧ gs'.size = gs.size ∧ gs'[0]? = some a' ∧ C3 P K Shun St B (fun _ => none) Gp 0 ds sg (T ++ MemOp.ofEvents 0 g.frame.fn g.frame.place es) gs' w' q ∧ Deaf (T ++ MemOp.ofEvents 0 g.frame.fn g.frame.place es) 0 = deafBehind (dM tm) es := by
      intro a' w' es hstep hK hes; obtain ⟨C', ha'⟩ := Cd.own (a' := a') h0 hK (fun _ _ _ e => by cases e) (fun e he => evr_any e (hes e he)); exact ⟨_, runT_crowd_go (sl := sl') h0 hstep, by simp, ha', C', by rw [Deaf_own, hd0]⟩
    have main : ∀ (a' : Goroutine) (w' : World) (es : Array Event) (bl' : Bool) (a'' : Goroutine) (tm' nm' : Nat) (s' m' : Int), stepG P true g (w.at d) = .go a' w' es → a' = (if bl' then { a'' with status := .blocked } else a'') → K w' → (∀ e ∈ es, EvR Shun (fun _ => False) B 0 e) → deafBehind (dM tm) es = dM tm' →
        WS P K Shun B Gp Anchor k nm' tm' a'' → (bl' = true → tm' = 4 ∧ m' = 0 ∧ a''.offers = none) → Tab3 k tm' ds sg s' m' → Num .u64 Gp.st w' s' → Num .u32 Gp.se w' m' → 2 * nm' + (if bl' then 0 else 1) < S →
        ∃ N m' T', runNT P N (crowd gs w sl) T = (.next m', T') ∧ Joined P K Shun B Gp Anchor gs.size m' T' := by
      intro a' w' es bl' a'' tm' nm' s' m' hstep ha' hK hes hdf hM' hbl' hT' hst' hse' hlt; obtain ⟨gs', hrt, hsz, hg0, C', hD0⟩ := step0 a' w' es hstep hK hes; obtain ⟨N, mm, TT, hr, hj⟩ := ihS _ hlt gs' w' sl' _ q a'' bl' tm' nm' ds sg s' m' (by rw [hsz]; exact hL) rfl (by rw [hg0, ha']) C' hM' hbl' h9 hT' hst' hse' (by rw [hD0]; exact hdf); exact ⟨N + 1, mm, TT, by rw [next hrt]; exact hr, by rw [← hsz]; exact hj⟩
    have hSn : ∀ {n : Nat}, nm = n + 1 → 2 * n + 1 < S := fun e => by simp at hS; omega
    rcases hM.inv with ⟨rfl, hs, h⟩ | ⟨n, rfl, hM1⟩
    · exact absurd ⟨h, rfl⟩ hanch
    rcases hM1 with ⟨hs, g1, h, hn⟩ | ⟨rfl, hs, g1, h, hn⟩ | ⟨rfl, hs, hall, g1, h0', hn0⟩ | ⟨rfl, hs, g1, h0', hn0⟩ | ⟨j, j0, jk, rfl, hs, ⟨g1, h1, hn1⟩, hfail⟩ | ⟨rfl, hs, g1, h, hn⟩ | ⟨rfl, hs, ho, g1, h1, h0', hn⟩ | ⟨rfl, hs, g1, h, hn⟩ | ⟨rfl, hs, g1, h, hn⟩
    · obtain ⟨es, h1, h2⟩ := h _ hKd
      exact main _ _ es false _ _ _ s m h1 rfl hKd (fun e he => (h2 e he).1) (deafBehind_still (fun e he => (h2 e he).2) _) hn (fun z => by cases z) hT hst hse (hSn rfl)
    · refine main _ _ _ false _ _ _ s m (h _ hKd) rfl hKd (ev_one (evR_mark rfl trivial)) rfl hn (fun z => by cases z) ?_ hst hse (hSn rfl)
      rcases hT with ⟨x, y⟩ | ⟨x, _⟩ | ⟨x, _⟩ | ⟨x, _⟩ | ⟨x, _⟩ | ⟨x, _⟩
      · rcases x with x | ⟨j, x, _⟩
        · exact .inl ⟨.inl ⟨by omega, x.2⟩, y⟩
        · omega
      all_goals omega
    · rcases hT with ⟨x, y1, rfl, rfl⟩ | ⟨x, _⟩ | ⟨x, _⟩ | ⟨x, _⟩ | ⟨x, _⟩ | ⟨x, _⟩
      · have xl : ds.length ≤ k := by
          rcases x with x | ⟨j, x, _⟩
          · exact x.2
          · omega
        by_cases hz : ds.length = 0
        · have hnil := List.length_eq_zero_iff.1 hz
          subst hnil; exact main _ _ _ false _ _ _ (gv 0 0) 0 (h0' _ hKd hst) rfl hKd (ev_one (evR_atomic id J.lst)) rfl hn0 (fun z => by cases z) (.inr (.inr (.inr (.inr (.inr ⟨by omega, by omega, rfl, rfl, rfl⟩))))) hst hse (hSn rfl)
        · obtain ⟨g2, hg2, hn2⟩ := hall ds.length (by omega) xl
          refine main _ _ _ false _ _ _ (gv ds.length 0) 0 (hg2 _ hKd hst) rfl hKd (ev_one (evR_atomic id J.lst)) ?_ hn2 (fun z => by cases z) (.inl ⟨.inr ⟨ds.length, rfl, by omega, xl, Nat.le_refl _⟩, y1, rfl, rfl⟩) hst hse (hSn rfl); have : ¬ (100 + ds.length = 0 ∨ 100 + ds.length = 7 ∨ 100 + ds.length = 8) := by omega
          simp only [dM, this, if_false]
          rfl
      all_goals omega
    · have hG : ds = [] ∧ s = gv 0 0 ∧ m = 0 := by
        rcases hT with ⟨x, _⟩ | ⟨x, _⟩ | ⟨x, _⟩ | ⟨x, _⟩ | ⟨x, _⟩ | ⟨_, _, x, y, z⟩
        · rcases x with x | ⟨j, x, _⟩ <;> omega
        · omega
        · omega
        · omega
        · omega
        · exact ⟨x, y, z⟩
      obtain ⟨rfl, rfl, rfl⟩ := hG; exact main _ _ _ false _ _ _ (gv 0 0) 0 (h0' _ hKd hst) rfl hKd (ev_one (evR_atomic id J.lst)) rfl hn0 (fun z => by cases z) (.inr (.inr (.inr (.inr (.inr ⟨by omega, by omega, rfl, rfl, rfl⟩))))) hst hse (hSn rfl)
    · have hdm : dM (100 + j) = 1 := by
        have : ¬ (100 + j = 0 ∨ 100 + j = 7 ∨ 100 + j = 8) := by omega
        simp only [dM, this, if_false]
      rcases hT with ⟨x, y1, rfl, rfl⟩ | ⟨x, _⟩ | ⟨x, _⟩ | ⟨x, _⟩ | ⟨x, _⟩ | ⟨x, _⟩
      · have xl : ds.length ≤ j := by
          rcases x with x | ⟨j', x, _, _, y⟩
          · omega
          · omega
        by_cases hz : ds.length = j
        · subst hz
          exact main _ _ _ false _ _ _ (gv ds.length 1) 0 (h1 _ hKd hst) rfl (J.st _ _ hKd) (ev_two (evR_atomic id J.lst) (evR_atomic id J.lst)) (by rw [hdm]; rfl) hn1 (fun z => by cases z) (.inr (.inl ⟨.inl rfl, y1, j0, rfl, rfl⟩)) (num_set hst _) (num_other hse Gp.ne _) (hSn rfl)
        · obtain ⟨g2, hg2, k', n', hk', hn2⟩ := hfail ds.length (by omega)
          obtain ⟨gs', hrt, hsz, hg0, C', hD0⟩ := step0 g2 (w.at d) _ (hg2 _ hKd hst) hKd (ev_one (evR_atomic id J.lst)); obtain ⟨N, mm, TT, hr, hj⟩ := ihk k' (by omega) _ gs' (w.at d) sl' _ q g2 false 1 n' ds sg (gv ds.length 0) 0 (by rw [hsz]; exact hL) rfl (by rw [hg0]; rfl) C' hn2 (fun z => by cases z) h9 (.inl ⟨.inl ⟨by omega, by omega⟩, y1, rfl, rfl⟩) hst hse (by rw [hD0, hdm]; rfl); exact ⟨N + 1, mm, TT, by rw [next hrt]; exact hr, by rw [← hsz]; exact hj⟩
      all_goals omega
    · refine main _ _ _ false _ _ _ s m (h _ hKd) rfl hKd (ev_one ⟨fun x hx => ?_, J.lse⟩) rfl hn (fun z => by cases z) ?_ hst hse (hSn rfl)
      · have : (MemAct.ofEvent (mkE (.write Gp.se))).touch? = some ⟨.cell Gp.se, true, .said⟩ := rfl
        rw [this] at hx; obtain rfl := Option.some.inj hx; exact ⟨fun z => z.elim, fun _ => ⟨by simp, fun _ => rfl⟩⟩
      · rcases hT with ⟨x, _⟩ | ⟨x, y⟩ | ⟨x, y⟩ | ⟨x, y⟩ | ⟨x, y⟩ | ⟨x, _⟩
        · rcases x with x | ⟨j, x, _⟩ <;> omega
        · exact .inr (.inl ⟨.inr rfl, y⟩)
        · exact .inr (.inr (.inl ⟨.inr rfl, y⟩))
        · exact .inr (.inr (.inr (.inl ⟨.inr rfl, y⟩)))
        · exact .inr (.inr (.inr (.inr (.inl ⟨.inr rfl, y⟩))))
        · omega
    · have hm : m = 0 ∨ (m = 1 ∧ ds = [] ∧ s = gv 0 0) := by
        rcases hT with ⟨_, _, _, x⟩ | ⟨_, _, _, _, x⟩ | ⟨_, _, _, x⟩ | ⟨_, _, _, x⟩ | ⟨_, x, y, z⟩ | ⟨_, _, _, _, x⟩
        · exact .inl x
        · exact .inl x
        · exact .inl x
        · exact .inl x
        · exact .inr ⟨z, x, y⟩
        · exact .inl x
      rcases hm with rfl | ⟨rfl, rfl, rfl⟩
      · exact main _ _ _ true g 4 (n + 1) s 0 (h0' _ hKd hse) rfl hKd ev_nil rfl (WS.one (.inr (.inr (.inr (.inr (.inr (.inr (.inl ⟨rfl, hs, ho, g1, h1, h0', hn⟩)))))))) (fun _ => ⟨rfl, rfl, ho⟩) hT hst hse (by simp at hS ⊢; omega)
      · exact main _ _ _ false _ _ _ (gv 0 0) 0 (h1 _ hKd hse) rfl (J.se _ _ hKd) (ev_sem (evR_mark rfl trivial) (evR_atomic id J.lse) (evR_atomic id J.lse) (evR_mark rfl trivial)) rfl hn (fun z => by cases z) (.inr (.inr (.inr (.inr (.inr ⟨by omega, by omega, rfl, rfl, rfl⟩))))) (num_other hst (fun z => Gp.ne z.symm) _) (num_set hse _) (hSn rfl)
    · have hG : ds = [] ∧ s = gv 0 0 ∧ m = 0 := by
        rcases hT with ⟨x, _⟩ | ⟨x, _⟩ | ⟨x, _⟩ | ⟨x, _⟩ | ⟨x, _⟩ | ⟨_, _, x, y, z⟩
        · rcases x with x | ⟨j, x, _⟩ <;> omega
        · omega
        · omega
        · omega
        · omega
        · exact ⟨x, y, z⟩
      obtain ⟨rfl, rfl, rfl⟩ := hG; exact main _ _ _ false _ _ _ (gv 0 0) 0 (h _ hKd) rfl hKd (ev_one (evR_mark rfl trivial)) rfl hn (fun z => by cases z) (.inr (.inr (.inr (.inr (.inr ⟨by omega, by omega, rfl, rfl, rfl⟩))))) hst hse (hSn rfl)
    · have hG : ds = [] ∧ s = gv 0 0 ∧ m = 0 := by
        rcases hT with ⟨x, _⟩ | ⟨x, _⟩ | ⟨x, _⟩ | ⟨x, _⟩ | ⟨x, _⟩ | ⟨_, _, x, y, z⟩
        · rcases x with x | ⟨j, x, _⟩ <;> omega
        · omega
        · omega
        · omega
        · omega
        · exact ⟨x, y, z⟩
      obtain ⟨rfl, rfl, rfl⟩ := hG; exact main _ _ _ false _ _ _ (gv 0 0) 0 (h _ hKd) rfl hKd (ev_one (evR_mark rfl J.lst)) rfl hn (fun z => by cases z) (.inr (.inr (.inr (.inr (.inr ⟨by omega, by omega, rfl, rfl, rfl⟩))))) hst hse (hSn rfl)
  -- goroutine 0's record behind another's step
  have wk : ∀ (g' : Goroutine) (w' : World), ∃ bl', woken P g g' w' (if bl then { a0 with status := .blocked } else a0) = (if bl' then { a0 with status := .blocked } else a0) ∧ (bl' = true → bl = true ∧ ¬ (mayWake P g = true ∧ g'.status = .running)) := by
    intro g' w'; cases bl with
    | false => exact ⟨false, by simp only [Bool.false_eq_true, if_false]; exact woken_of_again (again_running _ (.inl hrun0)), fun z => by cases z⟩
    | true =>
      obtain ⟨_, _, ho⟩ := hbl rfl; rcases woken_blocked P g g' w' hrun0 ho with x | ⟨x, y⟩
      · exact ⟨false, by simpa using x, fun z => by cases z⟩
      · exact ⟨true, by simpa using x, fun _ => ⟨rfl, y⟩⟩
  by_cases hid : i ∈ ds
  · obtain ⟨d1, d2, _, g', d4, d5, d6⟩ := Cd.dep i hid
    rw [hi] at d4; obtain rfl := Option.some.inj d4; have hlt : i < gs.size := (Array.getElem?_eq_some_iff.1 hi).1; obtain ⟨n, hqi, hD⟩ := d5.inv
    have hm0 : m = 0 := by
      rcases hT with ⟨_, _, _, x⟩ | ⟨_, _, _, _, x⟩ | ⟨_, _, _, x⟩ | ⟨_, _, _, x⟩ | ⟨_, x, _⟩ | ⟨_, _, x, _⟩
      · exact x
      · exact x
      · exact x
      · exact x
      · rw [x] at hid; cases hid
      · rw [x] at hid; cases hid
    subst hm0
    have leave : ∀ (a' : Goroutine) (w' : World) (es : Array Event) (s' m' : Int), stepG P false g (w.at d) = .go a' w' es → K w' → (∀ e ∈ es, (∀ x, (MemAct.ofEvent e).touch? = some x → x.kind = .atomic ∧ Shun x.loc) ∧ (MemAct.ofEvent e).low B) → Hush (Deaf T i) es → QuitsD P n (deafBehind (Deaf T i) es) a' →
        ((bl = true → m' = 0) ∨ (mayWake P g = true ∧ a'.status = .running)) → Tab3 k tm (ds.erase i) sg s' m' → Num .u64 Gp.st w' s' → Num .u32 Gp.se w' m' → ∃ N m' T', runNT P N (crowd gs w sl) T = (.next m', T') ∧ Joined P K Shun B Gp Anchor gs.size m' T' := by
      intro a' w' es s' m' hstep hK hes hhu hQ hwake hT' hst' hse'; obtain ⟨gs', f1, f2, f3, f4, f5, _, f7⟩ := Cd.dstep sl' hid hi hstep hK (fun _ _ _ e => by cases e) hes hhu; obtain ⟨bl', hw1, hw2⟩ := wk a' w'
      obtain ⟨N, mm, TT, hr, hj⟩ := ihL (sumTo gs'.size (upd q i n)) (by rw [f2]; have := sum_less (q := q) hlt hqi (Nat.le_refl n); omega) k _ gs' w' sl' _ (upd q i n) a0 bl' tm nm (ds.erase i) sg s' m' rfl rfl (by rw [f4 _ h0, hw1]) (f7 n hQ) hM (fun z => by
          obtain ⟨b1, b2⟩ := hw2 z; obtain ⟨c1, _, c3⟩ := hbl b1; exact ⟨c1, hwake.elim (fun y => y b1) fun y => absurd y b2, c3⟩) (Nat.le_trans List.length_erase_le h9) hT' hst' hse' (by rw [Deaf_other T e0 _ ops_g]; exact hd0)
      exact ⟨N + 1, mm, TT, by rw [next f1]; exact hr, by rw [← f2]; exact hj⟩
    have stay : ∀ (a' : Goroutine) (w' : World) (es : Array Event) (t' : Nat) (s' : Int), stepG P false g (w.at d) = .go a' w' es → K w' → (∀ e ∈ es, (∀ x, (MemAct.ofEvent e).touch? = some x → x.kind = .atomic ∧ Shun x.loc) ∧ (MemAct.ofEvent e).low B) → Hush (Deaf T i) es → DP P K Gp n t' a' → deafBehind (Deaf T i) es = dC t' →
        Tab3 k tm ds (upd sg i t') s' 0 → Num .u64 Gp.st w' s' → Num .u32 Gp.se w' 0 → ∃ N m' T', runNT P N (crowd gs w sl) T = (.next m', T') ∧ Joined P K Shun B Gp Anchor gs.size m' T' := by
      intro a' w' es t' s' hstep hK hes hhu hdp hdf hT' hst' hse'; obtain ⟨gs', f1, f2, f3, f4, f5, f6, _⟩ := Cd.dstep sl' hid hi hstep hK (fun _ _ _ e => by cases e) hes hhu; obtain ⟨bl', hw1, hw2⟩ := wk a' w'
      obtain ⟨N, mm, TT, hr, hj⟩ := ihL (sumTo gs'.size (upd q i n)) (by rw [f2]; have := sum_less (q := q) hlt hqi (Nat.le_refl n); omega) k _ gs' w' sl' _ (upd q i n) a0 bl' tm nm ds (upd sg i t') s' 0 rfl rfl (by rw [f4 _ h0, hw1]) (f6 n t' hdp hdf) hM (fun z => by
          obtain ⟨b1, _⟩ := hw2 z; obtain ⟨c1, _, c3⟩ := hbl b1; exact ⟨c1, rfl, c3⟩) h9 hT' hst' hse' (by rw [Deaf_other T e0 _ ops_g]; exact hd0)
      exact ⟨N + 1, mm, TT, by rw [next f1]; exact hr, by rw [← f2]; exact hj⟩
    -- the table, with i's stage moved on among the first ones
    have lowT : ∀ t', sg i ≤ 2 → t' ≤ 2 → Tab3 k tm ds (upd sg i t') s 0 := by
      intro t' h1 h2
      have up : ∀ t'', t'' ≤ 2 → (∀ x, x ∈ ds → sg x ≤ 2) → ∀ x, x ∈ ds → upd sg i t'' x ≤ 2 := fun t'' h hx x hxd => by
        by_cases e : x = i
        · subst e; rw [upd_same]; exact h
        · rw [upd_ne _ _ e]; exact hx x hxd
      rcases hT with ⟨x, y, z⟩ | ⟨x, y, z⟩ | ⟨_, ⟨i', x, y⟩, _⟩ | ⟨_, ⟨i', x, y⟩, _⟩ | ⟨_, x, _⟩ | ⟨_, _, x, _⟩
      · exact .inl ⟨x, up t' h2 y, z⟩
      · exact .inr (.inl ⟨x, up t' h2 y, z⟩)
      · rw [x] at hid; simp at hid; subst hid; omega
      · rw [x] at hid; simp at hid; subst hid; omega
      · rw [x] at hid; cases hid
      · rw [x] at hid; cases hid
    rcases hD with ⟨_, a', hst2, hn⟩ | ⟨ht, _, a', hst2, hn⟩ | ⟨ht, _, a', hst2, hn⟩ | ⟨ht, _, hadd, a1, hst1, hn1⟩ | ⟨ht, _, a', hst2, hn⟩ | ⟨ht, _, a', hst2, hn⟩ | ⟨ht, _, hw, a', hs', hst2, hn⟩
    · refine stay a' _ _ (sg i) s (hst2 _ hKd) hKd ev_nil (hush_mute ev_nil) hn (by rw [d6]; rfl) ?_ hst hse
      have : upd sg i (sg i) = sg := by
        funext x
        by_cases e : x = i
        · subst e; rw [upd_same]
        · rw [upd_ne _ _ e]
      rw [this]; exact hT
    · exact stay a' _ _ 1 s (hst2 _ hKd) hKd (ev_one (evO_mark rfl J.lst)) (hush_mute (ev_one rfl)) hn (by rw [d6, ht]; rfl) (lowT 1 (by omega) (by omega)) hst hse
    · exact stay a' _ _ 2 s (hst2 _ hKd) hKd (ev_one (evO_mark rfl trivial)) (hush_mute (ev_one rfl)) hn (by rw [d6, ht]; rfl) (lowT 2 (by omega) (by omega)) hst hse
    · rw [ht] at d6
      have hlen : (ds.erase i).length = ds.length - 1 := List.length_erase_of_mem hid; have hpos := List.length_pos_of_mem hid; have hush2 : Hush (Deaf T i) #[rdE Gp.st, wrE Gp.st] := hush_deaf (by rw [d6]; decide) (by intro e he; simp at he; rcases he with rfl | rfl <;> simp); rcases hT with ⟨x, y, rfl, _⟩ | ⟨x, y, _, rfl, _⟩ | ⟨_, ⟨i', x, y⟩, _⟩ | ⟨_, ⟨i', x, y⟩, _⟩ | ⟨_, x, _⟩ | ⟨_, _, x, _⟩
      · obtain ⟨mm, hmm⟩ : ∃ mm, ds.length = mm + 1 := ⟨ds.length - 1, (Nat.sub_add_cancel hpos).symm⟩
        obtain ⟨a', hst2, hq⟩ := hadd mm 0 (by omega) (by omega) (.inl rfl); rw [hmm] at hst; refine leave a' _ _ (gv mm 0) 0 (hst2 _ hKd hst) (J.st _ _ hKd) (ev_two (evO_atomic J.shst J.lst) (evO_atomic J.shst J.lst)) hush2 (by rw [d6]; exact hq) (.inl fun _ => rfl) (.inl ⟨?_, fun x hx => y x (List.mem_of_mem_erase hx), by rw [hlen, hmm]; rfl, rfl⟩) (num_set hst _) (num_other hse Gp.ne _); rcases x with ⟨x1, x2⟩ | ⟨j, x1, x2, x3, x4⟩
        · exact .inl ⟨x1, by omega⟩
        · exact .inr ⟨j, x1, x2, x3, by omega⟩
      · by_cases h1 : ds.length = 1
        · rw [h1] at hst
          obtain ⟨i', hi'⟩ := List.length_eq_one_iff.1 h1; have : i' = i := by rw [hi'] at hid; exact (List.mem_singleton.1 hid).symm
          subst this; exact stay a1 _ _ 3 (gv 0 1) (hst1 _ hKd hst) (J.st _ _ hKd) (ev_two (evO_atomic J.shst J.lst) (evO_atomic J.shst J.lst)) hush2 hn1 (by rw [d6]; rfl) (.inr (.inr (.inl ⟨x, ⟨i', hi', by rw [upd_same]; exact .inl rfl⟩, rfl, rfl⟩))) (num_set hst _) (num_other hse Gp.ne _)
        · obtain ⟨mm, hmm⟩ : ∃ mm, ds.length = mm + 1 := ⟨ds.length - 1, (Nat.sub_add_cancel hpos).symm⟩
          obtain ⟨a', hst2, hq⟩ := hadd mm 1 (by omega) (by omega) (.inr (by omega)); rw [hmm] at hst; exact leave a' _ _ (gv mm 1) 0 (hst2 _ hKd hst) (J.st _ _ hKd) (ev_two (evO_atomic J.shst J.lst) (evO_atomic J.shst J.lst)) hush2 (by rw [d6]; exact hq) (.inl fun _ => rfl) (.inr (.inl ⟨x, fun x hx => y x (List.mem_of_mem_erase hx), by omega, by rw [hlen, hmm]; rfl, rfl⟩)) (num_set hst _) (num_other hse Gp.ne _)
      · rw [x] at hid; simp at hid; subst hid; omega
      · rw [x] at hid; simp at hid; subst hid; omega
      · rw [x] at hid; cases hid
      · rw [x] at hid; cases hid
    · rw [ht] at d6
      rcases hT with ⟨_, y, _⟩ | ⟨_, y, _⟩ | ⟨x0, ⟨i', x, y⟩, rfl, _⟩ | ⟨_, ⟨i', x, y⟩, _⟩ | ⟨_, x, _⟩ | ⟨_, _, x, _⟩
      · have := y i hid; omega
      · have := y i hid; omega
      · have : i' = i := by rw [x] at hid; exact (List.mem_singleton.1 hid).symm
        subst this; exact stay a' _ _ 4 (gv 0 1) (hst2 _ hKd hst) hKd (ev_one (evO_atomic J.shst J.lst)) (hush_deaf (by rw [d6]; decide) (by intro e he; simp at he; subst he; simp)) hn (by rw [d6]; rfl) (.inr (.inr (.inl ⟨x0, ⟨i', x, by rw [upd_same]; exact .inr rfl⟩, rfl, rfl⟩))) hst hse
      · rw [x] at hid; simp at hid; subst hid; omega
      · rw [x] at hid; cases hid
      · rw [x] at hid; cases hid
    · rw [ht] at d6
      rcases hT with ⟨_, y, _⟩ | ⟨_, y, _⟩ | ⟨x0, ⟨i', x, y⟩, rfl, _⟩ | ⟨_, ⟨i', x, y⟩, _⟩ | ⟨_, x, _⟩ | ⟨_, _, x, _⟩
      · have := y i hid; omega
      · have := y i hid; omega
      · have : i' = i := by rw [x] at hid; exact (List.mem_singleton.1 hid).symm
        subst this; exact stay a' _ _ 5 (gv 0 0) (hst2 _ hKd hst) (J.st _ _ hKd) (ev_one (evO_atomic J.shst J.lst)) (hush_deaf (by rw [d6]; decide) (by intro e he; simp at he; subst he; simp)) hn (by rw [d6]; rfl) (.inr (.inr (.inr (.inl ⟨x0, ⟨i', x, by rw [upd_same]⟩, rfl, rfl⟩)))) (num_set hst _) (num_other hse Gp.ne _)
      · rw [x] at hid; simp at hid; subst hid; omega
      · rw [x] at hid; cases hid
      · rw [x] at hid; cases hid
    · rw [ht] at d6
      rcases hT with ⟨_, y, _⟩ | ⟨_, y, _⟩ | ⟨_, ⟨i', x, y⟩, _⟩ | ⟨x0, ⟨i', x, y⟩, rfl, _⟩ | ⟨_, x, _⟩ | ⟨_, _, x, _⟩
      · have := y i hid; omega
      · have := y i hid; omega
      · rw [x] at hid; simp at hid; subst hid; omega
      · have : i' = i := by rw [x] at hid; exact (List.mem_singleton.1 hid).symm
        subst this; exact leave a' _ _ (gv 0 0) 1 (hst2 _ hKd hse) (J.se _ _ hKd) (ev_sem (evO_mark rfl trivial) (evO_atomic J.shse J.lse) (evO_atomic J.shse J.lse) (evO_mark rfl trivial)) (hush_sem (by rw [d6]; decide) _) (by rw [d6]; exact hn) (.inr ⟨hw, hs'⟩) (.inr (.inr (.inr (.inr (.inl ⟨x0, by rw [x]; simp, rfl, rfl⟩))))) (num_other hst (fun z => Gp.ne z.symm) _) (num_set hse _)
      · rw [x] at hid; cases hid
      · rw [x] at hid; cases hid
  · obtain ⟨gs', g', ops, q', hrt, hops, hsz, hgh, C', hlt⟩ := Cd.slip sl' hi e0 hid rfl hg
    obtain ⟨bl', hw1, hw2⟩ := wk g' (w.at d); obtain ⟨N, mm, TT, hr, hj⟩ := ihL (sumTo gs'.size q') (by rw [hsz]; omega) k _ gs' (w.at d) sl' _ q' a0 bl' tm nm ds sg s m rfl rfl (by rw [hgh _ h0, hw1]) C' hM (fun z => hbl (hw2 z).1) h9 hT hst hse (by rw [Deaf_other T e0 _ hops]; exact hd0); exact ⟨N + 1, mm, TT, by rw [next hrt]; exact hr, by rw [← hsz]; exact hj⟩
end
end Go.Proofs.YtobagnjnbmgidaaGreatDoor
