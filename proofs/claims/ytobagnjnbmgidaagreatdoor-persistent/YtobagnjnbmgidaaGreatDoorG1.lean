/- From a walk's rules to the machine: 'At': whatever machine stands so goes on to a good end. -/
import Derived.Test.YtobagnjnbmgidaaGreatDoorX1
import Derived.Conc.LeavingOf
import Derived.RunNT
set_option linter.unusedVariables false
set_option linter.unusedSimpArgs false
namespace Go.Proofs.YtobagnjnbmgidaaGreatDoor
open Go.Conc
open Go.ConcN (sumTo upd sumTo_upd upd_ne upd_same)

/-- The machine comes to a good end. -/
def Goal (P : Program) (Post : Value → World → Prop) (m : Machine) (T : Trace) : Prop :=
  ∃ N last o w' t', runNT P (N + 1) m T = (.ended o w', t') ∧ runN P N m = .next last ∧ step P last = .ended o w' ∧ Conc.Good P Post last o w' t'

theorem Goal.back {P : Program} {Post : Value → World → Prop} {N : Nat} {m m₁ : Machine} {T T₁ : Trace} (h : runNT P N m T = (.next m₁, T₁)) (g : Goal P Post m₁ T₁) : Goal P Post m T := by
  obtain ⟨M, last, o, w', t', h1, h2, h3, h4⟩ := g
  have hN : runN P N m = .next m₁ := by rw [← runNT_fst P N m T, h]
  exact ⟨N + M, last, o, w', t', by rw [Nat.add_assoc, runNT_add, h]; exact h1, by rw [runN_add, hN]; exact h2, h3, h4⟩

section
variable {P : Program} {Post : Value → World → Prop} {K : World → Prop} {Shun Still : Loc → Prop} {B : Nat} {Mem : Nat → Prop} {Inb : Nat → Option Seat} {h n : Nat} {T : Trace} {gs : Array Goroutine} {w : World} {q : Nat → Nat} {a g : Goroutine}

/-- Whatever machine of n goroutines stands so, h holding with this record in this world, comes to a good end. -/
def At (P : Program) (Post : Value → World → Prop) (K : World → Prop) (Shun Still : Loc → Prop) (Mem : Nat → Prop) (Inb : Nat → Option Seat) (h n : Nat) (g : Goroutine) (w : World) : Prop :=
  ∀ (d : Nat) (gs : Array Goroutine) (T : Trace) (q : Nat → Nat) (sl : Option (Nat × Nat)), gs.size = n → gs[h]? = some g → R2 P K Shun Still w.heap.size Mem Inb h T gs (w.at d) q → Goal P Post (crowd gs (w.at d) sl) T

theorem goes_mono {s : GStep} {A B : Goroutine → World → Array Event → Prop} (h : ∀ g w es, A g w es → B g w es) (x : s.goes A) : s.goes B := by
  cases s <;> first | exact h _ _ _ x | exact x.elim

theorem at_fut {D : World → World → Array Event → Prop} (hKat : ∀ w d, K w → K (w.at d)) (hD : ∀ w w' es, D w w' es → DR K Shun Still h w w' es) (hi : ∀ w d, D w (w.at d) #[]) (hMem : Mem h) : Fut P (h == 0) D (At P Post K Shun Still Mem Inb h n) := by
  have hat : ∀ g w d, At P Post K Shun Still Mem Inb h n g w → At P Post K Shun Still Mem Inb h n g (w.at d) := fun g w d x d' => x d'
  refine ⟨hat, hi, fun g w hs hst => ?_⟩
  intro d gs T q sl hn hg C
  have W : Walk P (h == 0) D (At P Post K Shun Still Mem Inb h n) g w := (walk_fut hi _).step g w hs fun d => goes_mono (fun g' w' es x => ⟨x.1, .stop fun d' => hat _ _ _ x.2⟩) (hst d)
  obtain ⟨N, gs', a', w', sl', T', q', h1, h2, h3, h4, h5, h6⟩ := hold hKat hD (.inl hMem) ((walk_fut hi _).at' _ _ d W) gs T q sl hg C
  exact Goal.back h1 (h4 w'.drawn gs' T' q' sl' (h2.trans hn) h3 h5)

/-- The holder is picked in the end. -/
theorem r2_picked (hKat : ∀ w d, K w → K (w.at d)) (hMem : Mem h) (hs : a.status = .running) : ∀ (μ : Nat) (gs : Array Goroutine) (T : Trace) (q : Nat → Nat) (sl : Option (Nat × Nat)) (d₀ : Nat), sumTo gs.size q = μ → gs[h]? = some a → R2 P K Shun Still B Mem Inb h T gs (w.at d₀) q →
    ∃ N gs' d₁ d sl₁ sl' T' q', runNT P N (crowd gs (w.at d₀) sl) T = (.next (crowd gs' (w.at d₁) sl₁), T') ∧ stepT P (crowd gs' (w.at d₁) sl₁) = runT P (crowd gs' (w.at d) sl') h ∧ gs'.size = gs.size ∧ gs'[h]? = some a ∧ R2 P K Shun Still B Mem Inb h T' gs' (w.at d) q' := by
  intro μ
  induction μ using Nat.strongRecOn with
  | _ μ ih =>
    intro gs T q sl d₀ hμ ha C
    obtain ⟨i, g, d, sl', hi, hg, hpick⟩ := crowd_pick (P := P) (w := w.at d₀) (sl := sl) (C.awake ha (.inl hs)) ⟨h, a, ha, hs⟩
    have hpick' : stepT P (crowd gs (w.at d₀) sl) = runT P (crowd gs (w.at d) sl') i := hpick
    have Cd : R2 P K Shun Still B Mem Inb h T gs (w.at d) q := TokCore.at hKat C d
    by_cases e : i = h
    · subst e
      exact ⟨0, gs, d₀, d, sl, sl', T, q, rfl, hpick', rfl, ha, Cd⟩
    · obtain ⟨gs', ops, q', hrt, hsz, hsp, _, _, C', hlt⟩ := TokCore.by_step (Kf := Acc Shun h) (sl := sl') (fun t u i x => Acc.app x u) Cd hi e hg
        (fun x gx hx hgx => by subst hx; rw [ha] at hgx; obtain rfl := Option.some.inj hgx; exact again_running _ (.inl hs)) (fun z => z.elim)
        (fun s' g₂ _ _ => ⟨fun z => z, fun x gx c' hx hgx _ => by subst hx; rw [ha] at hgx; obtain rfl := Option.some.inj hgx; exact offersAt_of_not_blocked (by rw [hs]; simp) _ _⟩)
      obtain ⟨N, gs'', d₁, d₂, sl₁, sl₂, T', q'', h1, h2, h3, h4, h5⟩ := ih (sumTo gs'.size q') (by rw [hsz]; omega) gs' _ q' sl' d rfl (by rw [hsp h rfl]; exact ha) C'
      exact ⟨N + 1, gs'', d₁, d₂, sl₁, sl₂, T', q'', by simp only [runNT, hpick', hrt]; exact h1, h2, by rw [h3, hsz], h4, h5⟩

theorem goes_still {main : Bool} {Still' : Loc → Prop} {s : Seat} (hS : ∀ l, Still l → Still' l) {n : Nat} {g : Goroutine} (x : Sits P main K Still B s n g) : Sits P main K Still' B s n g := by
  have ev : ∀ e, EvC Still B e → EvC Still' B e := fun e ⟨a, e1, e2, e3⟩ => ⟨a, e1, hS _ e2, e3⟩
  have at' : ∀ g g₂, AtIn P main K Still B s g g₂ → AtIn P main K Still' B s g g₂ := fun g g₂ ⟨h1, h2, h3, h4, h5, es, hes, hst⟩ => ⟨h1, h2, h3, h4, h5, es, fun e he => ev e (hes e he), hst⟩
  rcases x with ⟨k, w, e, hg⟩ | ⟨e, g₀, g₂, e2, hat⟩
  · exact .inl ⟨k, w, e, goes_weaken (fun _ _ _ ⟨d1, d2⟩ => ⟨d1, fun e he => ev e (d2 e he)⟩) (fun _ _ ⟨g₂, y⟩ => ⟨g₂, at' _ _ y⟩) hg⟩
  · exact .inr ⟨e, g₀, g₂, e2, at' _ _ hat⟩

/-- A memory place that no operation of the past can have named. -/
def New (B : Nat) (l : Loc) : Prop := ∃ a : Addr, l = .cell a ∧ B ≤ a.block

theorem touch_low {t : Trace} {i : Nat} {x : Touch} (hs : ∀ op ∈ t, op.act.low B) (hx : touchAt t i = some x) (hn : New B x.loc) : False := by
  obtain ⟨op, hop, ht⟩ := touch_of hx
  have hl := hs op (Array.mem_of_getElem? hop)
  obtain ⟨ad, e1, e2⟩ := hn
  obtain ⟨g, fn, pos, act⟩ := op
  cases act with
  | access e =>
    obtain ⟨loc, wr, sy⟩ := e
    simp only [MemAct.touch?] at ht
    simp only [MemAct.low] at hl
    have hx' : x.loc = loc := by
      revert ht
      cases loc <;> cases sy <;> simp <;> intro ht <;> rw [← ht]
    rw [hx'] at e1
    subst e1
    simp only [Loc.low] at hl
    omega
  | mark m =>
    cases m <;> simp only [MemAct.touch?, reduceCtorEq, Option.some.injEq] at ht
    all_goals
      subst ht
      simp only [MemAct.low] at hl
      simp only [Loc.cell.injEq] at e1
      subst e1
      omega
  | _ => simp [MemAct.touch?] at ht
end
end Go.Proofs.YtobagnjnbmgidaaGreatDoor

/-! On: a fresh block that stands still or is shunned from now on; hand-overs; the end. -/
namespace Go.Proofs.YtobagnjnbmgidaaGreatDoor
open Go.Conc
open Go.ConcN (sumTo upd sumTo_upd upd_ne upd_same)

section
variable {P : Program} {Post : Value → World → Prop} {K : World → Prop} {Shun Still : Loc → Prop} {B : Nat} {Mem : Nat → Prop} {Inb : Nat → Option Seat} {h n : Nat} {T : Trace} {gs : Array Goroutine} {w : World} {q : Nat → Nat} {a g : Goroutine}

/-- More places stand still, and more are shunned: none that the past can have named. -/
theorem R2.grow {Shun' Still' : Loc → Prop} (C : R2 P K Shun Still B Mem Inb h T gs w q) (h1 : ∀ l, Still l → Still' l) (h2 : ∀ l, Still' l → Still l ∨ New B l) (h3 : ∀ l, Shun l → Shun' l) (h4 : ∀ l, Shun' l → Shun l ∨ New B l) : R2 P K Shun' Still' B Mem Inb h T gs w q := by
  have hs := C.past.seen
  refine ⟨fun i g hi hg => ?_, C.chans, C.wf, C.live, C.inj, C.above, C.mem, C.nomem, C.lo, ⟨C.past.clean, fun i x hx hm => ?_, fun i x hx hw hS g hg => ?_, C.past.hears, hs⟩, C.keep⟩
  · have := C.idle i g hi hg
    cases e : Inb i with
    | none => rw [e] at this; exact this
    | some s => rw [e] at this; exact goes_still h1 this
  · refine (C.past.known i x hx hm).imp (fun ⟨x1, x2, x3⟩ => ⟨x1, x2.imp id fun ⟨b, y1, y2, y3, y4⟩ => ⟨b, y1, y2, h3 _ y3, y4⟩, fun b hb hsh => ?_⟩) fun ⟨x1, x2, x3⟩ => ⟨x1, h1 _ x2, x3⟩
    rcases h4 _ hsh with z | z
    · exact x3 b hb z
    · exact (touch_low hs hb z).elim
  · rcases h2 _ hS with z | z
    · exact C.past.wrote i x hx hw z g hg
    · exact (touch_low hs hx z).elim

theorem At.grow {Shun' Still' : Loc → Prop} {a' : Goroutine} {o : Obj} (hKat : ∀ w d, K w → K (w.at d)) (hKal : ∀ w, K w → K (w.alloc o)) (hMem : Mem h) (hs : a.status = .running) (hst : ∀ d, stepG P (h == 0) a (w.at d) = .go a' ((w.alloc o).at d) #[])
    (h1 : ∀ l, Still l → Still' l) (h2 : ∀ l, Still' l → Still l ∨ New w.heap.size l) (h3 : ∀ l, Shun l → Shun' l) (h4 : ∀ l, Shun' l → Shun l ∨ New w.heap.size l) (hn : At P Post K Shun' Still' Mem Inb h n a' (w.alloc o)) : At P Post K Shun Still Mem Inb h n a w := by
  intro d₀ gs T q sl hsz ha C
  obtain ⟨N, gs', d₁, d, sl₁, sl', T', q', e1, e2, e3, e4, e5⟩ := r2_picked hKat hMem hs _ gs T q sl d₀ rfl ha C
  obtain ⟨C', ha'⟩ := R2.own (a' := a') (w' := (w.alloc o).at d) e5 e4 (hKat _ _ (hKal _ (show K w from hKat (w.at d) w.drawn e5.keep))) (fun i s c e hc => by
    obtain ⟨cap, k, hk⟩ := e5.chans i s c (fun z => z) e hc
    have hk' : w.heap[c]? = some (.chan cap #[] false k k false) := hk
    show (w.alloc o).heap[c]? = w.heap[c]?
    exact Go.RowKit.Below.heap_alloc _ _ _ ((Array.getElem?_eq_some_iff.1 hk').1)) (es := #[]) (fun e he => by simp at he) (fun _ => rfl)
  have C2 := R2.grow C' h1 h2 h3 h4
  have C3 : R2 P K Shun' Still' (w.alloc o).heap.size Mem Inb h _ _ _ _ := core_raise C2 (by simp)
  exact Goal.back (run_then e1 (e2.trans (runT_crowd_go (sl := sl') e4 (hst d)))) (hn d _ _ _ sl' (by simp [e3, hsz]) ha' C3)

/-- The holder gives. -/
theorem At.give {a₂ : Goroutine} {j c kk : Nat} {s : Seat} {v z z' : Value} {es : Array Event} (hKat : ∀ w d, K w → K (w.at d)) (hKc : ∀ w i s c k, Inb i = some s → s.has c → K w → K (w.setChan c 0 #[] false k k false)) (hSS : ∀ l, Still l → ¬ Shun l) (hjh : j ≠ h) (hjn : j < n) (hj : Inb j = some s) (hk : s.cases[kk]? = some (rcase c z)) (hMh : Mem h)
    (hrun : a.status = .running) (hsend : ∀ d, stepG P (h == 0) a (w.at d) = .comm a₂ #[scase c v z'] true .send (w.at d) es) (hes : ∀ e ∈ es, EvR Shun Still w.heap.size h e ∧ e.loc ≠ .mark .disable ∧ e.loc ≠ .mark .enable)
    (hcK : ∀ w, K w → ∃ k, w.heap[c]? = some (.chan 0 #[] false k k false))
    (next : ∀ k d gs' g₂ T' q' sl', w.heap[c]? = some (.chan 0 #[] false k k false) → s.home g₂ → gs'.size = n → gs'[h]? = some (Go.Conc.served a₂ undef) → gs'[j]? = some (Go.Conc.served g₂ (commResult s.cases s.shape kk v true)) → Both P K Shun Still w.heap.size Mem Inb h j T' gs' ((w.at d).setChan c 0 #[] false (k + 1) (k + 1) false) q' →
      Goal P Post (crowd gs' ((w.at d).setChan c 0 #[] false (k + 1) (k + 1) false) sl') T') : At P Post K Shun Still Mem Inb h n a w := by
  intro d₀ gs T q sl hsz ha C
  obtain ⟨k, hc⟩ := hcK _ C.keep
  obtain ⟨N, m', T', e1, gs', g₂, d, sl', q', rfl, e2, e3, e4, e5, e6⟩ := give2 (v := v) (z' := z') hKat hKc hSS hjh hj hk hMh hrun hsend hes hc _ gs T q sl d₀ rfl (by rw [hsz]; exact hjn) ha C
  exact Goal.back e1 (next k d gs' g₂ T' q' sl' hc e5 (e2.trans hsz) e3 e4 e6)

/-- The taker holds; the giver is on its way to its own seat. -/
theorem both_to {K' : World → Prop} {Still' : Loc → Prop} {j m : Nat} {s : Seat} {b : Goroutine} (C : Both P K Shun Still B Mem Inb h j T gs w q) (hjh : j ≠ h) (hInb : ∀ x, x ≠ j → Inb x = none) (hMem : ∀ x, Mem x → x = h ∨ x = j) (hMh : Mem h) (hS : ∀ l, Still' l → Still l) (hb : gs[h]? = some b)
    (hwf : s.Wf) (hch : ∀ c, s.has c → ∃ k, w.heap[c]? = some (.chan 0 #[] false k k false)) (hcB : ∀ c, s.has c → c < B) (hsit : Sits P (h == 0) K' Still' B s m b) (hK : K' w) :
    R2 P K' Shun Still' B Mem (fun x => if x = h then some s else none) j T gs w (upd q h m) := by
  have hone : ∀ i s', (fun x => if x = h then some s else none : Nat → Option Seat) i = some s' → i = h ∧ s' = s := fun i s' e => by
    by_cases e0 : i = h
    · simp only [e0, if_true, Option.some.injEq] at e; exact ⟨e0, e.symm⟩
    · simp only [e0, if_false] at e; cases e
  refine ⟨fun x y hx hy => ?_, fun i s' c _ e hc => ?_, fun i s' e => ?_, fun _ _ z => z.elim, fun i i' s₁ s₂ c e₁ e₂ _ _ => ?_, C.above, fun i s' e => ?_, fun i hM => ?_, fun i s' hi e => ⟨hi, by obtain ⟨rfl, _⟩ := hone _ _ e; simp⟩, ⟨C.past.clean, fun i x hx hm => ?_, fun i x hx hw hs g hg => C.past.wrote i x hx hw (hS _ hs) g hg, C.past.hears, C.past.seen⟩, hK⟩
  · by_cases e : x = h
    · subst e
      rw [hb] at hy
      obtain rfl := Option.some.inj hy
      simp only [if_true, upd_same]
      exact hsit
    · have := C.idle x y (fun z => z.elim e hx) hy
      rw [hInb x hx] at this
      simp only [e, if_false]
      rw [upd_ne q m e]
      exact this
  · obtain ⟨_, rfl⟩ := hone _ _ e
    obtain ⟨k, hk⟩ := hch c hc
    exact ⟨0, k, hk⟩
  · obtain ⟨_, rfl⟩ := hone _ _ e
    exact hwf
  · rw [(hone _ _ e₁).1, (hone _ _ e₂).1]
  · obtain ⟨rfl, rfl⟩ := hone _ _ e
    exact ⟨hMh, hcB⟩
  · rcases hMem i hM with rfl | rfl
    · exact .inl (by simp)
    · exact .inr rfl
  · refine (C.past.known i x hx hm).imp id fun ⟨_, _, g, _, ⟨_, x3⟩, x4⟩ => ?_
    rw [hInb g x4] at x3
    cases x3

/-- Both stand apart at the join. -/
theorem both_jn {K' : World → Prop} {c : Nat} (C : Both P K Shun Still B Mem Inb c 0 T gs w q) (hInb : ∀ x, x ≠ 0 → Inb x = none) (hK : K' w) : Jn P K' Shun B c T gs w q := by
  refine ⟨fun x y hx hy => ?_, fun i s c _ e => (by cases e), fun i s e => (by cases e), fun _ _ z => z.elim, fun i i' s s' c e => (by cases e), C.above, fun i s e => (by cases e), fun i hi => hi.elim, fun i s _ e => (by cases e), ⟨C.past.clean, fun i x hx hm => .inl ?_, fun i x hx hw hS => hS.elim, fun g hg => hg.elim, C.past.seen⟩, hK⟩
  · have := C.idle x y (fun z => hx z.symm) hy
    rw [hInb x (fun z => hx (.inl z))] at this
    exact this
  · rcases C.past.known i x hx hm with z | ⟨_, _, g, _, ⟨_, x3⟩, x4⟩
    · exact z
    · rw [hInb g x4] at x3
      cases x3

/-- Goroutine 0 beside leavers: what the library's last walk asks. -/
theorem solo_past (C : Solo P K Shun B Mem T gs w q) (hd : Deaf T 0 = 0) : Past Shun B T := by
  have hk : ∀ i x, touchAt T i = some x → x.loc.isMemory = true → Acc Shun 0 T i := fun i x hx hm => (C.past.known i x hx hm).elim id fun z => z.2.1.elim
  refine ⟨C.past.clean, fun i x hx hm => ?_, fun i g hg hne hc => ?_, hd, C.past.seen⟩
  · refine (hk i x hx hm).2.1.imp id fun ⟨b, y1, y2, y3, _⟩ => ?_
    have : b = x := by rw [hx] at y1; exact (Option.some.inj y1).symm
    subst this
    exact ⟨y3, y2⟩
  · obtain ⟨x, hx, hm, hor⟩ := hc
    rcases (hk i x hx hm).2.1 with ⟨j, z, hz, hz0, hb⟩ | ⟨b, y1, y2, _, y4⟩
    · rcases hb with rfl | hb
      · rw [g?_of hz, hz0] at hg
        exact absurd (Option.some.inj hg).symm hne
      · exact ⟨j, by rw [g?_of hz, hz0], hb⟩
    · have : b = x := by rw [show touchAt T i = some x from hx] at y1; exact (Option.some.inj y1).symm
      subst this
      rcases hor with z | z
      · exact absurd y2 z
      · exact absurd z y4
theorem solo_leavers (C : Solo P K Shun B Mem T gs w q) : Leavers P T gs q := ⟨fun i g hi hg => (show 0 < i ∧ QuitsD P (q i) (Deaf T i) g from C.idle i g (fun z => by omega) hg).2, C.above⟩

/-- Goroutine 0 stands at the step that ends the run. -/
theorem At.ends {v : Value} {es : Array Event} (hs : a.status = .running) (hMem : Mem 0) (hend : ∀ d, stepG P true a (w.at d) = .ended (.done v) (w.at d) es) (hes : ∀ e ∈ es, EvL Shun w.heap.size e) (hp : ∀ d, Post v (w.at d)) : At P Post K Shun (fun _ => False) Mem (fun _ => none) 0 n a w := by
  intro d gs T q sl hsz ha C
  exact beside_ends (D := fun _ _ es => es = #[]) (Shun := Shun) (B := w.heap.size) (n := 0) (q := q) (fun _ _ es he => by subst he; intro e he; simp at he) ha (solo_leavers C) (solo_past C (C.past.hears 0 hMem)) (fun w₁ ⟨d', e⟩ => by subst e; exact ⟨hs, v, es, hend d', hes, hp d'⟩)

/-- The start. -/
theorem goal_start (hK : K w) (hM : ∀ x, Mem x → x = 0) (hA : At P Post K Shun (fun _ => False) Mem (fun _ => none) 0 1 a w) : Goal P Post (solo a w) #[] := by
  have e : solo a w = crowd #[a] w none := rfl
  rw [e]
  refine hA w.drawn #[a] #[] (fun _ => 0) none rfl rfl ⟨fun i g hi hg => ?_, fun i s c _ e => (by cases e), fun i s e => (by cases e), fun _ _ z => z.elim, fun i i' s s' c e => (by cases e), fun j hj => ?_, fun i s e => (by cases e), fun i hi => .inr (hM i hi), fun i s _ e => (by cases e), ⟨fun said ⟨i, j, x⟩ => ?_, fun i x hx => ?_, fun i x hx => ?_, fun g _ => rfl, fun op hop => by simp at hop⟩, hK⟩
  · rcases i with _ | i
    · exact absurd rfl hi
    · simp at hg
  · rfl
  · obtain ⟨_, ⟨x, y, hx, _⟩, _⟩ := x
    simp [Trace.act?] at hx
  · simp [touchAt, Trace.act?] at hx
  · simp [touchAt, Trace.act?] at hx
end
end Go.Proofs.YtobagnjnbmgidaaGreatDoor

/-! On: a go statement; the join; what a plain walk lists. -/
namespace Go.Proofs.YtobagnjnbmgidaaGreatDoor
open Go.Conc
open Go.ConcN (sumTo upd sumTo_upd upd_ne upd_same)

section
variable {P : Program} {Post : Value → World → Prop} {K : World → Prop} {Shun Still : Loc → Prop} {B : Nat} {Mem : Nat → Prop} {Inb : Nat → Option Seat} {h n : Nat} {T : Trace} {gs : Array Goroutine} {w : World} {q : Nat → Nat} {a g : Goroutine}

/-- What is asked of the world may be said anew. -/
theorem At.keep {K' : World → Prop} (hK : ∀ d, K' (w.at d)) (hn : At P Post K' Shun (fun _ => False) Mem (fun _ => none) 0 n a w) : At P Post K Shun (fun _ => False) Mem (fun _ => none) 0 n a w :=
  fun d gs T q sl hsz ha C => hn d gs T q sl hsz ha (core_keep C (hK d))

theorem At.hire {K' : World → Prop} (hKat : ∀ w d, K w → K (w.at d)) (hSm : ∀ l, Still l → l.isMemory = true) (hSS : ∀ l, Still l → ¬ Shun l) (hs : a.status = .running) {a' child : Goroutine} {es : Array Event} (hgo : ∀ d, stepG P true a (w.at d) = .spawn a' child (w.at d) es)
    (hes : ∀ e ∈ es, EvR Shun (fun _ => False) w.heap.size 0 e ∧ e.loc ≠ .mark .disable ∧ e.loc ≠ .mark .enable) (hK' : ∀ d, K' (w.at d)) {s : Seat} (hwf : s.Wf) (hch : ∀ c, s.has c → ∃ k, w.heap[c]? = some (.chan 0 #[] false k k false)) (hcB : ∀ c, s.has c → c < w.heap.size) {m : Nat} (hsit : Sits P true K' Still w.heap.size s m a')
    (hn : At P Post K' Shun Still (fun g => g = 0 ∨ g = n) (fun x => if x = 0 then some s else none) n (n + 1) child w) : At P Post K Shun (fun _ => False) (fun g => g = 0) (fun _ => none) 0 n a w := by
  intro d gs T q sl hsz ha C
  obtain ⟨N, gs', d', sl', T', q', e1, e2, e3, e4⟩ := hire2 (sl := sl) (w := w.at d) hKat hSm hSS hs (fun d => hgo d) hes (fun d => hK' d) hwf hch hcB hsit ha C
  subst hsz
  exact Goal.back e1 (hn d' gs' T' q' sl' e2 e3 e4)

theorem cell_chan {w : World} {c : Nat} {a : Addr} (h : c ≠ a.block) (cap : Nat) (buf : Array Value) (cl : Bool) (x y : Nat) (tm : Bool) : (w.setChan c cap buf cl x y tm).cell? a = w.cell? a ∧ (w.setChan c cap buf cl x y tm).frozen? a = w.frozen? a := by
  have e := heap_setChan_ne w cap buf cl x y tm h
  constructor
  · unfold World.cell?; rw [e]
  · unfold World.frozen?; rw [e]
theorem num_chan {w : World} {c : Nat} {k : IntKind} {a : Addr} {m : Int} (x : Num k a w m) (h : c ≠ a.block) {cap : Nat} {buf : Array Value} {cl : Bool} {y z : Nat} {tm : Bool} : Num k a (w.setChan c cap buf cl y z tm) m :=
  ⟨(cell_chan h ..).1.trans x.1, (cell_chan h ..).2.trans x.2⟩

/-- The last hand-over, and the join. -/
theorem At.join {KJ KJ' : World → Prop} {Gp : Grp} {Anchor : Goroutine → Prop} {a₂ : Goroutine} {c ch kk nc : Nat} {s : Seat} {v z z' : Value} {es : Array Event} (hKat : ∀ w d, K w → K (w.at d)) (hKc : ∀ w i s c k, Inb i = some s → s.has c → K w → K (w.setChan c 0 #[] false k k false)) (hSS : ∀ l, Still l → ¬ Shun l)
    (hc0 : 0 < c) (hn0 : 0 < n) (hj : Inb 0 = some s) (hInb : ∀ x, x ≠ 0 → Inb x = none) (hk : s.cases[kk]? = some (rcase ch z)) (hMh : Mem c) (hM0 : Mem 0)
    (hrun : a.status = .running) (hsend : ∀ d, stepG P (c == 0) a (w.at d) = .comm a₂ #[scase ch v z'] true .send (w.at d) es) (hes : ∀ e ∈ es, EvR Shun Still w.heap.size c e ∧ e.loc ≠ .mark .disable ∧ e.loc ≠ .mark .enable)
    (hcK : ∀ w, K w → ∃ k, w.heap[ch]? = some (.chan 0 #[] false k k false))
    (J : JK KJ Shun w.heap.size Gp) (hKJ : ∀ k, w.heap[ch]? = some (.chan 0 #[] false k k false) → KJ (w.setChan ch 0 #[] false (k + 1) (k + 1) false)) (hKB : ∀ w', KJ w' → w'.heap.size = w.heap.size) (hst : Num .u64 Gp.st w 4294967296) (hse : Num .u32 Gp.se w 0)
    (hne : ch ≠ Gp.st.block ∧ ch ≠ Gp.se.block)
    (hM : ∀ g₂, s.home g₂ → ∃ nm, MS P KJ Shun w.heap.size Gp Anchor 0 nm (Go.Conc.served g₂ (commResult s.cases s.shape kk v true))) (hC : CS P KJ Gp 0 nc (Go.Conc.served a₂ undef))
    (hK' : ∀ w', KJ w' → KJ' w') (next : ∀ g w', Anchor g → KJ w' → Num .u64 Gp.st w' 0 → Num .u32 Gp.se w' 0 → At P Post KJ' Shun (fun _ => False) (fun g => g = 0) (fun _ => none) 0 n g w') : At P Post K Shun Still Mem Inb c n a w := by
  refine At.give (z' := z') hKat hKc hSS (j := 0) (by omega) hn0 hj hk hMh hrun hsend hes hcK fun k d gs' g₂ T' q' sl' hc hh hsz h1 h2 C => ?_
  obtain ⟨nm, hMg⟩ := hM g₂ hh
  have hsu : Num .u64 Gp.st ((w.at d).setChan ch 0 #[] false (k + 1) (k + 1) false) 4294967296 := num_chan hst hne.1
  have hsu' : Num .u32 Gp.se ((w.at d).setChan ch 0 #[] false (k + 1) (k + 1) false) 0 := num_chan hse hne.2
  have hKd : KJ ((w.at d).setChan ch 0 #[] false (k + 1) (k + 1) false) := J.at' (w.setChan ch 0 #[] false (k + 1) (k + 1) false) d (hKJ k hc)
  have Cj := both_jn C hInb hKd
  obtain ⟨N, m', t', e1, gs'', w', sl'', q'', a', rfl, e3, e4, e5, e6, e7, e8, e9⟩ := join_run J hc0 _ _ gs' _ sl' T' q' (Go.Conc.served g₂ (commResult s.cases s.shape kk v true)) (Go.Conc.served a₂ undef) false 0 nm 0 nc 4294967296 0 rfl rfl (by simpa using h2) h1 Cj hMg (.inl ⟨by omega, hC, C.past.hears c hMh⟩) (fun z => by cases z) (.A (by omega) (by omega)) hsu hsu' (C.past.hears 0 hM0)
  have hB := hKB w' e6.keep
  have S' := core_keep (e6.hears e7) (hK' _ e6.keep)
  have hA := next a' w' e5 e6.keep e8 e9 w'.drawn gs'' t' q'' sl'' (e3.trans hsz) e4 (by rw [hB]; exact S')
  exact Goal.back e1 hA

/-- What a plain walk lists. -/
theorem dx_dr {Ok : Addr → Bool → Prop} (hSt : ∀ ad, Still (.cell ad) → ¬ Ok ad true) (hSh : ∀ ad wr, Shun (.cell ad) → ¬ Ok ad wr) (hK : ∀ w w' es, DX Ok w w' es → K w → K w') (w w' : World) (es : Array Event) (D : DX Ok w w' es) : DR K Shun Still h w w' es := by
  refine ⟨hK _ _ _ D, fun c cap k hc => by rw [hc]; exact D.obj c _ hc (fun _ _ _ z => by cases z), D.size, fun e he => ?_⟩
  rcases D.ev e he with ⟨ad, e1, _, e3, e4⟩ | rfl
  · obtain ⟨loc, wr, sy⟩ := e
    simp only at e1
    subst e1
    refine ⟨⟨fun x hx => ?_, e4⟩, by simp, by simp⟩
    have hx' : (⟨.cell ad, wr, if sy then .atomic else .plain⟩ : Touch) = x := by
      cases sy <;> simpa [MemAct.ofEvent, MemAct.touch?] using hx
    subst hx'
    refine ⟨fun z => ?_, fun z => absurd e3 (hSh ad wr z)⟩
    cases wr
    · rfl
    · exact absurd e3 (hSt ad z)
  · refine ⟨⟨fun x hx => ?_, ?_⟩, by simp [noRoomEvent], by simp [noRoomEvent]⟩
    · simp [noRoomEvent, MemAct.ofEvent, MemAct.touch?] at hx
    · simp [noRoomEvent, MemAct.ofEvent, MemAct.low]
end
end Go.Proofs.YtobagnjnbmgidaaGreatDoor

/-! Walks that turn nothing, in any world of which something is held: to a seat, to a mark, away. One set of rules for all. -/
namespace Go.Proofs.YtobagnjnbmgidaaGreatDoor
open Go.Conc
open Go.ConcN (sumTo upd sumTo_upd upd_ne upd_same)

structure QF (P : Program) (main : Bool) (K : World → Prop) (Ev : Event → Prop) (Ψ : Goroutine → Prop) : Prop where
  step : ∀ g g', g.status = .running → (∀ w, K w → ∃ es, stepG P main g w = .go g' w es ∧ ∀ e ∈ es, Ev e) → Ψ g' → Ψ g

section
variable {P : Program} {main : Bool} {K : World → Prop} {Ev : Event → Prop} {Ψ : Goroutine → Prop} {b : Frame} {a A : Act} {k : List Item} {cs : List Frame} {ops : Array Oper} {i : Nat} {rest : List Nat} {o : Oper}

theorem QF.ctl (F : QF P main K Ev Ψ) {fr fr' : Frame} {cs cs' : List Frame} (h : ∀ w, stepG P main (G fr cs) w = .go (G fr' cs') w #[]) (hk : Ψ (G fr' cs')) : Ψ (G fr cs) :=
  F.step _ _ rfl (fun w _ => ⟨#[], h w, fun e he => by simp at he⟩) hk

theorem QF.op (F : QF P main K Ev Ψ) (ho : ops[i]? = some o) (hw : Region.wanted o (yielded ops a.tmps) = true) (hk : b.kind ≠ .early) (he : ∀ w, K w → ∀ e ∈ (execOp a.eval o).events P w #[], Ev e)
    (h : ∀ w, K w → uponK o a (fun a' w' => w' = w ∧ a' = A) ((execOp a.eval o).run P w)) (hn : Ψ (G (b.at A (.inRegion ops rest :: k)) cs)) : Ψ (G (b.at a (.inRegion ops (i :: rest) :: k)) cs) := by
  refine F.step _ _ rfl (fun w hK => ⟨listed P b.fn a o w, ?_, fun e hm => he w hK e (mem_listed hm)⟩) hn
  have := goes_oper_k (P := P) (main := main) (k := k) (cs := cs) (rest := rest) (K := fun g' w' es => g' = G (b.at A (.inRegion ops rest :: k)) cs ∧ w' = w ∧ es = listed P b.fn a o w) ho hw hk (fun K' hK' => uponK_mono (fun a' w' x => by obtain ⟨rfl, rfl⟩ := x; exact hK' _ _ ⟨rfl, rfl, rfl⟩) (h w hK))
  revert this
  cases stepG P main (G (b.at a (.inRegion ops (i :: rest) :: k)) cs) w <;> intro this
  case go g' w' es => rw [goes_go] at this; obtain ⟨rfl, rfl, rfl⟩ := this; rfl
  all_goals exact this.elim

theorem QF.opq (F : QF P main K Ev Ψ) (ho : ops[i]? = some o) (hw : Region.wanted o (yielded ops a.tmps) = true) (hk : b.kind ≠ .early) (he : ∀ w, K w → (execOp a.eval o).events P w #[] = #[])
    (h : ∀ w, K w → uponK o a (fun a' w' => w' = w ∧ a' = A) ((execOp a.eval o).run P w)) (hn : Ψ (G (b.at A (.inRegion ops rest :: k)) cs)) : Ψ (G (b.at a (.inRegion ops (i :: rest) :: k)) cs) :=
  F.op ho hw hk (fun w hK e hm => by rw [he w hK] at hm; simp at hm) h hn

theorem QF.unwanted (F : QF P main K Ev Ψ) (ho : ops[i]? = some o) (hw : Region.wanted o (yielded ops a.tmps) = false) (h : Ψ (G (b.at (a.put o.dst undef) (.inRegion ops rest :: k)) cs)) : Ψ (G (b.at a (.inRegion ops (i :: rest) :: k)) cs) :=
  F.ctl (fun _ => stepG_unwanted ho hw) h

theorem QF.oq (F : QF P main K Ev Ψ) (ho : ops[i]? = some o) (hw : Region.wanted o (yielded ops a.tmps) = true) (hk : late b = true) (he : ∀ w, K w → (execOp a.eval o).events P w #[] = #[])
    (h : ∀ w, K w → uponK o a (fun a' w' => w' = w ∧ a' = A) ((execOp a.eval o).run P w)) (hn : Ψ (G (b.at A (.inRegion ops rest :: k)) cs)) : Ψ (G (b.at a (.inRegion ops (i :: rest) :: k)) cs) := F.opq ho hw (not_early hk) he h hn
theorem QF.re (F : QF P main K Ev Ψ) {ops : Array Oper} (h : Ψ (G (b.at a (k)) cs)) : Ψ (G (b.at a (.inRegion ops [] :: k)) cs) := F.ctl (fun _ => stepG_region_end) h
theorem QF.sq (F : QF P main K Ev Ψ) {x y : Code} (h : Ψ (G (b.at a (.code x :: .code y :: k)) cs)) : Ψ (G (b.at a (.code (.seq x y) :: k)) cs) := F.ctl (fun _ => stepG_seq) h
theorem QF.rr (F : QF P main K Ev Ψ) {id : Nat} {l : List Oper} (h : Ψ (G (b.at a (.inRegion l.toArray (rg l 0) :: k)) cs)) : Ψ (G (b.at a (.code (.region id l.toArray false) :: k)) cs) := F.ctl (fun _ => stepG_region) (by rw [rg_range]; exact h)
theorem QF.sr (F : QF P main K Ev Ψ) {id : Nat} {l : List Oper} {y : Code} (h : Ψ (G (b.at a (.inRegion l.toArray (rg l 0) :: .code y :: k)) cs)) : Ψ (G (b.at a (.code (.seq (.region id l.toArray false) y) :: k)) cs) := F.sq (F.rr h)
theorem QF.es (F : QF P main K Ev Ψ) {ops : Array Oper} {x y : Code} (h : Ψ (G (b.at a (.code x :: .code y :: k)) cs)) : Ψ (G (b.at a (.inRegion ops [] :: .code (.seq x y) :: k)) cs) := F.re (F.sq h)
theorem QF.er (F : QF P main K Ev Ψ) {ops : Array Oper} {id : Nat} {l : List Oper} (h : Ψ (G (b.at a (.inRegion l.toArray (rg l 0) :: k)) cs)) : Ψ (G (b.at a (.inRegion ops [] :: .code (.region id l.toArray false) :: k)) cs) := F.re (F.rr h)
theorem QF.esr (F : QF P main K Ev Ψ) {ops : Array Oper} {id : Nat} {l : List Oper} {y : Code} (h : Ψ (G (b.at a (.inRegion l.toArray (rg l 0) :: .code y :: k)) cs)) : Ψ (G (b.at a (.inRegion ops [] :: .code (.seq (.region id l.toArray false) y) :: k)) cs) := F.re (F.sr h)
theorem QF.cf (F : QF P main K Ev Ψ) {c : Operand} {x y : Code} (e : a.eval c = .bool false) (h : Ψ (G (b.at a (.code y :: k)) cs)) : Ψ (G (b.at a (.code (.cond c x y) :: k)) cs) := F.ctl (fun _ => stepG_cond (t := false) e) h
theorem QF.ct (F : QF P main K Ev Ψ) {c : Operand} {x y : Code} (e : a.eval c = .bool true) (h : Ψ (G (b.at a (.code x :: k)) cs)) : Ψ (G (b.at a (.code (.cond c x y) :: k)) cs) := F.ctl (fun _ => stepG_cond (t := true) e) h
theorem QF.sk (F : QF P main K Ev Ψ) (h : Ψ (G (b.at a (k)) cs)) : Ψ (G (b.at a (.code .skip :: k)) cs) := F.ctl (fun _ => stepG_skip) h
theorem QF.bl (F : QF P main K Ev Ψ) {id : Nat} {c : Code} (h : Ψ (G (b.at a (.code c :: .inBlock id :: k)) cs)) : Ψ (G (b.at a (.code (.block id c) :: k)) cs) := F.ctl (fun _ => stepG_block) h
theorem QF.ib (F : QF P main K Ev Ψ) {id : Nat} (h : Ψ (G (b.at a (k)) cs)) : Ψ (G (b.at a (.inBlock id :: k)) cs) := F.ctl (fun _ => stepG_inBlock) h

theorem QF.enter (F : QF P main K Ev Ψ) {f : FuncId} {args : Array Value} (ho : ops[i]? = some o) (hw : Region.wanted o (yielded ops a.tmps) = true) (hk : b.kind ≠ .early)
    (hr : ∀ w, (execOp a.eval o).run P w = .ok (.enter f args) w) (he : ∀ w, (execOp a.eval o).events P w #[] = #[])
    (h : Ψ (G (Frame.enter P f args .normal) (b.at a (.inRegion ops (i :: rest) :: k) :: cs))) : Ψ (G (b.at a (.inRegion ops (i :: rest) :: k)) cs) :=
  F.ctl (fun w => by rw [stepG_enter ho hw hk (hr w), listed_nil (he w)]) h

theorem QF.leave (F : QF P main K Ev Ψ) {fn : Func} {todo : List Item} {c : Frame} {v : Value} (hn : b.kind = .normal) (hd : a.defers = []) (hf : P.funcs[b.fn]? = some fn) (hr : ResultsC P fn a.tmps v)
    (h : Ψ (G (c.finish v) cs)) : Ψ (G { b.at a todo with mode := .returning } (c :: cs)) :=
  F.ctl (fun w => by rw [stepG_leave hn hd hf (hr _).1 (hr _).2]) h
end

section
variable {P : Program} {K : World → Prop} {Shun Still : Loc → Prop} {B : Nat} {Gp : Grp} {Anchor : Goroutine → Prop}

theorem qf_ms (t : Nat) : QF P true K (fun e => EvR Shun (fun _ => False) B 0 e ∧ e.loc ≠ .mark .disable ∧ e.loc ≠ .mark .enable) (fun g => ∃ n, MS P K Shun B Gp Anchor t n g) :=
  ⟨fun g g' hs h ⟨n, hn⟩ => ⟨n + 1, .quiet hs h hn⟩⟩
theorem qf_cs (t : Nat) : QF P false K (fun _ => False) (fun g => ∃ n, CS P K Gp t n g) :=
  ⟨fun g g' hs h ⟨n, hn⟩ => ⟨n + 1, .quiet hs (fun w hw => by obtain ⟨es, e1, e2⟩ := h w hw; rw [e1, Array.eq_empty_iff_forall_not_mem.2 fun e he => e2 e he]) hn⟩⟩
theorem qf_quits (d : Nat) : QF P false (fun _ => True) (fun _ => False) (fun g => ∃ n, QuitsD P n d g) :=
  ⟨fun g g' hs h ⟨n, hn⟩ => ⟨n + 1, .inr ⟨hs, g', #[], fun e he => by simp at he, fun w => by obtain ⟨es, e1, e2⟩ := h w trivial; rw [e1, Array.eq_empty_iff_forall_not_mem.2 fun e he => e2 e he], hn⟩⟩⟩
theorem qf_seat (main : Bool) (s : Seat) (w : World) : QF P main K (EvC Still B) (fun g => ∃ n, Goes P main (RK K) (DS Still B) (fun g _ => ∃ g₂, AtIn P main K Still B s g g₂) n g w) :=
  ⟨fun g g' hs h ⟨n, hn⟩ => ⟨n + 1, .inr ⟨hs, fun w₁ hw => by obtain ⟨es, e1, e2⟩ := h w₁ hw; rw [e1]; exact ⟨⟨rfl, e2⟩, Goes.rely (fun _ _ _ _ x => x) hn hw⟩⟩⟩⟩
end
end Go.Proofs.YtobagnjnbmgidaaGreatDoor

/-! What is held of the world while one goes on and the other sits: cells, and channels that are open and empty. -/
namespace Go.Proofs.YtobagnjnbmgidaaGreatDoor
open Go.Conc
open Go.ConcN (sumTo upd sumTo_upd upd_ne upd_same)

def KL (l : List (Addr × Value)) (cc : List Nat) (w : World) : Prop := (∀ p ∈ l, w.cell? p.1 = some p.2) ∧ ∀ c ∈ cc, ∃ k, w.heap[c]? = some (.chan 0 #[] false k k false)
def StL (l : List (Addr × Value)) (x : Loc) : Prop := ∃ p ∈ l, x = .cell p.1

section
variable {l : List (Addr × Value)} {cc : List Nat} {w w' : World} {es : Array Event}
theorem kl_at (l : List (Addr × Value)) (cc : List Nat) : ∀ w d, KL l cc w → KL l cc (w.at d) := fun _ _ h => h
theorem kl_dx {Ok : Addr → Bool → Prop} (hn : ∀ p ∈ l, ¬ Ok p.1 true) : ∀ w w' es, DX Ok w w' es → KL l cc w → KL l cc w' := fun w w' es D h =>
  ⟨fun p hp => by rw [(D.cell p.1 (hn p hp) (lt_of_cell (h.1 p hp))).1]; exact h.1 p hp, fun c hc => by obtain ⟨k, hk⟩ := h.2 c hc; exact ⟨k, D.obj c _ hk (fun _ _ _ z => by cases z)⟩⟩
theorem kl_alloc (o : Obj) : ∀ w, KL l cc w → KL l cc (w.alloc o) := fun w h =>
  ⟨fun p hp => by rw [World.cell?_alloc_lt _ _ _ (lt_of_cell (h.1 p hp))]; exact h.1 p hp, fun c hc => by obtain ⟨k, hk⟩ := h.2 c hc; exact ⟨k, by rw [Go.RowKit.Below.heap_alloc _ _ _ (Array.getElem?_eq_some_iff.1 hk).1]; exact hk⟩⟩
theorem kl_chan {c k : Nat} (hne : ∀ p ∈ l, c ≠ p.1.block) (hc : c ∈ cc) (h : KL l cc w) : KL l cc (w.setChan c 0 #[] false k k false) := by
  refine ⟨fun p hp => by rw [(cell_chan (hne p hp) ..).1]; exact h.1 p hp, fun c' hc' => ?_⟩
  by_cases e : c = c'
  · subst e
    obtain ⟨k', hk'⟩ := h.2 c hc
    exact ⟨k, heap_setChan_self w hk' _ _ _ _ _ _⟩
  · obtain ⟨k', hk'⟩ := h.2 c' hc'
    exact ⟨k', by rw [heap_setChan_ne w _ _ _ _ _ _ e]; exact hk'⟩
theorem kl_sub {l' : List (Addr × Value)} {cc' : List Nat} (h1 : ∀ p ∈ l', p ∈ l) (h2 : ∀ c ∈ cc', c ∈ cc) (h : KL l cc w) : KL l' cc' w := ⟨fun p hp => h.1 p (h1 p hp), fun c hc => h.2 c (h2 c hc)⟩
theorem kl_cons {a : Addr} {v : Value} (h1 : w.cell? a = some v) (h : KL l cc w) : KL ((a, v) :: l) cc w := ⟨fun p hp => by rcases List.mem_cons.1 hp with rfl | hp; exact h1; exact h.1 p hp, h.2⟩
theorem stl_mem {x : Loc} (h : StL l x) : x.isMemory = true := by obtain ⟨p, _, rfl⟩ := h; rfl
end

section
variable {P : Program} {D : World → World → Array Event → Prop} {Ψ : Goroutine → World → Prop} {main : Bool} {K : World → Prop} {Ev : Event → Prop} {Φ : Goroutine → Prop}
/-- Moves of control alone. -/
abbrev CF (P : Program) (main : Bool) (Φ : Goroutine → Prop) : Prop := QF P main (fun _ => True) (fun _ => False) Φ
theorem cf_fut (F : Fut P main D Ψ) (w : World) : CF P main (fun g => Ψ g w) :=
  ⟨fun g g' hs h hn => F.step g w hs fun d => by
    obtain ⟨es, e1, e2⟩ := h (w.at d) trivial
    rw [e1, Array.eq_empty_iff_forall_not_mem.2 fun e he => e2 e he]
    exact ⟨F.idle _ _, F.at' _ _ _ hn⟩⟩
theorem cf_qf (F : QF P main K Ev Φ) : CF P main Φ := ⟨fun g g' hs h hn => F.step g g' hs (fun w _ => by obtain ⟨es, e1, e2⟩ := h w trivial; exact ⟨es, e1, fun e he => (e2 e he).elim⟩) hn⟩
end
end Go.Proofs.YtobagnjnbmgidaaGreatDoor
