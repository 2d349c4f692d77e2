/- Goroutine 0 beside leavers, deaf or not; what old memory holds; the sets of places. -/
import Derived.Test.YtobagnjnbmgidaaGreatDoorG1
import Derived.Test.YtobagnjnbmgidaaGreatDoorX8
set_option linter.unusedVariables false
set_option linter.unusedSimpArgs false
namespace Go.Proofs.YtobagnjnbmgidaaGreatDoor
open Go.Conc Go.RowKit
open Go.ConcN (sumTo upd sumTo_upd upd_ne upd_same)

section
variable {P : Program} {Post : Value → World → Prop} {K : World → Prop} {Shun Still : Loc → Prop} {B : Nat} {Mem : Nat → Prop} {Inb : Nat → Option Seat} {h n dl : Nat} {T : Trace} {gs : Array Goroutine} {w : World} {q : Nat → Nat} {a g : Goroutine}

/-- What is held of the world may be used. -/
theorem At.assume (hKat : ∀ w d, K w → K (w.at d)) (H : K w → At P Post K Shun Still Mem Inb h n g w) : At P Post K Shun Still Mem Inb h n g w :=
  fun d gs T q sl hn hg C => H (show K w from hKat (w.at d) w.drawn C.keep) d gs T q sl hn hg C

/-- Goroutine 0 beside leavers; dl: its deafness. -/
def AtD (P : Program) (Post : Value → World → Prop) (K : World → Prop) (Shun : Loc → Prop) (n dl : Nat) (g : Goroutine) (w : World) : Prop :=
  ∀ (d : Nat) (gs : Array Goroutine) (T : Trace) (q : Nat → Nat) (sl : Option (Nat × Nat)), gs.size = n → gs[0]? = some g → Solo P K Shun w.heap.size (fun _ => False) T gs (w.at d) q → Deaf T 0 = dl → Goal P Post (crowd gs (w.at d) sl) T

/-- Goroutine 0 beside leavers, hearing. -/
abbrev At0 (P : Program) (Post : Value → World → Prop) (K : World → Prop) (Shun : Loc → Prop) (n : Nat) : Goroutine → World → Prop := At P Post K Shun (fun _ => False) (fun g => g = 0) (fun _ => none) 0 n

theorem At0.of_d (H : AtD P Post K Shun n 0 g w) : At0 P Post K Shun n g w := fun d gs T q sl hn hg C => H d gs T q sl hn hg (Solo.deaf C) (C.past.hears 0 rfl)
theorem AtD.of_0 (H : At0 P Post K Shun n g w) : AtD P Post K Shun n 0 g w := fun d gs T q sl hn hg C hd => H d gs T q sl hn hg (Solo.hears C hd)

theorem atd_fut {D : World → World → Array Event → Prop} (hKat : ∀ w d, K w → K (w.at d)) (hD : ∀ w w' es, D w w' es → DR K Shun (fun _ => False) 0 w w' es) (hi : ∀ w d, D w (w.at d) #[]) : Fut P true D (AtD P Post K Shun n dl) := by
  have hat : ∀ g w d, AtD P Post K Shun n dl g w → AtD P Post K Shun n dl g (w.at d) := fun g w d x d' => x d'
  refine ⟨hat, hi, fun g w hs hst => ?_⟩
  intro d gs T q sl hn hg C hd
  have W : Walk P true D (AtD P Post K Shun n dl) g w := (walk_fut hi _).step g w hs fun d => goes_mono (fun g' w' es x => ⟨x.1, .stop fun d' => hat _ _ _ x.2⟩) (hst d)
  obtain ⟨N, gs', a', w', sl', T', q', h1, h2, h3, h4, h5, h6⟩ := hold (h := 0) (Mem := fun _ => False) (Inb := fun _ => none) hKat hD (.inr fun _ => rfl) ((walk_fut hi _).at' _ _ d W) gs T q sl hg C
  exact Goal.back h1 (h4 w'.drawn gs' T' q' sl' (h2.trans hn) h3 h5 (h6.trans hd))

/-- A step that lists marks or atomic touches. -/
theorem AtD.mark {a' : Goroutine} {w' : World} {es : Array Event} (hKat : ∀ w d, K w → K (w.at d)) (hs : a.status = .running) (hst : ∀ d, stepG P true a (w.at d) = .go a' (w'.at d) es) (hK : K w → K w') (hsz : w'.heap.size = w.heap.size) (hes : ∀ e ∈ es, EvR Shun (fun _ => False) w.heap.size 0 e)
    (hn : AtD P Post K Shun n (deafBehind dl es) a' w') : AtD P Post K Shun n dl a w := by
  intro d gs T q sl hn' hg C hd
  obtain ⟨N, gs', d', sl', T', q', h1, h2, h3, h4, h5⟩ := solo_one (sl := sl) (w := w.at d) (w' := w') hKat hs (fun d => hst d) (hK (show K w from hKat (w.at d) w.drawn C.keep)) hes hg C
  rw [hd] at h5
  exact Goal.back h1 (hn d' gs' T' q' sl' (h2.trans hn') h3 (by rw [hsz]; exact h4) h5)

/-- The step that ends the run. -/
theorem At.endsK {v : Value} {es : Array Event} (hs : a.status = .running) (hend : ∀ d, stepG P true a (w.at d) = .ended (.done v) (w.at d) es) (hes : ∀ e ∈ es, EvL Shun w.heap.size e) (hp : ∀ d, K (w.at d) → Post v (w.at d)) (hKat : ∀ w d, K w → K (w.at d)) : At0 P Post K Shun n a w :=
  At.assume hKat fun hK => At.ends hs rfl hend hes fun d => hp d (hKat _ _ hK)
end

/-! ### Places -/
/-- The cells of the groups that lie in these agendas. -/
def ShL (l : List Nat) (x : Loc) : Prop := ∃ A ∈ l, x = .cell ⟨A, 5, none⟩ ∨ x = .cell ⟨A, 6, none⟩
theorem shl_cons {l : List Nat} {A : Nat} {x : Loc} (h : ShL l x) : ShL (A :: l) x := by obtain ⟨B, hB, e⟩ := h; exact ⟨B, List.mem_cons_of_mem _ hB, e⟩
theorem shl_new {l : List Nat} {A : Nat} {x : Loc} (h : ShL (A :: l) x) : ShL l x ∨ New A x := by
  obtain ⟨B, hB, e⟩ := h
  rcases List.mem_cons.1 hB with rfl | hB
  · exact .inr (e.elim (fun e => ⟨_, e, Nat.le_refl _⟩) fun e => ⟨_, e, Nat.le_refl _⟩)
  · exact .inl ⟨B, hB, e⟩
def OkS (N0 : Nat) (l : List Nat) (st : List (Addr × Value)) (a : Addr) (wr : Bool) : Prop := ¬ ShL l (.cell a) ∧ (wr = true → N0 ≤ a.block ∧ ¬ StL st (.cell a))
def Old (wI w : World) : Prop := w.os = wI.os ∧ w.tape = wI.tape ∧ w.output = wI.output ∧ wI.heap.size ≤ w.heap.size ∧ ∀ k, k < wI.heap.size → w.heap[k]? = wI.heap[k]?
theorem Old.below {wI w : World} (h : Old wI w) : Below wI.heap.size wI w := ⟨h.1, h.2.1, h.2.2.1, h.2.2.2.1, h.2.2.2.2⟩
theorem Old.of {wI w : World} (h : Below wI.heap.size wI w) : Old wI w := ⟨h.os, h.tape, h.output, h.size, h.block⟩
theorem Old.cell {wI w : World} (h : Old wI w) (a : Addr) (v : Value) (hv : wI.cell? a = some v) : w.cell? a = some v := (h.below.cell (lt_of_cell hv)).trans hv
def KO (wI : World) (st : List (Addr × Value)) (cc : List Nat) (w : World) : Prop := Old wI w ∧ KL st cc w

section
variable {P : Program} {Post : Value → World → Prop} {wI w w' : World} {st : List (Addr × Value)} {cc : List Nat} {l : List Nat} {es : Array Event} {Ok Ok' : Addr → Bool → Prop}
theorem DX.mono (h : ∀ a wr, Ok a wr → Ok' a wr) (D : DX Ok w w' es) : DX Ok' w w' es :=
  ⟨fun e he => (D.ev e he).imp (fun ⟨a, e1, e2, e3, e4⟩ => ⟨a, e1, e2, h _ _ e3, e4⟩) id, D.size, D.obj, fun a ha hl => D.cell a (fun z => ha (h _ _ z)) hl, fun k hk hn => D.blk k hk (fun a ha z => hn a ha (h _ _ z)), D.rest⟩
theorem old_at : ∀ w d, Old wI w → Old wI (w.at d) := fun _ _ h => h
theorem ko_at : ∀ w d, KO wI st cc w → KO wI st cc (w.at d) := fun _ _ h => h
theorem old_dx {Ok : Addr → Bool → Prop} (hn : ∀ a, Ok a true → wI.heap.size ≤ a.block) : ∀ w w' es, DX Ok w w' es → Old wI w → Old wI w' := fun w w' es D h =>
  ⟨D.rest.1.trans h.1, D.rest.2.1.trans h.2.1, D.rest.2.2.trans h.2.2.1, Nat.le_trans h.2.2.2.1 D.size, fun k hk => (D.blk k (Nat.lt_of_lt_of_le hk h.2.2.2.1) (fun a ha z => by have := hn a z; omega)).trans (h.2.2.2.2 k hk)⟩
theorem ko_dx {Ok : Addr → Bool → Prop} (hn : ∀ a, Ok a true → wI.heap.size ≤ a.block) (hs : ∀ p ∈ st, ¬ Ok p.1 true) : ∀ w w' es, DX Ok w w' es → KO wI st cc w → KO wI st cc w' := fun w w' es D h => ⟨old_dx hn w w' es D h.1, kl_dx hs w w' es D h.2⟩
theorem old_alloc (o : Obj) : ∀ w, Old wI w → Old wI (w.alloc o) := fun w h => Old.of (Below.alloc h.below h.2.2.2.1 o)
theorem old_set {a : Addr} {v : Value} (ha : wI.heap.size ≤ a.block) (h : Old wI w) : Old wI (w.setCell a v) := Old.of (Below.setCell h.below ha v)
theorem old_chan {c cap : Nat} {buf : Array Value} {cl : Bool} {x y : Nat} {tm : Bool} (hc : wI.heap.size ≤ c) (h : Old wI w) : Old wI (w.setChan c cap buf cl x y tm) :=
  ⟨h.1, h.2.1, h.2.2.1, by simp only [World.setChan, Array.size_setIfInBounds]; exact h.2.2.2.1, fun k hk => by
    rw [← h.2.2.2.2 k hk]
    simp only [World.setChan]
    exact Array.getElem?_setIfInBounds_ne (by omega)⟩

/-- Goroutine 0's own future, beside leavers. -/
theorem fut0 (n : Nat) : Fut P true (DX (OkS wI.heap.size l [])) (At0 P Post (Old wI) (ShL l) n) :=
  at_fut (h := 0) old_at (dx_dr (fun ad z => z.elim) (fun ad wr z o => o.1 z) (old_dx fun a o => (o.2 rfl).1)) DX.idle rfl
theorem futD (n dl : Nat) : Fut P true (DX (OkS wI.heap.size l [])) (AtD P Post (Old wI) (ShL l) n dl) :=
  atd_fut old_at (dx_dr (fun ad z => z.elim) (fun ad wr z o => o.1 z) (old_dx fun a o => (o.2 rfl).1)) DX.idle
end
end Go.Proofs.YtobagnjnbmgidaaGreatDoor
