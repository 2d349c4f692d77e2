/- Goroutine 0 beside leavers, deaf or not; what old memory holds; the sets of places. -/
import Derived.Test.YtobagnjnbmgidaaGreatDoorG1
import Derived.Test.YtobagnjnbmgidaaGreatDoorX8
import Derived.Test.YtobagnjnbmgidaaGreatDoorZ1
set_option linter.unusedSimpArgs false
set_option linter.unusedVariables false
namespace Go.Proofs.YtobagnjnbmgidaaGreatDoor
section
open Go.Conc Go.RowKit
open Go.ConcN (sumTo upd sumTo_upd upd_ne upd_same)

section
variable {P : Program} {Post : Value → World → Prop} {K : World → Prop} {Shun Still : Loc → Prop} {B : Nat} {Mem : Nat → Prop} {Inb : Nat → Option Seat} {h n dl : Nat} {T : Trace} {gs : Array Goroutine} {w : World} {q : Nat → Nat} {a g : Goroutine}

theorem At.assume (hKat : ∀ w d, K w → K (w.at d)) (H : K w → At P Post K Shun Still Mem Inb h n g w) : At P Post K Shun Still Mem Inb h n g w :=
  fun d gs T q sl hn hg C => H (show K w from hKat (w.at d) w.drawn C.keep) d gs T q sl hn hg C

abbrev At0 (P : Program) (Post : Value → World → Prop) (K : World → Prop) (Shun : Loc → Prop) (n : Nat) : Goroutine → World → Prop := At P Post K Shun (fun _ => False) (fun g => g = 0) (fun _ => none) 0 n

theorem At.endsK {v : Value} {es : Array Event} (hs : a.status = .running) (hend : ∀ d, stepG P true a (w.at d) = .ended (.done v) (w.at d) es) (hes : ∀ e ∈ es, EvL Shun w.heap.size e) (hp : ∀ d, K (w.at d) → Post v (w.at d)) (hKat : ∀ w d, K w → K (w.at d)) : At0 P Post K Shun n a w :=
  At.assume hKat fun hK => At.ends hs rfl hend hes fun d => hp d (hKat _ _ hK)
end

/-! ### Places -/
def ShL (l : List Nat) (x : Loc) : Prop := ∃ A ∈ l, x = .cell ⟨A, 5, none⟩ ∨ x = .cell ⟨A, 6, none⟩
theorem shl_cons {l : List Nat} {A : Nat} {x : Loc} (h : ShL l x) : ShL (A :: l) x := by obtain ⟨B, hB, e⟩ := h; exact ⟨B, List.mem_cons_of_mem _ hB, e⟩
theorem shl_new {l : List Nat} {A : Nat} {x : Loc} (h : ShL (A :: l) x) : ShL l x ∨ New A x := by
  obtain ⟨B, hB, e⟩ := h; rcases List.mem_cons.1 hB with rfl | hB
  · exact .inr (e.elim (fun e => ⟨_, e, Nat.le_refl _⟩) fun e => ⟨_, e, Nat.le_refl _⟩)
  · exact .inl ⟨B, hB, e⟩
def OkS (N0 : Nat) (l : List Nat) (st : List (Addr × Value)) (a : Addr) (wr : Bool) : Prop := ¬ ShL l (.cell a) ∧ (wr = true → N0 ≤ a.block ∧ ¬ StL st (.cell a))
def Old (wI w : World) : Prop := w.os = wI.os ∧ w.tape = wI.tape ∧ w.output = wI.output ∧ wI.heap.size ≤ w.heap.size ∧ ∀ k, k < wI.heap.size → w.heap[k]? = wI.heap[k]?
theorem Old.below {wI w : World} (h : Old wI w) : Below wI.heap.size wI w := ⟨h.1, h.2.1, h.2.2.1, h.2.2.2.1, h.2.2.2.2⟩
theorem Old.of {wI w : World} (h : Below wI.heap.size wI w) : Old wI w := ⟨h.os, h.tape, h.output, h.size, h.block⟩
theorem Old.cell {wI w : World} (h : Old wI w) (a : Addr) (v : Value) (hv : wI.cell? a = some v) : w.cell? a = some v := (h.below.cell (lt_of_cell hv)).trans hv
section
variable {P : Program} {Post : Value → World → Prop} {wI w w' : World} {st : List (Addr × Value)} {cc : List Nat} {l : List Nat} {es : Array Event} {Ok Ok' : Addr → Bool → Prop}
theorem old_at : ∀ w d, Old wI w → Old wI (w.at d) := fun _ _ h => h
theorem old_dx {Ok : Addr → Bool → Prop} (hn : ∀ a, Ok a true → wI.heap.size ≤ a.block) : ∀ w w' es, DX Ok w w' es → Old wI w → Old wI w' := fun w w' es D h =>
  ⟨D.rest.1.trans h.1, D.rest.2.1.trans h.2.1, D.rest.2.2.trans h.2.2.1, Nat.le_trans h.2.2.2.1 D.size, fun k hk => (D.blk k (Nat.lt_of_lt_of_le hk h.2.2.2.1) (fun a ha z => by have := hn a z; omega)).trans (h.2.2.2.2 k hk)⟩
theorem old_set {a : Addr} {v : Value} (ha : wI.heap.size ≤ a.block) (h : Old wI w) : Old wI (w.setCell a v) := Old.of (Below.setCell h.below ha v)
theorem old_chan {c cap : Nat} {buf : Array Value} {cl : Bool} {x y : Nat} {tm : Bool} (hc : wI.heap.size ≤ c) (h : Old wI w) : Old wI (w.setChan c cap buf cl x y tm) :=
  ⟨h.1, h.2.1, h.2.2.1, by simp only [World.setChan, Array.size_setIfInBounds]; exact h.2.2.2.1, fun k hk => by
    rw [← h.2.2.2.2 k hk]; simp only [World.setChan]; exact Array.getElem?_setIfInBounds_ne (by omega)⟩

theorem fut0 (n : Nat) : Fut P true (DX (OkS wI.heap.size l [])) (At0 P Post (Old wI) (ShL l) n) :=
  at_fut (h := 0) old_at (dx_dr (fun ad z => z.elim) (fun ad wr z o => o.1 z) (old_dx fun a o => (o.2 rfl).1)) DX.idle dx_less rfl
end
end
section
open Go.Conc
open Go.ConcN (sumTo upd sumTo_upd upd_ne upd_same)

structure P3 (Shun : Loc → Prop) (St : Nat → Loc → Prop) (Sit : Nat → Prop) (B h : Nat) (t : Trace) : Prop where
  clean : ∀ said, ¬ Race said t
  known : ∀ i a, touchAt t i = some a → a.loc.isMemory = true → Acc Shun h t i ∨ (a.write = false ∧ ∃ g, t.g? i = some g ∧ Sit g ∧ St g a.loc)
  wrote : ∀ i a, touchAt t i = some a → a.write = true → ∀ g, Sit g → St g a.loc → Knows t g i
  hears : ∀ g, Sit g → Deaf t g = 0
  seen : ∀ op ∈ t, op.act.low B
def AnyS (St : Nat → Loc → Prop) (Sit : Nat → Prop) (l : Loc) : Prop := ∃ g, Sit g ∧ St g l

section
variable {Shun : Loc → Prop} {St St' : Nat → Loc → Prop} {Sit Sit' : Nat → Prop} {B B' h j c g : Nat} {t u : Trace}

theorem P3.mono (H : P3 Shun St Sit B h t) (hB : B ≤ B') : P3 Shun St Sit B' h t := ⟨H.clean, H.known, H.wrote, H.hears, fun op hop => MemAct.low_mono hB (H.seen op hop)⟩

theorem touch_eq {i : Nat} {a a' : Touch} (h1 : touchAt t i = some a) (h2 : touchAt t i = some a') : a' = a := by rw [h1] at h2; exact (Option.some.inj h2).symm

theorem ops_g {fn : FuncId} {pos : String} {es : Array Event} : ∀ op ∈ MemOp.ofEvents g fn pos es, op.g = g := fun op hop => by obtain ⟨e, _, rfl⟩ := Go.Conc.mem_ofEvents hop; rfl

theorem p3_own (H : P3 Shun St Sit B h t) {fn : FuncId} {pos : String} {es : Array Event} (hes : ∀ e ∈ es, EvR Shun (AnyS St Sit) B h e) (hh : ¬ Sit h) : P3 Shun St Sit B h (t ++ MemOp.ofEvents h fn pos es) := by
  have hu : ∀ op ∈ MemOp.ofEvents h fn pos es, op.g = h := ops_g
  have hev : ∀ op ∈ MemOp.ofEvents h fn pos es, ∀ b, op.act.touch? = some b → (AnyS St Sit b.loc → b.write = false) ∧ (Shun b.loc → b.kind ≠ .plain ∧ (b.kind = .said → h = 0)) := fun op hop b hb => by
    obtain ⟨e, he, rfl⟩ := Go.Conc.mem_ofEvents hop; exact (hes e he).1 b hb
  refine ⟨fun said => noRace_append (H.clean said) hu fun i a ha op hop b hb hc => ?_, fun i a ha hm => ?_, fun i a ha hw g hg hS => ?_, fun g hg => ?_, fun op hop => ?_⟩
  · obtain ⟨e1, e2, e3, e4⟩ := hc
    rcases H.known i a ha e2 with ⟨_, hk, _⟩ | ⟨hw, g, _, hg, hS⟩
    · rcases hk with hk | ⟨a', ha', hat, hsh, _⟩
      · exact hk
      · obtain rfl := touch_eq ha ha'
        have hb' := (hev op hop b hb).2 (e1 ▸ hsh); rcases e4 with x | x | ⟨_, x, _⟩
        · rw [hat] at x; cases x
        · exact absurd x hb'.1
        · rw [hat] at x; cases x
    · rcases e3 with x | x
      · rw [hw] at x; cases x
      · have := (hev op hop b hb).1 ⟨g, hg, e1 ▸ hS⟩
        rw [this] at x; cases x
  · obtain ⟨x, hx, hxa⟩ := touch_of ha
    rcases getElem?_append_cases hx with ⟨hi, hx'⟩ | ⟨_, hxu⟩
    · rcases H.known i a (by rw [touchAt_of hx']; exact hxa) hm with hk | ⟨p, g, hg, hl⟩
      · exact .inl (hk.app _)
      · exact .inr ⟨p, g, by rw [g?_old hi]; exact hg, hl⟩
    · have hk := knows_own hx
      rw [hu x hxu] at hk; refine .inl ⟨lt_size_of_getElem? hx, .inl hk, fun a' ha' hs => ?_⟩; obtain rfl := touch_eq ha ha'; obtain ⟨h1, h2⟩ := (hev x hxu a' hxa).2 hs; exact ⟨h1, fun h3 => by rw [g?_of hx, hu x hxu, h2 h3]⟩
  · obtain ⟨x, hx, hxa⟩ := touch_of ha
    rcases getElem?_append_cases hx with ⟨_, hx'⟩ | ⟨_, hxu⟩
    · exact (H.wrote i a (by rw [touchAt_of hx']; exact hxa) hw g hg hS).app _
    · rw [(hev x hxu a hxa).1 ⟨g, hg, hS⟩] at hw; cases hw
  · rw [Deaf_other t (fun z => hh (by rw [z]; exact hg)) _ hu]; exact H.hears g hg
  · rcases Array.mem_append.1 hop with hop | hop
    · exact H.seen op hop
    · obtain ⟨e, he, rfl⟩ := Go.Conc.mem_ofEvents hop; exact (hes e he).2

theorem p3_read (H : P3 Shun St Sit B h t) (hu : ∀ op ∈ u, op.g = g) (hr : ∀ op ∈ u, ∀ b, op.act.touch? = some b → b.write = false ∧ Sit g ∧ St g b.loc) (hd : Sit g → Deaf (t ++ u) g = Deaf t g) (hl : ∀ op ∈ u, op.act.low B) : P3 Shun St Sit B h (t ++ u) := by
  refine ⟨fun said => noRace_append (H.clean said) hu fun i a ha op hop b hb hc => ?_, fun i a ha hm => ?_, fun i a ha hw g' hg' hS => ?_, fun g' hg' => ?_, seen_app H.seen hl⟩
  · obtain ⟨hb0, hg, hbS⟩ := hr op hop b hb
    rcases hc.2.2.1 with x | x
    · exact H.wrote i a ha x g hg (hc.1 ▸ hbS)
    · rw [hb0] at x; cases x
  · obtain ⟨x, hx, hxa⟩ := touch_of ha
    rcases getElem?_append_cases hx with ⟨hi, hx'⟩ | ⟨_, hxu⟩
    · rcases H.known i a (by rw [touchAt_of hx']; exact hxa) hm with hk | ⟨p, g', hg', hl'⟩
      · exact .inl (hk.app _)
      · exact .inr ⟨p, g', by rw [g?_old hi]; exact hg', hl'⟩
    · exact .inr ⟨(hr x hxu a hxa).1, g, by rw [g?_of hx, hu x hxu], (hr x hxu a hxa).2⟩
  · obtain ⟨x, hx, hxa⟩ := touch_of ha
    rcases getElem?_append_cases hx with ⟨_, hx'⟩ | ⟨_, hxu⟩
    · exact (H.wrote i a (by rw [touchAt_of hx']; exact hxa) hw g' hg' hS).app u
    · rw [(hr x hxu a hxa).1] at hw; cases hw
  · by_cases e : g = g'
    · subst e; rw [hd hg']; exact H.hears g hg'
    · rw [Deaf_other t e _ hu]; exact H.hears g' hg'

theorem p3_other (H : P3 Shun St Sit B h t) (hSS : ∀ g l, Sit g → St g l → ¬ Shun l) {fn : FuncId} {pos : String} {es : Array Event} (hes : ∀ e ∈ es, (∀ x, (MemAct.ofEvent e).touch? = some x → x.kind = .atomic ∧ Shun x.loc) ∧ (MemAct.ofEvent e).low B) (hM : ¬ Sit c) (hh : Hush (Deaf t c) es) :
    P3 Shun St Sit B h (t ++ MemOp.ofEvents c fn pos es) := by
  have hp : PastG (AnyS St Sit) (fun _ => False) Sit B (Acc Shun h t) t := ⟨H.clean, fun i a ha hm => (H.known i a ha hm).imp id fun ⟨p, g, hg, hs, hl⟩ => ⟨p, ⟨g, hs, hl⟩, g, hg, hs⟩, fun _ _ _ _ _ _ z => z.elim, fun _ z => z.elim, H.seen⟩; have hp' := past_other (c := c) (fn := fn) (pos := pos) hp (fun l ⟨g, hg, hl⟩ => hSS g l hg hl) hes (fun z => z) hh; have hu : ∀ op ∈ MemOp.ofEvents c fn pos es, op.g = c := ops_g
  have hev : ∀ op ∈ MemOp.ofEvents c fn pos es, ∀ b, op.act.touch? = some b → b.kind = .atomic ∧ Shun b.loc := fun op hop b hb => by
    obtain ⟨e, he, rfl⟩ := Go.Conc.mem_ofEvents hop; exact (hes e he).1 b hb
  refine ⟨hp'.clean, fun i a ha hm => ?_, fun i a ha hw g hg hS => ?_, fun g hg => ?_, hp'.seen⟩
  · obtain ⟨x, hx, hxa⟩ := touch_of ha
    rcases getElem?_append_cases hx with ⟨hi, hx'⟩ | ⟨_, hxu⟩
    · rcases H.known i a (by rw [touchAt_of hx']; exact hxa) hm with hk | ⟨p, g, hg, hl⟩
      · exact .inl (hk.app _)
      · exact .inr ⟨p, g, by rw [g?_old hi]; exact hg, hl⟩
    · refine (hp'.known i a ha hm).imp id fun ⟨_, _, g, hg, hs⟩ => ?_
      rw [g?_of hx, hu x hxu] at hg; obtain rfl := Option.some.inj hg; exact absurd hs hM
  · obtain ⟨x, hx, hxa⟩ := touch_of ha
    rcases getElem?_append_cases hx with ⟨_, hx'⟩ | ⟨_, hxu⟩
    · exact (H.wrote i a (by rw [touchAt_of hx']; exact hxa) hw g hg hS).app _
    · exact absurd (hev x hxu a hxa).2 (hSS g _ hg hS)
  · rw [Deaf_other t (show c ≠ g from fun z => hM (by rw [z]; exact hg)) _ hu]; exact H.hears g hg

theorem p3_pass (H : P3 Shun St Sit B h t) (hSS : ∀ g l, Sit g → St g l → ¬ Shun l) (h1 : ∀ g, Sit g → g ≠ j → Sit' g ∧ ∀ l, St g l → St' g l) (h2 : ∀ g, Sit' g → (Sit g ∧ g ≠ j ∧ ∀ l, St' g l → St g l) ∨ (g = h ∧ ∀ l, St' g l → l.isMemory = true ∧ ¬ Shun l))
    (hn : ∀ op ∈ u, op.act.touch? = none) (hl : ∀ op ∈ u, op.act.low B) (hD : ∀ g, Sit' g → Deaf (t ++ u) g = 0) {p q : Nat} {x y : MemOp} (hp : t.size ≤ p) (hx : (t ++ u)[p]? = some x) (hxg : x.g = h) (hy : (t ++ u)[q]? = some y) (hyg : y.g = j) (edge : HappensBefore (t ++ u) p q) :
    P3 Shun St' Sit' B j (t ++ u) := by
  have pass : ∀ i, Knows t h i → Knows (t ++ u) j i := fun i hk => ⟨q, y, hy, hyg, .inr ((hk.hb_new hp hx hxg).trans edge)⟩
  refine ⟨fun said => noRace_appendMute (H.clean said) hn, fun i a ha hm => ?_, fun i a ha hw g hg hS => ?_, hD, seen_app H.seen hl⟩
  · obtain ⟨z, hz, hza⟩ := touch_of ha
    rcases getElem?_append_cases hz with ⟨hi, hz'⟩ | ⟨_, hzu⟩
    · rcases H.known i a (by rw [touchAt_of hz']; exact hza) hm with hk | ⟨p', g, hg, hs, hl'⟩
      · exact .inl (hk.to (pass i))
      · by_cases e : g = j
        · subst e
          have hk := knows_own hz; rw [show z.g = g from by have := g?_of hz'; rw [hg] at this; exact (Option.some.inj this).symm] at hk; refine .inl ⟨lt_size_of_getElem? hz, .inl hk, fun a' ha' hsh => ?_⟩; obtain rfl := touch_eq ha ha'; exact absurd hsh (hSS _ _ hs hl')
        · exact .inr ⟨p', g, by rw [g?_old hi]; exact hg, (h1 g hs e).1, (h1 g hs e).2 _ hl'⟩
    · rw [hn z hzu] at hza; cases hza
  · obtain ⟨z, hz, hza⟩ := touch_of ha
    rcases getElem?_append_cases hz with ⟨_, hz'⟩ | ⟨_, hzu⟩
    · have ha' : touchAt t i = some a := by rw [touchAt_of hz']; exact hza
      rcases h2 g hg with ⟨hs, _, hst⟩ | ⟨rfl, hst⟩
      · exact (H.wrote i a ha' hw g hs (hst _ hS)).app u
      · obtain ⟨m1, m2⟩ := hst _ hS
        rcases H.known i a ha' m1 with ⟨_, hk | ⟨b, hb, _, hsh, _⟩, _⟩ | ⟨hf, _⟩
        · exact hk.app u
        · obtain rfl := touch_eq ha' hb
          exact absurd hsh m2
        · rw [hf] at hw; cases hw
    · rw [hn z hzu] at hza; cases hza

theorem p3_met (H : P3 Shun St Sit B h t) (hSS : ∀ g l, Sit g → St g l → ¬ Shun l) (h1 : ∀ g, Sit g → g ≠ j → Sit' g ∧ ∀ l, St g l → St' g l) (h2 : ∀ g, Sit' g → (Sit g ∧ g ≠ j ∧ ∀ l, St' g l → St g l) ∨ (g = h ∧ ∀ l, St' g l → l.isMemory = true ∧ ¬ Shun l)) (hh : Deaf t h = 0) (hj : Sit j) (fh : FuncId) (ph : String) (fj : FuncId) (pj : String) (k : Nat) (hc : c < B) :
    P3 Shun St' Sit' B j (t ++ met h j fh ph fj pj c k 0) := by
  have e0 : (t ++ met h j fh ph fj pj c k 0)[t.size]? = some { g := h, fn := fh, pos := ph, act := .send c k } := by simp [met]
  have e3 : (t ++ met h j fh ph fj pj c k 0)[t.size + 3]? = some { g := j, fn := fj, pos := pj, act := .recvDone c k } := by simp [met]
  have hq := met_quiet h j fh ph fj pj c k 0; have d0 : (t ++ met h j fh ph fj pj c k 0).deaf h t.size = 0 := by rw [deaf_old (Nat.le_refl _)]; exact hh
  have d3 : (t ++ met h j fh ph fj pj c k 0).deaf j (t.size + 3) = 0 := by rw [deaf_quiet (hq j) 3 (by simp [met])]; exact H.hears j hj
  refine p3_pass H hSS h1 h2 (met_mute h j fh ph fj pj c k 0) (fun op hop => ?_) (fun g hg => (Deaf_quiet (hq g)).trans ?_) (Nat.le_refl _) e0 rfl e3 rfl
    (Relation.TransGen.single (.inr ⟨.handOver (act?_of e0) (act?_of e3), ⟨h, g?_of e0, d0⟩, ⟨j, g?_of e3, d3⟩⟩))
  · simp only [met, List.mem_toArray, List.mem_cons, List.not_mem_nil, or_false] at hop
    rcases hop with rfl | rfl | rfl | rfl <;> exact hc
  · rcases h2 g hg with ⟨hs, _⟩ | ⟨rfl, _⟩
    · exact H.hears g hs
    · exact hh

theorem go_quiet (fh : FuncId) (ph : String) (fc : FuncId) (fp : String) (g : Nat) : ∀ op ∈ (#[{ g := h, fn := fh, pos := ph, act := .go c }, { g := c, fn := fc, pos := fp, act := .start }] : Trace), ∀ d, deafStep g d op = d := by
  intro op hop d; simp only [List.mem_toArray, List.mem_cons, List.not_mem_nil, or_false] at hop; rcases hop with rfl | rfl <;> rfl

theorem p3_go (H : P3 Shun St Sit B h t) (hSS : ∀ g l, Sit g → St g l → ¬ Shun l) (h1 : ∀ g, Sit g → Sit' g ∧ ∀ l, St g l → St' g l) (h2 : ∀ g, Sit' g → (Sit g ∧ g ≠ c ∧ ∀ l, St' g l → St g l) ∨ (g = h ∧ ∀ l, St' g l → l.isMemory = true ∧ ¬ Shun l)) (hh : Deaf t h = 0) (hc0 : Deaf t c = 0) (fh : FuncId) (ph : String) (fc : FuncId) (fp : String) :
    P3 Shun St' Sit' B c (t ++ #[{ g := h, fn := fh, pos := ph, act := .go c }, { g := c, fn := fc, pos := fp, act := .start }]) := by
  have e0 : (t ++ #[{ g := h, fn := fh, pos := ph, act := .go c }, { g := c, fn := fc, pos := fp, act := .start }])[t.size]? = some { g := h, fn := fh, pos := ph, act := .go c } := by simp
  have e1 : (t ++ #[{ g := h, fn := fh, pos := ph, act := .go c }, { g := c, fn := fc, pos := fp, act := .start }])[t.size + 1]? = some { g := c, fn := fc, pos := fp, act := .start } := by simp
  have hq := go_quiet (h := h) (c := c) fh ph fc fp
  refine p3_pass H hSS (fun g hg _ => h1 g hg) h2 (fun op hop => ?_) (fun op hop => ?_) (fun g hg => (Deaf_quiet (hq g)).trans ?_) (Nat.le_refl _) e0 rfl e1 rfl
    (Relation.TransGen.single (.inr ⟨.spawn (act?_of e0) (act?_of e1) (g?_of e1), ⟨h, g?_of e0, by rw [deaf_old (Nat.le_refl _)]; exact hh⟩, ⟨c, g?_of e1, by rw [deaf_quiet (hq c) 1 (by simp)]; exact hc0⟩⟩))
  · simp only [List.mem_toArray, List.mem_cons, List.not_mem_nil, or_false] at hop
    rcases hop with rfl | rfl <;> rfl
  · simp only [List.mem_toArray, List.mem_cons, List.not_mem_nil, or_false] at hop
    rcases hop with rfl | rfl <;> trivial
  · rcases h2 g hg with ⟨hs, _⟩ | ⟨rfl, _⟩
    · exact H.hears g hs
    · exact hh
end
end
section
open Go.Conc
open Go.ConcN (sumTo upd sumTo_upd upd_ne upd_same)

def gv (m x : Nat) : Int := ((m * 4294967296 + x : Nat) : Int)

section
variable (P : Program) (K : World → Prop) (Gp : Grp)
def DP1 (M : Nat → Goroutine → Prop) (Q : Goroutine → Prop) (t : Nat) (g : Goroutine) : Prop :=
  (g.status = .running ∧ ∃ g', (∀ w, K w → stepG P false g w = .go g' w #[]) ∧ M t g') ∨
  (t = 0 ∧ g.status = .running ∧ ∃ g', (∀ w, K w → stepG P false g w = .go g' w #[mkE (.releaseMerge Gp.st)]) ∧ M 1 g') ∨
  (t = 1 ∧ g.status = .running ∧ ∃ g', (∀ w, K w → stepG P false g w = .go g' w #[mkE .disable]) ∧ M 2 g') ∨
  (t = 2 ∧ g.status = .running ∧
    (∀ m x : Nat, m < 9 → x < 2 → (x = 0 ∨ 0 < m) → ∃ g', (∀ w, K w → Num .u64 Gp.st w (gv (m + 1) x) → stepG P false g w = .go g' (w.setCell Gp.st (.int .u64 (gv m x))) #[rdE Gp.st, wrE Gp.st]) ∧ Q g') ∧
    ∃ g', (∀ w, K w → Num .u64 Gp.st w (gv 1 1) → stepG P false g w = .go g' (w.setCell Gp.st (.int .u64 (gv 0 1))) #[rdE Gp.st, wrE Gp.st]) ∧ M 3 g') ∨
  (t = 3 ∧ g.status = .running ∧ ∃ g', (∀ w, K w → Num .u64 Gp.st w (gv 0 1) → stepG P false g w = .go g' w #[rdE Gp.st]) ∧ M 4 g') ∨
  (t = 4 ∧ g.status = .running ∧ ∃ g', (∀ w, K w → Num .u64 Gp.st w (gv 0 1) → stepG P false g w = .go g' (w.setCell Gp.st (.int .u64 (gv 0 0))) #[wrE Gp.st]) ∧ M 5 g') ∨
  (t = 5 ∧ g.status = .running ∧ mayWake P g = true ∧ ∃ g', g'.status = .running ∧ (∀ w, K w → Num .u32 Gp.se w 0 → stepG P false g w = .go g' (w.setCell Gp.se (.int .u32 1)) (semEvents Gp.se)) ∧ Q g')
def DP : Nat → Nat → Goroutine → Prop
  | 0, _, _ => False
  | n + 1, t, g => DP1 P K Gp (DP n) (QuitsD P n 1) t g
end

section
variable {P : Program} {K K' : World → Prop} {Gp : Grp} {M M' : Nat → Goroutine → Prop} {Q Q' : Goroutine → Prop} {t n : Nat} {g g' : Goroutine}
theorem DP1.mono (hK : ∀ w, K' w → K w) (h : ∀ t g, M t g → M' t g) (x : DP1 P K Gp M Q t g) : DP1 P K' Gp M' Q t g := by
  rcases x with ⟨a, g', b, c⟩ | ⟨a, b, g', c, d⟩ | ⟨a, b, g', c, d⟩ | ⟨a, b, e, g', c, d⟩ | ⟨a, b, g', c, d⟩ | ⟨a, b, g', c, d⟩ | ⟨a, b, c, g', d, e, f⟩
  · exact .inl ⟨a, g', fun w y => b w (hK w y), h _ _ c⟩
  · exact .inr (.inl ⟨a, b, g', fun w y => c w (hK w y), h _ _ d⟩)
  · exact .inr (.inr (.inl ⟨a, b, g', fun w y => c w (hK w y), h _ _ d⟩))
  · exact .inr (.inr (.inr (.inl ⟨a, b, fun m x h1 h2 h3 => by obtain ⟨g2, y1, y2⟩ := e m x h1 h2 h3; exact ⟨g2, fun w y => y1 w (hK w y), y2⟩, g', fun w y => c w (hK w y), h _ _ d⟩)))
  · exact .inr (.inr (.inr (.inr (.inl ⟨a, b, g', fun w y => c w (hK w y), h _ _ d⟩))))
  · exact .inr (.inr (.inr (.inr (.inr (.inl ⟨a, b, g', fun w y => c w (hK w y), h _ _ d⟩)))))
  · exact .inr (.inr (.inr (.inr (.inr (.inr ⟨a, b, c, g', d, fun w y => e w (hK w y), f⟩)))))
theorem DP.mono (hK : ∀ w, K' w → K w) : ∀ (n t : Nat) (g : Goroutine), DP P K Gp n t g → DP P K' Gp n t g
  | 0, _, _, h => h
  | n + 1, _, _, h => DP1.mono hK (fun t g => DP.mono hK n t g) h
theorem DP.inv (h : DP P K Gp n t g) : ∃ m, n = m + 1 ∧ DP1 P K Gp (DP P K Gp m) (QuitsD P m 1) t g := by
  cases n with
  | zero => exact h.elim
  | succ m => exact ⟨m, rfl, h⟩
theorem DP.running (h : DP P K Gp n t g) : g.status = .running := by
  obtain ⟨_, _, h⟩ := h.inv; rcases h with ⟨h, _⟩ | ⟨_, h, _⟩ | ⟨_, h, _⟩ | ⟨_, h, _⟩ | ⟨_, h, _⟩ | ⟨_, h, _⟩ | ⟨_, h, _⟩ <;> exact h
end

structure C3 (P : Program) (K : World → Prop) (Shun : Loc → Prop) (St : Nat → Loc → Prop) (B : Nat) (Inb : Nat → Option Seat) (Gp : Grp) (h : Nat) (ds : List Nat) (sg : Nat → Nat) (T : Trace) (gs : Array Goroutine) (w : World) (q : Nat → Nat) : Prop where
  idle : ∀ i g, i ≠ h → i ∉ ds → gs[i]? = some g → Idle P K (St i) B T i (q i) g (Inb i)
  dep : ∀ i, i ∈ ds → i ≠ h ∧ 0 < i ∧ Inb i = none ∧ ∃ g, gs[i]? = some g ∧ DP P K Gp (q i) (sg i) g ∧ Deaf T i = dC (sg i)
  nd : ds.Nodup
  chans : ∀ i s c, Inb i = some s → s.has c → ∃ cap k, w.heap[c]? = some (.chan cap #[] false k k false)
  wf : ∀ i s, Inb i = some s → s.Wf
  inj : ∀ i i' s s' c, Inb i = some s → Inb i' = some s' → s.has c → s'.has c → i = i'
  above : ∀ j, gs.size ≤ j → Deaf T j = 0
  low : ∀ i s c, Inb i = some s → s.has c → c < B
  noh : Inb h = none
  ss : ∀ i l, (Inb i).isSome → St i l → ¬ Shun l
  past : P3 Shun St (fun g => (Inb g).isSome) B h T
  keep : K w

section
variable {P : Program} {K K' : World → Prop} {Shun : Loc → Prop} {St : Nat → Loc → Prop} {B B' : Nat} {Inb : Nat → Option Seat} {Gp : Grp} {h : Nat} {ds : List Nat} {sg : Nat → Nat} {T : Trace} {gs : Array Goroutine} {w w' : World} {q : Nat → Nat}

theorem AtIn.less {main : Bool} {Still : Loc → Prop} {s : Seat} {g g₂ : Goroutine} (hK : ∀ w, K' w → K w) (x : AtIn P main K Still B s g g₂) : AtIn P main K' Still B s g g₂ := by
  obtain ⟨h1, h2, h3, h4, h5, es, hes, hst⟩ := x; exact ⟨h1, h2, h3, h4, h5, es, hes, fun w hw => hst w (hK w hw)⟩
theorem goes_less {main : Bool} {D : World → World → Array Event → Prop} {S S' : Goroutine → World → Prop} (hK : ∀ w, K' w → K w) (hS : ∀ g w, S g w → S' g w) :
    ∀ {n : Nat} {g : Goroutine} {w : World}, Goes P main (RK K) D S n g w → Goes P main (RK K') D S' n g w
  | 0, _, _, h => fun w₁ r => hS _ _ (h w₁ (hK _ r))
  | n + 1, _, _, h => h.elim (fun x => .inl fun w₁ r => hS _ _ (x w₁ (hK _ r))) fun ⟨hs, x⟩ => .inr ⟨hs, fun w₁ r => by
      have := x w₁ (hK _ r)
      revert this
      cases stepG P main _ w₁ <;> simp only [GStep.goes, imp_self]
      exact fun ⟨d, y⟩ => ⟨d, goes_less hK hS y⟩⟩
theorem Sits.less {main : Bool} {Still : Loc → Prop} {s : Seat} {n : Nat} {g : Goroutine} (hK : ∀ w, K' w → K w) (x : Sits P main K Still B s n g) : Sits P main K' Still B s n g := by
  rcases x with ⟨k, w, e, hg⟩ | ⟨e, g₀, g₂, e2, hat⟩
  · exact .inl ⟨k, w, e, goes_less hK (fun _ _ ⟨g₂, y⟩ => ⟨g₂, AtIn.less hK y⟩) hg⟩
  · exact .inr ⟨e, g₀, g₂, e2, AtIn.less hK hat⟩

theorem C3.less (C : C3 P K Shun St B Inb Gp h ds sg T gs w q) (hK : ∀ w, K' w → K w) (hw : K' w) : C3 P K' Shun St B Inb Gp h ds sg T gs w q := by
  refine ⟨fun i g hi hd hg => ?_, fun i hi => ?_, C.nd, C.chans, C.wf, C.inj, C.above, C.low, C.noh, C.ss, C.past, hw⟩
  · have := C.idle i g hi hd hg
    cases e : Inb i with
    | none => rw [e] at this; exact this
    | some s => rw [e] at this; exact Sits.less hK this
  · obtain ⟨h1, h2, h3, g, h4, h5, h6⟩ := C.dep i hi
    exact ⟨h1, h2, h3, g, h4, DP.mono hK _ _ _ h5, h6⟩
theorem C3.raise (C : C3 P K Shun St B Inb Gp h ds sg T gs w q) (hB : B ≤ B') : C3 P K Shun St B' Inb Gp h ds sg T gs w q := by
  refine ⟨fun i g hi hd hg => ?_, C.dep, C.nd, C.chans, C.wf, C.inj, C.above, fun i s c e hc => Nat.lt_of_lt_of_le (C.low i s c e hc) hB, C.noh, C.ss, C.past.mono hB, C.keep⟩; have := C.idle i g hi hd hg; cases e : Inb i with
  | none => rw [e] at this; exact this
  | some s => rw [e] at this; exact Sits.raise hB this
theorem C3.in (C : C3 P K Shun St B Inb Gp h ds sg T gs w q) (hK : K w') (hch : ∀ i s c, Inb i = some s → s.has c → w'.heap[c]? = w.heap[c]?) : C3 P K Shun St B Inb Gp h ds sg T gs w' q :=
  ⟨C.idle, C.dep, C.nd, fun i s c e hc => by obtain ⟨cap, k, hk⟩ := C.chans i s c e hc; exact ⟨cap, k, (hch i s c e hc).trans hk⟩, C.wf, C.inj, C.above, C.low, C.noh, C.ss, C.past, hK⟩

theorem C3.fixed (C : C3 P K Shun St B Inb Gp h ds sg T gs w q) {x : Nat} {y : Goroutine} (hx : x ≠ h) (hy : gs[x]? = some y) : y.again w = y := by
  by_cases hd : x ∈ ds
  · obtain ⟨_, _, _, g, h4, h5, _⟩ := C.dep x hd
    rw [h4] at hy; obtain rfl := Option.some.inj hy; exact again_running _ (.inl h5.running)
  have hi := C.idle x y hx hd hy; cases e : Inb x with
  | none => rw [e] at hi; exact again_running _ hi.2.status
  | some s => rw [e] at hi; exact Go.Conc.Sits.again C.keep hi (C.wf x s e) fun c hc => by obtain ⟨cap, k, hk⟩ := C.chans x s c e hc; exact ⟨_, _, _, _, _, hk⟩
theorem C3.noSend (C : C3 P K Shun St B Inb Gp h ds sg T gs w q) {x : Nat} {y : Goroutine} (hx : x ≠ h) (hy : gs[x]? = some y) (c : Nat) : offersAt y c true = [] := by
  by_cases hd : x ∈ ds
  · obtain ⟨_, _, _, g, h4, h5, _⟩ := C.dep x hd
    rw [h4] at hy; obtain rfl := Option.some.inj hy; exact offersAt_of_not_blocked (by rw [h5.running]; simp) c true
  have hi := C.idle x y hx hd hy; cases e : Inb x with
  | none =>
    rw [e] at hi; exact offersAt_of_not_blocked (fun hb => by rcases hi.2.status with z | z <;> rw [z] at hb <;> cases hb) c true
  | some s =>
    rw [e] at hi; rcases id hi with ⟨k, w₀, hq, _⟩ | ⟨_, _, g₂, rfl, _⟩
    · have := (Go.Conc.Sits.status C.keep hi).elim (·.1) (fun z => by omega)
      exact offersAt_of_not_blocked (fun hb => by rw [this] at hb; cases hb) c true
    · exact offersAt_parked_sends (fun cc hcc => by obtain ⟨c', z', rfl⟩ := (C.wf x s e).recvs cc hcc; rfl) _
theorem C3.noRecv (C : C3 P K Shun St B Inb Gp h ds sg T gs w q) {x : Nat} {y : Goroutine} (hx : x ≠ h) (hy : gs[x]? = some y) {c : Nat} (hc : ∀ s, Inb x = some s → ¬ s.has c) : offersAt y c false = [] := by
  by_cases hd : x ∈ ds
  · obtain ⟨_, _, _, g, h4, h5, _⟩ := C.dep x hd
    rw [h4] at hy; obtain rfl := Option.some.inj hy; exact offersAt_of_not_blocked (by rw [h5.running]; simp) c false
  have hi := C.idle x y hx hd hy; cases e : Inb x with
  | none =>
    rw [e] at hi; exact offersAt_of_not_blocked (fun hb => by rcases hi.2.status with z | z <;> rw [z] at hb <;> cases hb) c false
  | some s =>
    rw [e] at hi; rcases id hi with ⟨k, w₀, hq, _⟩ | ⟨_, _, g₂, rfl, _⟩
    · have := (Go.Conc.Sits.status C.keep hi).elim (·.1) (fun z => by omega)
      exact offersAt_of_not_blocked (fun hb => by rw [this] at hb; cases hb) c false
    · refine offersAt_parked_off (fun cc hcc ec => ?_) _
      obtain ⟨c', z', rfl⟩ := (C.wf x s e).recvs cc hcc; simp only [rcase, Value.chan.injEq, Option.some.injEq] at ec; subst ec; exact hc s e (Seat.has_of_mem hcc)
theorem C3.awake (C : C3 P K Shun St B Inb Gp h ds sg T gs w q) {a : Goroutine} (ha : gs[h]? = some a) (hs : a.status = .running ∨ a.status = .blocked) (g : Goroutine) (hg : g ∈ gs) : Go.Conc.awake g := by
  obtain ⟨i, hgi⟩ := Array.mem_iff_getElem?.1 hg; refine awake_of ?_
  by_cases e : i = h
  · rw [e, ha] at hgi
    cases hgi
    exact hs.imp_right .inl
  by_cases hd : i ∈ ds
  · obtain ⟨_, _, _, g', h4, h5, _⟩ := C.dep i hd
    rw [h4] at hgi; obtain rfl := Option.some.inj hgi; exact .inl h5.running
  have hid := C.idle i g e hd hgi
  revert hid
  cases Inb i with
  | none => exact fun z => z.2.status.imp_right .inr
  | some s => exact fun z => (Go.Conc.Sits.status C.keep z).imp And.left fun y => .inl y.1

theorem C3.lay (C : C3 P K Shun St B Inb Gp h ds sg T gs w q) {i n' : Nat} {ops : Array MemOp} {gs' : Array Goroutine} {g' : Goroutine} (hih : i ≠ h) (hid : i ∉ ds) (hlt : i < gs.size) (hsz : gs'.size = gs.size) (hoth : ∀ x, x ≠ i → gs'[x]? = gs[x]?) (hself : gs'[i]? = some g') (hops : ∀ op ∈ ops, op.g = i)
    (hidle : Idle P K (St i) B (T ++ ops) i n' g' (Inb i)) (hp : P3 Shun St (fun g => (Inb g).isSome) B h (T ++ ops)) : C3 P K Shun St B Inb Gp h ds sg (T ++ ops) gs' w (upd q i n') := by
  refine ⟨fun x y hx hd hy => ?_, fun x hx => ?_, C.nd, C.chans, C.wf, C.inj, fun j hj => ?_, C.low, C.noh, C.ss, hp, C.keep⟩
  · by_cases e : x = i
    · subst e
      rw [hself] at hy; obtain rfl := Option.some.inj hy; rw [upd_same]; exact hidle
    · rw [hoth x e] at hy
      rw [upd_ne q n' e]; have hi := C.idle x y hx hd hy; cases es : Inb x with
      | none => rw [es] at hi; exact ⟨hi.1, by rw [Deaf_other T (fun z => e z.symm) ops hops]; exact hi.2⟩
      | some s => rw [es] at hi; exact hi
  · have e : x ≠ i := fun z => hid (z ▸ hx)
    obtain ⟨h1, h2, h3, g, h4, h5, h6⟩ := C.dep x hx; exact ⟨h1, h2, h3, g, by rw [hoth x e]; exact h4, by rw [upd_ne q n' e]; exact h5, by rw [Deaf_other T (fun z => e z.symm) ops hops]; exact h6⟩
  · rw [Deaf_other T (g' := i) (by omega) ops hops]
    exact C.above j (by omega)

theorem sum_less {n i k : Nat} (hlt : i < n) (hqi : q i = k + 1) {k' : Nat} (hk : k' ≤ k) : sumTo n (upd q i k') < sumTo n q := by
  have h2 : sumTo n (upd q i k') + (k + 1) = sumTo n q + k' := by
    have := sumTo_upd q k' id hlt
    simpa [hqi] using this
  omega

theorem C3.by_idle (C : C3 P K Shun St B Inb Gp h ds sg T gs w q) {i : Nat} {g : Goroutine} {sl : Option (Nat × Nat)} (hi : gs[i]? = some g) (hih : i ≠ h) (hid : i ∉ ds) (hrun : g.status = .running) (hA : ∀ gx, gs[h]? = some gx → gx.again w = gx)
    (hO : ∀ s g₂, Inb i = some s → AtIn P (i == 0) K (St i) B s g g₂ → ∀ gx c, gs[h]? = some gx → s.has c → offersAt gx c true = []) :
    ∃ (gs' : Array Goroutine) (ops : Array MemOp) (q' : Nat → Nat), runT P (crowd gs w sl) i = (.next (crowd gs' w sl), ops) ∧ (∀ op ∈ ops, op.g = i) ∧ gs'.size = gs.size ∧ (∀ x, x ≠ i → gs'[x]? = gs[x]?) ∧ (∀ x, x ≠ i → q' x = q x) ∧ (∀ s, Inb i = some s → q' i = 0 → ∃ g₂, AtIn P (i == 0) K (St i) B s g g₂) ∧
      C3 P K Shun St B Inb Gp h ds sg (T ++ ops) gs' w q' ∧ sumTo gs.size q' < sumTo gs.size q := by
  have hlt : i < gs.size := (Array.getElem?_eq_some_iff.1 hi).1
  have hfix : ∀ (a' : Goroutine) (x : Nat) (y : Goroutine), gs[x]? = some y → woken P g a' w y = y := fun a' x y hy => woken_of_again (by
    by_cases hx : x = h
    · subst hx; exact hA y hy
    · exact C.fixed hx hy)
  have harr : ∀ (g' : Goroutine) (x : Nat), x ≠ i → ((gs.map (woken P g g' w)).setIfInBounds i g')[x]? = gs[x]? := by
    intro g' x hx; rw [Array.getElem?_setIfInBounds_ne (fun e => hx e.symm), Array.getElem?_map]; cases e : gs[x]? with
    | none => rfl
    | some y => simp [hfix g' x y e]
  have hself : ∀ (g' : Goroutine), ((gs.map (woken P g g' w)).setIfInBounds i g')[i]? = some g' := fun g' => Array.getElem?_setIfInBounds_self_of_lt (by simpa using hlt)
  have hI := C.idle i g hih hid hi; cases e : Inb i with
  | none =>
    rw [e] at hI; obtain ⟨hpos, hq⟩ := hI; have hi0 : (i == 0) = false := by simp; omega
    cases hqi : q i with
    | zero => rw [hqi] at hq; rw [hq.1] at hrun; cases hrun
    | succ k =>
      rw [hqi] at hq; rcases hq with ⟨hf, _⟩ | ⟨_, g', es, hm, hstp, hq'⟩
      · rw [hf] at hrun; cases hrun
      refine ⟨_, _, upd q i k, runT_crowd_go (sl := sl) hi (by rw [hi0]; exact hstp w), ops_g, by simp, harr _, fun x hx => upd_ne q k hx, fun s hs _ => (by cases hs), ?_, sum_less hlt hqi (Nat.le_refl _)⟩; refine C.lay hih hid hlt (by simp) (harr _) (hself _) ops_g (by rw [e]; exact ⟨hpos, by rw [Deaf_own]; exact hq'⟩) ?_; exact p3_read C.past ops_g (fun op hop b hb => by obtain ⟨e, he, rfl⟩ := Go.Conc.mem_ofEvents hop; rw [touch_mute (hm e he)] at hb; cases hb) (fun hs => by rw [e] at hs; cases hs) (fun op hop => by obtain ⟨e, he, rfl⟩ := Go.Conc.mem_ofEvents hop; exact low_mute (hm e he) B)
  | some s =>
    rw [e] at hI
    obtain ⟨k, w₀, hqi, hg⟩ : ∃ k w₀, q i = k + 1 ∧ Goes P (i == 0) (RK K) (DS (St i) B) (fun g _ => ∃ g₂, AtIn P (i == 0) K (St i) B s g g₂) k g w₀ := by
      rcases hI with x | ⟨_, _, g₂, rfl, _⟩
      · exact x
      · cases hrun
    have hcase : (∃ g₂, AtIn P (i == 0) K (St i) B s g g₂) ∨ ∃ k' g' es, k = k' + 1 ∧ stepG P (i == 0) g w = .go g' w es ∧ (∀ e ∈ es, EvC (St i) B e) ∧ Goes P (i == 0) (RK K) (DS (St i) B) (fun g _ => ∃ g₂, AtIn P (i == 0) K (St i) B s g g₂) k' g' w := by
      cases k with
      | zero => exact .inl (hg w C.keep)
      | succ k' =>
        rcases hg with hstop | ⟨_, hstep⟩
        · exact .inl (hstop w C.keep)
        · have hs := hstep w C.keep
          cases hgo : stepG P (i == 0) g w with
          | go g' w' es =>
            rw [hgo, goes_go] at hs; obtain ⟨⟨rfl, hes⟩, hG'⟩ := hs; exact .inr ⟨k', g', es, rfl, rfl, hes, hG'⟩
          | _ => rw [hgo] at hs; exact hs.elim
    have hsome : (Inb i).isSome := by rw [e]; rfl
    have rd : ∀ {fn : FuncId} {pos : String} {es : Array Event}, (∀ e ∈ es, EvC (St i) B e) → P3 Shun St (fun g => (Inb g).isSome) B h (T ++ MemOp.ofEvents i fn pos es) := fun {fn pos es} hes => by
      obtain ⟨hops, hr, hl, hd⟩ := evC_ops (i := i) (fn := fn) (pos := pos) hes; exact p3_read C.past hops (fun op hop b hb => ⟨(hr op hop b hb).1, hsome, (hr op hop b hb).2⟩) (fun _ => hd T) hl
    rcases hcase with ⟨g₂, hat⟩ | ⟨k', g', es, rfl, hgo, hes, hG'⟩
    · have hO' := hO s g₂ e hat
      obtain ⟨_, _, _, _, _, es, hes, hstp⟩ := id hat
      have hw : ∀ cc ∈ s.cases, NoWays w (gs.setIfInBounds i ph) cc := by
        intro cc hcc; obtain ⟨c, z, rfl⟩ := (C.wf i s e).recvs cc hcc; have hsc := Seat.has_of_mem hcc; obtain ⟨cap, kk, hc⟩ := C.chans i s c e hsc; refine ways_recv_none hc (partners_nil fun x y hy => ?_); rcases getElem?_stand gs i x y hy with ⟨_, rfl⟩ | ⟨hx, hy'⟩
        · exact offersAt_ph _ _
        · by_cases hS : x = h
          · subst hS; exact hO' y c hy' hsc
          · exact C.noSend hS hy' _
      refine ⟨_, _, upd q i 0, crowd_waits (sl := sl) hi (hstp w C.keep) hw, ops_g, by simp, fun x hx => Array.getElem?_setIfInBounds_ne (fun z => hx z.symm), fun x hx => upd_ne q 0 hx, fun s' hs' _ => (by obtain rfl := Option.some.inj hs'; exact ⟨g₂, hat⟩), ?_, sum_less hlt hqi (Nat.zero_le _)⟩; exact C.lay hih hid hlt (by simp) (fun x hx => Array.getElem?_setIfInBounds_ne (fun z => hx z.symm)) (Array.getElem?_setIfInBounds_self_of_lt hlt) ops_g (by rw [e]; exact .inr ⟨rfl, g, g₂, rfl, hat⟩) (rd hes)
    · refine ⟨_, _, upd q i (k' + 1), runT_crowd_go (sl := sl) hi hgo, ops_g, by simp, harr _, fun x hx => upd_ne q _ hx, fun s' _ h0 => (by rw [upd_same] at h0; omega), ?_, sum_less hlt hqi (Nat.le_refl _)⟩
      exact C.lay hih hid hlt (by simp) (harr _) (hself _) ops_g (by rw [e]; exact .inl ⟨k', w, rfl, hG'⟩) (rd hes)

theorem C3.own (C : C3 P K Shun St B Inb Gp h ds sg T gs w q) {a a' : Goroutine} {es : Array Event} (ha : gs[h]? = some a) (hK : K w') (hch : ∀ i s c, Inb i = some s → s.has c → w'.heap[c]? = w.heap[c]?) (hes : ∀ e ∈ es, EvR Shun (AnyS St (fun g => (Inb g).isSome)) B h e) :
    C3 P K Shun St B Inb Gp h ds sg (T ++ MemOp.ofEvents h a.frame.fn a.frame.place es) ((gs.map (woken P a a' w')).setIfInBounds h a') w' q ∧ ((gs.map (woken P a a' w')).setIfInBounds h a')[h]? = some a' := by
  have hlt : h < gs.size := (Array.getElem?_eq_some_iff.1 ha).1; have C' := C.in hK hch
  have hoth : ∀ x, x ≠ h → ((gs.map (woken P a a' w')).setIfInBounds h a')[x]? = gs[x]? := by
    intro x hx; rw [Array.getElem?_setIfInBounds_ne (fun e => hx e.symm), Array.getElem?_map]; cases e : gs[x]? with
    | none => rfl
    | some y => simp [woken_of_again (P := P) (x := a) (x' := a') (C'.fixed hx e)]
  have hD : ∀ x, x ≠ h → Deaf (T ++ MemOp.ofEvents h a.frame.fn a.frame.place es) x = Deaf T x := fun x hx => Deaf_other T (fun z => hx z.symm) _ ops_g
  refine ⟨⟨fun x y hx hd hy => ?_, fun x hx => ?_, C.nd, C'.chans, C.wf, C.inj, fun j hj => ?_, C.low, C.noh, C.ss, p3_own C.past hes (by rw [C.noh]; simp), hK⟩, Array.getElem?_setIfInBounds_self_of_lt (by simpa using hlt)⟩
  · rw [hoth x hx] at hy
    have hi := C.idle x y hx hd hy; cases e : Inb x with
    | none => rw [e] at hi; exact ⟨hi.1, by rw [hD x hx]; exact hi.2⟩
    | some s => rw [e] at hi; exact hi
  · obtain ⟨h1, h2, h3, g, h4, h5, h6⟩ := C.dep x hx
    exact ⟨h1, h2, h3, g, by rw [hoth x h1]; exact h4, h5, by rw [hD x h1]; exact h6⟩
  · simp only [Array.size_setIfInBounds, Array.size_map] at hj
    rw [hD j (by omega)]; exact C.above j hj
end
end
section
open Go.Conc
open Go.ConcN (sumTo upd sumTo_upd upd_ne upd_same)

theorem set_set (w : World) (z : Addr) (u v : Value) : (w.setCell z u).setCell z v = w.setCell z v := by
  refine world_ext (fun r => ?_) rfl rfl rfl rfl; simp only [heap_set]
  by_cases h : z.block = r <;> simp only [h, if_true, if_false]
  cases w.heap[r]? with
  | none => rfl
  | some o =>
    cases o with
    | cells c e f =>
      simp only [Option.map_some, setO]
      by_cases h1 : z.spot.isSome <;> simp [h1]
    | _ => rfl
theorem chan_set {w : World} {z : Addr} {v : Value} {c : Nat} (hz : RowC w z.block) {cap : Nat} {buf : Array Value} {cl : Bool} {x y : Nat} {tm : Bool} (h : w.heap[c]? = some (.chan cap buf cl x y tm)) : (w.setCell z v).heap[c]? = w.heap[c]? := by
  rw [(obj_set z v hz h (fun _ _ _ e => by cases e)).2, h]
theorem setChan_comm (w : World) {z : Addr} {c : Nat} (hne : z.block ≠ c) (v : Value) (cap : Nat) (buf : Array Value) (cl : Bool) (x y : Nat) (tm : Bool) : (w.setCell z v).setChan c cap buf cl x y tm = (w.setChan c cap buf cl x y tm).setCell z v := by
  refine world_ext (fun r => ?_) rfl rfl rfl rfl; rw [heap_set]
  by_cases e : c = r
  · subst e
    rw [if_neg hne]; simp only [World.setChan, Array.getElem?_setIfInBounds, if_true]; simp [World.setCell]
  · rw [heap_setChan_ne _ _ _ _ _ _ _ e, heap_set, heap_setChan_ne _ _ _ _ _ _ _ e]

section
variable {P : Program} {K : World → Prop} {Shun : Loc → Prop} {St : Nat → Loc → Prop} {B : Nat} {Inb : Nat → Option Seat} {Gp : Grp} {h : Nat} {ds : List Nat} {sg : Nat → Nat} {T : Trace} {gs : Array Goroutine} {w w' : World} {q : Nat → Nat}

theorem C3.dstep (C : C3 P K Shun St B Inb Gp h ds sg T gs w q) {i : Nat} {g g' : Goroutine} {es : Array Event} (sl : Option (Nat × Nat)) (hi : i ∈ ds) (hgi : gs[i]? = some g) (hst : stepG P false g w = .go g' w' es) (hK : K w') (hch : ∀ i s c, Inb i = some s → s.has c → w'.heap[c]? = w.heap[c]?)
    (hes : ∀ e ∈ es, (∀ x, (MemAct.ofEvent e).touch? = some x → x.kind = .atomic ∧ Shun x.loc) ∧ (MemAct.ofEvent e).low B) (hh : Hush (Deaf T i) es) :
    ∃ gs', runT P (crowd gs w sl) i = (.next (crowd gs' w' sl), MemOp.ofEvents i g.frame.fn g.frame.place es) ∧ gs'.size = gs.size ∧ (∀ x, x ≠ i → x ≠ h → gs'[x]? = gs[x]?) ∧ (∀ y, gs[h]? = some y → gs'[h]? = some (woken P g g' w' y)) ∧ gs'[i]? = some g' ∧
      (∀ n' t', DP P K Gp n' t' g' → deafBehind (Deaf T i) es = dC t' → C3 P K Shun St B Inb Gp h ds (upd sg i t') (T ++ MemOp.ofEvents i g.frame.fn g.frame.place es) gs' w' (upd q i n')) ∧
      (∀ n', QuitsD P n' (deafBehind (Deaf T i) es) g' → C3 P K Shun St B Inb Gp h (ds.erase i) sg (T ++ MemOp.ofEvents i g.frame.fn g.frame.place es) gs' w' (upd q i n')) := by
  have hlt : i < gs.size := (Array.getElem?_eq_some_iff.1 hgi).1; obtain ⟨d1, d2, d3, _⟩ := C.dep i hi; have hi0 : (i == 0) = false := by simp; omega
  have C' := C.in hK hch; have hD : ∀ x, x ≠ i → Deaf (T ++ MemOp.ofEvents i g.frame.fn g.frame.place es) x = Deaf T x := fun x hx => Deaf_other T (fun z => hx z.symm) _ ops_g
  have hp := p3_other (c := i) (fn := g.frame.fn) (pos := g.frame.place) C.past (fun g l hg hl => C.ss g l hg hl) hes (by rw [d3]; simp) hh
  have hoth : ∀ x, x ≠ i → x ≠ h → ((gs.map (woken P g g' w')).setIfInBounds i g')[x]? = gs[x]? := by
    intro x hx hxh; rw [Array.getElem?_setIfInBounds_ne (fun e => hx e.symm), Array.getElem?_map]; cases e : gs[x]? with
    | none => rfl
    | some y => simp [woken_of_again (P := P) (x := g) (x' := g') (C'.fixed hxh e)]
  have hself : ((gs.map (woken P g g' w')).setIfInBounds i g')[i]? = some g' := Array.getElem?_setIfInBounds_self_of_lt (by simpa using hlt)
  have hab : ∀ j, ((gs.map (woken P g g' w')).setIfInBounds i g').size ≤ j → Deaf (T ++ MemOp.ofEvents i g.frame.fn g.frame.place es) j = 0 := fun j hj => by
    simp only [Array.size_setIfInBounds, Array.size_map] at hj; rw [hD j (by omega)]; exact C.above j hj
  have hidle : ∀ (n' x : Nat) (y : Goroutine), x ≠ h → x ∉ ds → ((gs.map (woken P g g' w')).setIfInBounds i g')[x]? = some y → Idle P K (St x) B (T ++ MemOp.ofEvents i g.frame.fn g.frame.place es) x (upd q i n' x) y (Inb x) := by
    intro n' x y hx hd hy; have hxi : x ≠ i := fun z => hd (z ▸ hi)
    rw [hoth x hxi hx] at hy; rw [upd_ne q n' hxi]; have := C.idle x y hx hd hy; cases e : Inb x with
    | none => rw [e] at this; exact ⟨this.1, by rw [hD x hxi]; exact this.2⟩
    | some s => rw [e] at this; exact this
  refine ⟨_, runT_crowd_go (sl := sl) hgi (by rw [hi0]; exact hst), by simp, hoth, fun y hy => ?_, hself, fun n' t' hd hdf => ?_, fun n' hq => ?_⟩
  · rw [Array.getElem?_setIfInBounds_ne d1, Array.getElem?_map, hy]; rfl
  · refine ⟨hidle n', fun x hx => ?_, C.nd, C'.chans, C.wf, C.inj, hab, C.low, C.noh, C.ss, hp, hK⟩
    by_cases e : x = i
    · subst e
      exact ⟨d1, d2, d3, g', hself, by rw [upd_same, upd_same]; exact hd, by rw [Deaf_own, upd_same]; exact hdf⟩
    · obtain ⟨h1, h2, h3, y, h4, h5, h6⟩ := C.dep x hx
      exact ⟨h1, h2, h3, y, by rw [hoth x e h1]; exact h4, by rw [upd_ne q n' e, upd_ne sg t' e]; exact h5, by rw [hD x e, upd_ne sg t' e]; exact h6⟩
  · refine ⟨fun x y hx hd hy => ?_, fun x hx => ?_, C.nd.erase i, C'.chans, C.wf, C.inj, hab, C.low, C.noh, C.ss, hp, hK⟩
    · by_cases e : x = i
      · subst e
        rw [hself] at hy; obtain rfl := Option.some.inj hy; rw [d3, upd_same]; exact ⟨d2, by rw [Deaf_own]; exact hq⟩
      · exact hidle n' x y hx (fun z => hd ((List.mem_erase_of_ne e).2 z)) hy
    · have e : x ≠ i := fun z => by subst z; exact (C.nd.mem_erase_iff.1 hx).1 rfl
      obtain ⟨h1, h2, h3, y, h4, h5, h6⟩ := C.dep x (List.mem_of_mem_erase hx); exact ⟨h1, h2, h3, y, by rw [hoth x e h1]; exact h4, by rw [upd_ne q n' e]; exact h5, by rw [hD x e]; exact h6⟩
end

structure GK (K : World → Prop) (Shun : Loc → Prop) (Gp : Grp) : Prop where
  at' : ∀ w d, K w → K (w.at d)
  st : ∀ w v, K (w.setCell Gp.st v) ↔ K w
  row : ∀ w, K w → RowC w Gp.st.block ∧ (∃ v, w.cell? Gp.st = some v) ∧ w.frozen? Gp.st = false
  sh : Shun (.cell Gp.st)
def Wv (Gp : Grp) (w : World) (m : Nat) : World := w.setCell Gp.st (.int .u64 (gv m 0))

section
variable {P : Program} {Post : Value → World → Prop} {K Q : World → Prop} {Shun : Loc → Prop} {St : Nat → Loc → Prop} {B : Nat} {Inb : Nat → Option Seat} {Gp : Grp} {h L nb n dl : Nat} {ds : List Nat} {sg : Nat → Nat} {T : Trace} {gs : Array Goroutine} {w w' : World} {q : Nat → Nat} {a g : Goroutine}

theorem wv_size (m : Nat) : (Wv Gp w m).heap.size = w.heap.size := by simp [Wv, World.setCell]
theorem wv_num (G : GK K Shun Gp) (hK : K w) (m : Nat) : Num .u64 Gp.st (Wv Gp w m) (gv m 0) := by
  obtain ⟨⟨v, hv⟩, hf⟩ := (G.row w hK).2; exact ⟨World.cell?_setCell_same _ _ _ hv, by rw [Wv, World.frozen?_setCell]; exact hf⟩
theorem wv_k (G : GK K Shun Gp) {m : Nat} : K (Wv Gp w m) ↔ K w := G.st w _
theorem wv_chan (G : GK K Shun Gp) (hK : K w) (m : Nat) {c cap k : Nat} (hc : w.heap[c]? = some (.chan cap #[] false k k false)) : (Wv Gp w m).heap[c]? = w.heap[c]? := chan_set (G.row w hK).1 hc
theorem wv_back (G : GK K Shun Gp) (hK : K w) (m : Nat) {c cap k : Nat} (hc : (Wv Gp w m).heap[c]? = some (.chan cap #[] false k k false)) : w.heap[c]? = some (.chan cap #[] false k k false) := by
  unfold Wv at hc; rw [heap_set] at hc; obtain ⟨cs, el, f, hr⟩ := (G.row w hK).1
  by_cases e : Gp.st.block = c
  · rw [if_pos e, ← e, hr] at hc
    simp [setO] at hc
  · rw [if_neg e] at hc; exact hc

theorem C3.by (G : GK K Shun Gp) (hB : Gp.st.block < B) (hm : L + ds.length ≤ 9) (hsg : ∀ i, i ∈ ds → sg i ≤ 2) (C : C3 P K Shun St B Inb Gp h ds sg T gs (Wv Gp w (L + ds.length)) q) {i : Nat} {sl : Option (Nat × Nat)} (hi : gs[i]? = some g) (hih : i ≠ h) (hrun : g.status = .running) (hA : ∀ gx m, gs[h]? = some gx → gx.again (Wv Gp w m) = gx)
    (hO : ∀ s g₂, Inb i = some s → AtIn P (i == 0) K (St i) B s g g₂ → ∀ gx c, gs[h]? = some gx → s.has c → offersAt gx c true = []) :
    ∃ gs' ops q' ds' sg', runT P (crowd gs (Wv Gp w (L + ds.length)) sl) i = (.next (crowd gs' (Wv Gp w (L + ds'.length)) sl), ops) ∧ (∀ op ∈ ops, op.g = i) ∧ gs'.size = gs.size ∧ gs'[h]? = gs[h]? ∧ (∀ x, x ≠ i → q' x = q x) ∧ (∀ s, Inb i = some s → q' i = 0 → ∃ g₂, AtIn P (i == 0) K (St i) B s g g₂) ∧
      C3 P K Shun St B Inb Gp h ds' sg' (T ++ ops) gs' (Wv Gp w (L + ds'.length)) q' ∧ (∀ i, i ∈ ds' → sg' i ≤ 2) ∧ ds'.length ≤ ds.length ∧ sumTo gs.size q' < sumTo gs.size q := by
  have hKw : K w := (wv_k G).1 C.keep
  by_cases hid : i ∈ ds
  · obtain ⟨d1, d2, d3, g', d4, d5, d6⟩ := C.dep i hid
    rw [hi] at d4; obtain rfl := Option.some.inj d4; have hlt : i < gs.size := (Array.getElem?_eq_some_iff.1 hi).1; obtain ⟨k, hqi, hD⟩ := d5.inv
    have wk : ∀ (a' : Goroutine) (m : Nat) (gs' : Array Goroutine), (∀ y, gs[h]? = some y → gs'[h]? = some (woken P g a' (Wv Gp w m) y)) → gs'.size = gs.size → gs'[h]? = gs[h]? := fun a' m gs' hy hsz => by
      cases e : gs[h]? with
      | none => rw [Array.getElem?_eq_none_iff] at e ⊢; omega
      | some y => rw [hy y e, woken_of_again (hA y m e)]
    -- a step that leaves the group as it is
    have still : ∀ (a' : Goroutine) (es : Array Event) (t' : Nat), stepG P false g (Wv Gp w (L + ds.length)) = .go a' (Wv Gp w (L + ds.length)) es → (∀ e ∈ es, (∀ x, (MemAct.ofEvent e).touch? = some x → x.kind = .atomic ∧ Shun x.loc) ∧ (MemAct.ofEvent e).low B) → Hush (Deaf T i) es → DP P K Gp k t' a' → deafBehind (Deaf T i) es = dC t' → t' ≤ 2 →
        ∃ gs' ops q' ds' sg', runT P (crowd gs (Wv Gp w (L + ds.length)) sl) i = (.next (crowd gs' (Wv Gp w (L + ds'.length)) sl), ops) ∧ (∀ op ∈ ops, op.g = i) ∧ gs'.size = gs.size ∧ gs'[h]? = gs[h]? ∧ (∀ x, x ≠ i → q' x = q x) ∧ (∀ s, Inb i = some s → q' i = 0 → ∃ g₂, AtIn P (i == 0) K (St i) B s g g₂) ∧
        C3 P K Shun St B Inb Gp h ds' sg' (T ++ ops) gs' (Wv Gp w (L + ds'.length)) q' ∧ (∀ i, i ∈ ds' → sg' i ≤ 2) ∧ ds'.length ≤ ds.length ∧ sumTo gs.size q' < sumTo gs.size q := by
      intro a' es t' hst hes hhu hd hdf ht; obtain ⟨gs', e1, e2, e3, e4, e5, e6, _⟩ := C.dstep sl hid hi hst C.keep (fun _ _ _ _ _ => rfl) hes hhu; refine ⟨gs', _, upd q i k, ds, upd sg i t', e1, ops_g, e2, wk a' _ gs' e4 e2, fun x hx => upd_ne q k hx, fun s hs => (by rw [d3] at hs; cases hs), e6 k t' hd hdf, fun x hx => ?_, Nat.le_refl _, sum_less hlt hqi (Nat.le_refl _)⟩
      by_cases e : x = i
      · subst e; rw [upd_same]; exact ht
      · rw [upd_ne sg t' e]; exact hsg x hx
    have h2 := hsg i hid; rcases hD with ⟨_, a', hst, hn⟩ | ⟨ht, _, a', hst, hn⟩ | ⟨ht, _, a', hst, hn⟩ | ⟨ht, _, hadd, _⟩ | ⟨ht, _⟩ | ⟨ht, _⟩ | ⟨ht, _⟩
    · exact still a' _ _ (hst _ C.keep) ev_nil (hush_mute ev_nil) hn (by rw [d6]; rfl) h2
    · exact still a' _ 1 (hst _ C.keep) (ev_one (evO_mark rfl hB)) (hush_mute (ev_one rfl)) hn (by rw [d6, ht]; rfl) (by omega)
    · exact still a' _ 2 (hst _ C.keep) (ev_one (evO_mark rfl trivial)) (hush_mute (ev_one rfl)) hn (by rw [d6, ht]; rfl) (by omega)
    · obtain ⟨m, hmm⟩ : ∃ m, L + ds.length = m + 1 := ⟨L + ds.length - 1, by have := List.length_pos_of_mem hid; omega⟩
      obtain ⟨a', hst, hq⟩ := hadd m 0 (by omega) (by omega) (.inl rfl); have hlen : L + (ds.erase i).length = m := by rw [List.length_erase_of_mem hid]; have := List.length_pos_of_mem hid; omega
      have hst' := hst _ C.keep (by rw [hmm]; exact wv_num G hKw _); rw [show (Wv Gp w (L + ds.length)).setCell Gp.st (.int .u64 (gv m 0)) = Wv Gp w m from set_set _ _ _ _] at hst'; rw [ht] at d6
      obtain ⟨gs', e1, e2, e3, e4, e5, _, e7⟩ := C.dstep sl hid hi hst' ((wv_k G).2 hKw) (fun x s c hx hc => by
        obtain ⟨cap, kk, hk⟩ := C.chans x s c hx hc; have hb := wv_back G hKw _ hk; rw [wv_chan G hKw _ hb, wv_chan G hKw _ hb]) (ev_two (evO_atomic G.sh hB) (evO_atomic G.sh hB)) (hush_deaf (by rw [d6]; decide) (by intro e he; simp at he; rcases he with rfl | rfl <;> simp))
      refine ⟨gs', _, upd q i k, ds.erase i, sg, by rw [hlen]; exact e1, ops_g, e2, wk a' _ gs' e4 e2, fun x hx => upd_ne q k hx, fun s hs => (by rw [d3] at hs; cases hs), by rw [hlen]; exact e7 k (by rw [d6]; exact hq), fun x hx => hsg x (List.mem_of_mem_erase hx), List.length_erase_le, sum_less hlt hqi (Nat.le_refl _)⟩
    · omega
    · omega
    · omega
  · obtain ⟨gs', ops, q', e1, e2, e3, e4, e5, e6, e7, e8⟩ := C.by_idle (sl := sl) hi hih hid hrun (fun gx hx => hA gx _ hx) hO
    exact ⟨gs', ops, q', ds, sg, e1, e2, e3, e4 h (fun z => hih z.symm), e5, e6, e7, hsg, Nat.le_refl _, e8⟩

theorem r3_picked (G : GK K Shun Gp) (hB : Gp.st.block < B) (hnb : nb ≤ 9) (hs : a.status = .running) : ∀ (μ : Nat) (gs : Array Goroutine) (T : Trace) (q : Nat → Nat) (sl : Option (Nat × Nat)) (d₀ : Nat) (ds : List Nat) (sg : Nat → Nat), sumTo gs.size q = μ → gs[h]? = some a → L + ds.length ≤ nb → (∀ i, i ∈ ds → sg i ≤ 2) → C3 P K Shun St B Inb Gp h ds sg T gs (Wv Gp (w.at d₀) (L + ds.length)) q →
    ∃ N gs' d₁ d sl₁ sl' T' q' ds' sg', runNT P N (crowd gs (Wv Gp (w.at d₀) (L + ds.length)) sl) T = (.next (crowd gs' (Wv Gp (w.at d₁) (L + ds'.length)) sl₁), T') ∧ stepT P (crowd gs' (Wv Gp (w.at d₁) (L + ds'.length)) sl₁) = runT P (crowd gs' (Wv Gp (w.at d) (L + ds'.length)) sl') h ∧ gs'.size = gs.size ∧ gs'[h]? = some a ∧ L + ds'.length ≤ nb ∧ (∀ i, i ∈ ds' → sg' i ≤ 2) ∧
      C3 P K Shun St B Inb Gp h ds' sg' T' gs' (Wv Gp (w.at d) (L + ds'.length)) q' ∧ Deaf T' h = Deaf T h := by
  intro μ
  induction μ using Nat.strongRecOn with
  | _ μ ih =>
    intro gs T q sl d₀ ds sg hμ ha hL hsg C; obtain ⟨i, g, d, sl', hi, hg, hpick⟩ := crowd_pick (P := P) (w := Wv Gp (w.at d₀) (L + ds.length)) (sl := sl) (C.awake ha (.inl hs)) ⟨h, a, ha, hs⟩; have hpick' : stepT P (crowd gs (Wv Gp (w.at d₀) (L + ds.length)) sl) = runT P (crowd gs (Wv Gp (w.at d) (L + ds.length)) sl') i := hpick; have Cd : C3 P K Shun St B Inb Gp h ds sg T gs (Wv Gp (w.at d) (L + ds.length)) q := C.in (G.at' _ d C.keep) (fun _ _ _ _ _ => rfl)
    by_cases e : i = h
    · subst e
      exact ⟨0, gs, d₀, d, sl, sl', T, q, ds, sg, rfl, hpick', rfl, ha, hL, hsg, Cd, rfl⟩
    · obtain ⟨gs', ops, q', ds', sg', hrt, hops, hsz, hgh, _, _, C', hsg', hle, hlt⟩ := Cd.by (sl := sl') G hB (by omega) hsg hi e hg (fun gx m hgx => by rw [ha] at hgx; obtain rfl := Option.some.inj hgx; exact again_running _ (.inl hs))
        (fun s g₂ _ _ gx c hgx _ => by rw [ha] at hgx; obtain rfl := Option.some.inj hgx; exact offersAt_of_not_blocked (by rw [hs]; simp) _ _)
      obtain ⟨N, gs'', d₁, d₂, sl₁, sl₂, T', q'', ds'', sg'', h1, h2, h3, h4, h5, h6, h7, h8⟩ := ih (sumTo gs'.size q') (by rw [hsz]; omega) gs' _ q' sl' d ds' sg' rfl (by rw [hgh]; exact ha) (by omega) hsg' C'; exact ⟨N + 1, gs'', d₁, d₂, sl₁, sl₂, T', q'', ds'', sg'', by simp only [runNT, hpick', hrt]; exact h1, h2, by rw [h3, hsz], h4, h5, h6, h7, by rw [h8]; exact Deaf_other T e _ hops⟩

def At3 (P : Program) (Post : Value → World → Prop) (K Q : World → Prop) (Shun : Loc → Prop) (St : Nat → Loc → Prop) (Inb : Nat → Option Seat) (Gp : Grp) (L nb h n dl : Nat) (g : Goroutine) (w : World) : Prop :=
  ∀ (d : Nat) (gs : Array Goroutine) (T : Trace) (q : Nat → Nat) (sl : Option (Nat × Nat)) (ds : List Nat) (sg : Nat → Nat), gs.size = n → gs[h]? = some g → L + ds.length ≤ nb → (∀ i, i ∈ ds → sg i ≤ 2) → Q w → Deaf T h = dl →
    C3 P K Shun St w.heap.size Inb Gp h ds sg T gs (Wv Gp (w.at d) (L + ds.length)) q → Goal P Post (crowd gs (Wv Gp (w.at d) (L + ds.length)) sl) T

theorem At3.go (G : GK K Shun Gp) (hnb : nb ≤ 9) (hs : a.status = .running) (hQ : ∀ w d, Q w → Q (w.at d)) (hstep : ∀ d, K (w.at d) → Q (w.at d) → ∃ g' w' es, (∀ m, stepG P (h == 0) a (Wv Gp (w.at d) m) = .go g' (Wv Gp w' m) es) ∧ K w' ∧ Q w' ∧ (∀ (c cap k : Nat), w.heap[c]? = some (Obj.chan cap #[] false k k false) → w'.heap[c]? = w.heap[c]?) ∧ w.heap.size ≤ w'.heap.size ∧
      (∀ e ∈ es, EvR Shun (AnyS St (fun g => (Inb g).isSome)) w'.heap.size h e) ∧ At3 P Post K Q Shun St Inb Gp L nb h n (deafBehind dl es) g' w') : At3 P Post K Q Shun St Inb Gp L nb h n dl a w := by
  intro d₀ gs T q sl ds sg hn ha hL hsg hq hd C; have hB : Gp.st.block < w.heap.size := (G.row _ ((wv_k G).1 C.keep)).1.lt; obtain ⟨N, gs', d₁, d, sl₁, sl', T', q', ds', sg', e1, e2, e3, e4, e5, e6, e7, e8⟩ := r3_picked G hB hnb hs _ gs T q sl d₀ ds sg rfl ha hL hsg C; have hKd : K (w.at d) := (wv_k G).1 e7.keep; obtain ⟨g', w', es, s1, s2, s3, s4, s5, s6, s7⟩ := hstep d hKd (hQ _ _ hq)
  obtain ⟨C', ha'⟩ := (e7.raise s5).own (a' := g') (w' := Wv Gp w' (L + ds'.length)) e4 ((wv_k G).2 s2) (fun i s c hx hc => by
    obtain ⟨cap, k, hk⟩ := e7.chans i s c hx hc; have hb := wv_back G hKd _ hk; have hb' : w.heap[c]? = some (.chan cap #[] false k k false) := hb; have hw' := s4 c cap k hb'; rw [wv_chan G hKd _ hb, wv_chan G s2 _ (hw'.trans hb')]; exact hw') s6
  refine Goal.back (run_then e1 (e2.trans (runT_crowd_go (sl := sl') e4 (s1 _)))) ?_; exact s7 w'.drawn _ _ _ sl' ds' sg' (by simp [e3, hn]) ha' e5 e6 s3 (by rw [Deaf_own, e8, hd]) C'

theorem at3_fut {D : World → World → Array Event → Prop} (G : GK K Shun Gp) (hnb : nb ≤ 9) (hQ : ∀ w d, Q w → Q (w.at d)) (hD : ∀ w w' es, D w w' es → DR K Shun (AnyS St (fun g => (Inb g).isSome)) h w w' es ∧ (Q w → Q w')) (hi : ∀ w d, D w (w.at d) #[]) (hl : ∀ w w' es es', D w w' es → (∀ e ∈ es', e ∈ es) → D w w' es') (hsh : Shuns D Gp.st) :
    Fut P (h == 0) D (At3 P Post K Q Shun St Inb Gp L nb h n dl) := by
  refine ⟨fun g w d x d' gs T q sl ds sg h1 h2 h3 h4 h5 => x d' gs T q sl ds sg h1 h2 h3 h4 (hQ (w.at d) w.drawn h5), hi, hl, fun g w hs hst => ?_⟩; refine At3.go G hnb hs hQ fun d hK hq => ?_
  obtain ⟨g', w', es, f1, f2, f3, f4⟩ := hst d; obtain ⟨r, rQ⟩ := hD _ _ _ f2; refine ⟨g', w', es, fun m => f4 _ _ hsh (G.row _ hK).1, r.keep hK, rQ hq, fun c cap k hc => r.chan c cap k hc, r.size, fun e he => (r.ev e he).1, ?_⟩; rw [deafBehind_still (fun e he => (r.ev e he).2)]; exact f3
end
end
end Go.Proofs.YtobagnjnbmgidaaGreatDoor
