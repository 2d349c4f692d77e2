/- From a walk's rules to the machine: 'At': whatever machine stands so goes on to a good end. -/
import Derived.Test.YtobagnjnbmgidaaGreatDoorZ1
import Derived.Conc.LeavingOf
import Derived.RunNT
set_option linter.unusedSimpArgs false
set_option linter.unusedVariables false
namespace Go.Proofs.YtobagnjnbmgidaaGreatDoor
section
open Go.Conc
open Go.ConcN (sumTo upd sumTo_upd upd_ne upd_same)

def Goal (P : Program) (Post : Value → World → Prop) (m : Machine) (T : Trace) : Prop :=
  ∃ N last o w' t', runNT P (N + 1) m T = (.ended o w', t') ∧ runN P N m = .next last ∧ step P last = .ended o w' ∧ Conc.Good P Post last o w' t'

theorem Goal.back {P : Program} {Post : Value → World → Prop} {N : Nat} {m m₁ : Machine} {T T₁ : Trace} (h : runNT P N m T = (.next m₁, T₁)) (g : Goal P Post m₁ T₁) : Goal P Post m T := by
  obtain ⟨M, last, o, w', t', h1, h2, h3, h4⟩ := g; have hN : runN P N m = .next m₁ := by rw [← runNT_fst P N m T, h]
  exact ⟨N + M, last, o, w', t', by rw [Nat.add_assoc, runNT_add, h]; exact h1, by rw [runN_add, hN]; exact h2, h3, h4⟩

section
variable {P : Program} {Post : Value → World → Prop} {K : World → Prop} {Shun Still : Loc → Prop} {B : Nat} {Mem : Nat → Prop} {Inb : Nat → Option Seat} {h n : Nat} {T : Trace} {gs : Array Goroutine} {w : World} {q : Nat → Nat} {a g : Goroutine}

def At (P : Program) (Post : Value → World → Prop) (K : World → Prop) (Shun Still : Loc → Prop) (Mem : Nat → Prop) (Inb : Nat → Option Seat) (h n : Nat) (g : Goroutine) (w : World) : Prop :=
  ∀ (d : Nat) (gs : Array Goroutine) (T : Trace) (q : Nat → Nat) (sl : Option (Nat × Nat)), gs.size = n → gs[h]? = some g → R2 P K Shun Still w.heap.size Mem Inb h T gs (w.at d) q → Goal P Post (crowd gs (w.at d) sl) T

theorem at_fut {D : World → World → Array Event → Prop} (hKat : ∀ w d, K w → K (w.at d)) (hD : ∀ w w' es, D w w' es → DR K Shun Still h w w' es) (hi : ∀ w d, D w (w.at d) #[]) (hl : ∀ w w' es es', D w w' es → (∀ e ∈ es', e ∈ es) → D w w' es') (hMem : Mem h) : Fut P (h == 0) D (At P Post K Shun Still Mem Inb h n) := by
  have hat : ∀ g w d, At P Post K Shun Still Mem Inb h n g w → At P Post K Shun Still Mem Inb h n g (w.at d) := fun g w d x d' => x d'
  refine ⟨hat, hi, hl, fun g w hs hst => ?_⟩; intro d gs T q sl hn hg C; have W : Walk P (h == 0) D (At P Post K Shun Still Mem Inb h n) g w := (walk_fut hi hl _).step g w hs fun d => (hst d).mono fun _ _ x => .stop fun d' => hat _ _ _ x
  obtain ⟨N, gs', a', w', sl', T', q', h1, h2, h3, h4, h5, h6⟩ := hold hKat hD (.inl hMem) ((walk_fut hi hl _).at' _ _ d W) gs T q sl hg C; exact Goal.back h1 (h4 w'.drawn gs' T' q' sl' (h2.trans hn) h3 h5)

theorem goes_still {main : Bool} {Still' : Loc → Prop} {s : Seat} (hS : ∀ l, Still l → Still' l) {n : Nat} {g : Goroutine} (x : Sits P main K Still B s n g) : Sits P main K Still' B s n g := by
  have ev : ∀ e, EvC Still B e → EvC Still' B e := fun e ⟨a, e1, e2, e3⟩ => ⟨a, e1, hS _ e2, e3⟩
  have at' : ∀ g g₂, AtIn P main K Still B s g g₂ → AtIn P main K Still' B s g g₂ := fun g g₂ ⟨h1, h2, h3, h4, h5, es, hes, hst⟩ => ⟨h1, h2, h3, h4, h5, es, fun e he => ev e (hes e he), hst⟩
  rcases x with ⟨k, w, e, hg⟩ | ⟨e, g₀, g₂, e2, hat⟩
  · exact .inl ⟨k, w, e, goes_weaken (fun _ _ _ ⟨d1, d2⟩ => ⟨d1, fun e he => ev e (d2 e he)⟩) (fun _ _ ⟨g₂, y⟩ => ⟨g₂, at' _ _ y⟩) hg⟩
  · exact .inr ⟨e, g₀, g₂, e2, at' _ _ hat⟩

def New (B : Nat) (l : Loc) : Prop := ∃ a : Addr, l = .cell a ∧ B ≤ a.block

theorem touch_low {t : Trace} {i : Nat} {x : Touch} (hs : ∀ op ∈ t, op.act.low B) (hx : touchAt t i = some x) (hn : New B x.loc) : False := by
  obtain ⟨op, hop, ht⟩ := touch_of hx; have hl := hs op (Array.mem_of_getElem? hop); obtain ⟨ad, e1, e2⟩ := hn; obtain ⟨g, fn, pos, act⟩ := op; cases act with
  | access e =>
    obtain ⟨loc, wr, sy⟩ := e; simp only [MemAct.touch?] at ht; simp only [MemAct.low] at hl
    have hx' : x.loc = loc := by
      revert ht
      cases loc <;> cases sy <;> simp <;> intro ht <;> rw [← ht]
    rw [hx'] at e1; subst e1; simp only [Loc.low] at hl; omega
  | mark m =>
    cases m <;> simp only [MemAct.touch?, reduceCtorEq, Option.some.injEq] at ht
    all_goals
      subst ht; simp only [MemAct.low] at hl; simp only [Loc.cell.injEq] at e1; subst e1; omega
  | _ => simp [MemAct.touch?] at ht
end
end
section
open Go.Conc
open Go.ConcN (sumTo upd sumTo_upd upd_ne upd_same)

section
variable {P : Program} {Post : Value → World → Prop} {K : World → Prop} {Shun Still : Loc → Prop} {B : Nat} {Mem : Nat → Prop} {Inb : Nat → Option Seat} {h n : Nat} {T : Trace} {gs : Array Goroutine} {w : World} {q : Nat → Nat} {a g : Goroutine}

theorem R2.grow {Shun' Still' : Loc → Prop} (C : R2 P K Shun Still B Mem Inb h T gs w q) (h1 : ∀ l, Still l → Still' l) (h2 : ∀ l, Still' l → Still l ∨ New B l) (h3 : ∀ l, Shun l → Shun' l) (h4 : ∀ l, Shun' l → Shun l ∨ New B l) : R2 P K Shun' Still' B Mem Inb h T gs w q := by
  have hs := C.past.seen; refine ⟨fun i g hi hg => ?_, C.chans, C.wf, C.live, C.inj, C.above, C.mem, C.nomem, C.lo, ⟨C.past.clean, fun i x hx hm => ?_, fun i x hx hw hS g hg => ?_, C.past.hears, hs⟩, C.keep⟩
  · have := C.idle i g hi hg
    cases e : Inb i with
    | none => rw [e] at this; exact this
    | some s => rw [e] at this; exact goes_still h1 this
  · refine (C.past.known i x hx hm).imp (fun ⟨x1, x2, x3⟩ => ⟨x1, x2.imp id fun ⟨b, y1, y2, y3, y4⟩ => ⟨b, y1, y2, h3 _ y3, y4⟩, fun b hb hsh => ?_⟩) fun ⟨x1, x2, x3⟩ => ⟨x1, h1 _ x2, x3⟩
    rcases h4 _ hsh with z | z
    · exact x3 b hb z
    · exact (touch_low hs hb z).elim
  · rcases h2 _ hS with z | z
    · exact C.past.wrote i x hx hw z g hg
    · exact (touch_low hs hx z).elim

theorem solo_past (C : Solo P K Shun B Mem T gs w q) (hd : Deaf T 0 = 0) : Past Shun B T := by
  have hk : ∀ i x, touchAt T i = some x → x.loc.isMemory = true → Acc Shun 0 T i := fun i x hx hm => (C.past.known i x hx hm).elim id fun z => z.2.1.elim
  refine ⟨C.past.clean, fun i x hx hm => ?_, fun i g hg hne hc => ?_, hd, C.past.seen⟩
  · refine (hk i x hx hm).2.1.imp id fun ⟨b, y1, y2, y3, _⟩ => ?_
    have : b = x := by rw [hx] at y1; exact (Option.some.inj y1).symm
    subst this; exact ⟨y3, y2⟩
  · obtain ⟨x, hx, hm, hor⟩ := hc
    rcases (hk i x hx hm).2.1 with ⟨j, z, hz, hz0, hb⟩ | ⟨b, y1, y2, _, y4⟩
    · rcases hb with rfl | hb
      · rw [g?_of hz, hz0] at hg
        exact absurd (Option.some.inj hg).symm hne
      · exact ⟨j, by rw [g?_of hz, hz0], hb⟩
    · have : b = x := by rw [show touchAt T i = some x from hx] at y1; exact (Option.some.inj y1).symm
      subst this; rcases hor with z | z
      · exact absurd y2 z
      · exact absurd z y4
theorem solo_leavers (C : Solo P K Shun B Mem T gs w q) : Leavers P T gs q := ⟨fun i g hi hg => (show 0 < i ∧ QuitsD P (q i) (Deaf T i) g from C.idle i g (fun z => by omega) hg).2, C.above⟩

theorem At.ends {v : Value} {es : Array Event} (hs : a.status = .running) (hMem : Mem 0) (hend : ∀ d, stepG P true a (w.at d) = .ended (.done v) (w.at d) es) (hes : ∀ e ∈ es, EvL Shun w.heap.size e) (hp : ∀ d, Post v (w.at d)) : At P Post K Shun (fun _ => False) Mem (fun _ => none) 0 n a w := by
  intro d gs T q sl hsz ha C; exact beside_ends (D := fun _ _ es => es = #[]) (Shun := Shun) (B := w.heap.size) (n := 0) (q := q) (fun _ _ es he => by subst he; intro e he; simp at he) ha (solo_leavers C) (solo_past C (C.past.hears 0 hMem)) (fun w₁ ⟨d', e⟩ => by subst e; exact ⟨hs, v, es, hend d', hes, hp d'⟩)

theorem goal_start (hK : K w) (hM : ∀ x, Mem x → x = 0) (hA : At P Post K Shun (fun _ => False) Mem (fun _ => none) 0 1 a w) : Goal P Post (solo a w) #[] := by
  have e : solo a w = crowd #[a] w none := rfl; rw [e]; refine hA w.drawn #[a] #[] (fun _ => 0) none rfl rfl ⟨fun i g hi hg => ?_, fun i s c _ e => (by cases e), fun i s e => (by cases e), fun _ _ z => z.elim, fun i i' s s' c e => (by cases e), fun j hj => ?_, fun i s e => (by cases e), fun i hi => .inr (hM i hi), fun i s _ e => (by cases e), ⟨fun said ⟨i, j, x⟩ => ?_, fun i x hx => ?_, fun i x hx => ?_, fun g _ => rfl, fun op hop => by simp at hop⟩, hK⟩
  · rcases i with _ | i
    · exact absurd rfl hi
    · simp at hg
  · rfl
  · obtain ⟨_, ⟨x, y, hx, _⟩, _⟩ := x
    simp [Trace.act?] at hx
  · simp [touchAt, Trace.act?] at hx
  · simp [touchAt, Trace.act?] at hx
end
end
section
open Go.Conc
open Go.ConcN (sumTo upd sumTo_upd upd_ne upd_same)

section
variable {P : Program} {Post : Value → World → Prop} {K : World → Prop} {Shun Still : Loc → Prop} {B : Nat} {Mem : Nat → Prop} {Inb : Nat → Option Seat} {h n : Nat} {T : Trace} {gs : Array Goroutine} {w : World} {q : Nat → Nat} {a g : Goroutine}

theorem At.keep {K' : World → Prop} (hK : ∀ d, K' (w.at d)) (hn : At P Post K' Shun (fun _ => False) Mem (fun _ => none) 0 n a w) : At P Post K Shun (fun _ => False) Mem (fun _ => none) 0 n a w :=
  fun d gs T q sl hsz ha C => hn d gs T q sl hsz ha (core_keep C (hK d))

theorem cell_chan {w : World} {c : Nat} {a : Addr} (h : c ≠ a.block) (cap : Nat) (buf : Array Value) (cl : Bool) (x y : Nat) (tm : Bool) : (w.setChan c cap buf cl x y tm).cell? a = w.cell? a ∧ (w.setChan c cap buf cl x y tm).frozen? a = w.frozen? a := by
  have e := heap_setChan_ne w cap buf cl x y tm h
  constructor
  · unfold World.cell?; rw [e]
  · unfold World.frozen?; rw [e]
theorem dx_dr {Ok : Addr → Bool → Prop} (hSt : ∀ ad, Still (.cell ad) → ¬ Ok ad true) (hSh : ∀ ad wr, Shun (.cell ad) → ¬ Ok ad wr) (hK : ∀ w w' es, DX Ok w w' es → K w → K w') (w w' : World) (es : Array Event) (D : DX Ok w w' es) : DR K Shun Still h w w' es := by
  refine ⟨hK _ _ _ D, fun c cap k hc => by rw [hc]; exact D.obj c _ hc (fun _ _ _ z => by cases z), D.size, fun e he => ?_⟩; rcases D.ev e he with ⟨ad, e1, _, e3, e4⟩ | rfl
  · obtain ⟨loc, wr, sy⟩ := e
    simp only at e1
    subst e1; refine ⟨⟨fun x hx => ?_, e4⟩, by simp, by simp⟩
    have hx' : (⟨.cell ad, wr, if sy then .atomic else .plain⟩ : Touch) = x := by
      cases sy <;> simpa [MemAct.ofEvent, MemAct.touch?] using hx
    subst hx'; refine ⟨fun z => ?_, fun z => absurd e3 (hSh ad wr z)⟩; cases wr
    · rfl
    · exact absurd e3 (hSt ad z)
  · refine ⟨⟨fun x hx => ?_, ?_⟩, by simp [noRoomEvent], by simp [noRoomEvent]⟩
    · simp [noRoomEvent, MemAct.ofEvent, MemAct.touch?] at hx
    · simp [noRoomEvent, MemAct.ofEvent, MemAct.low]
end
end
section
open Go.Conc
open Go.ConcN (sumTo upd sumTo_upd upd_ne upd_same)

structure QF (P : Program) (main : Bool) (K : World → Prop) (Ev : Event → Prop) (Ψ : Goroutine → Prop) : Prop where
  step : ∀ g g', g.status = .running → (∀ w, K w → ∃ es, stepG P main g w = .go g' w es ∧ ∀ e ∈ es, Ev e) → Ψ g' → Ψ g

section
variable {P : Program} {main : Bool} {K : World → Prop} {Ev : Event → Prop} {Ψ : Goroutine → Prop} {b : Frame} {a A : Act} {k : List Item} {cs : List Frame} {ops : Array Oper} {i : Nat} {rest : List Nat} {o : Oper}

theorem QF.ctl (F : QF P main K Ev Ψ) {fr fr' : Frame} {cs cs' : List Frame} (h : ∀ w, stepG P main (G fr cs) w = .go (G fr' cs') w #[]) (hk : Ψ (G fr' cs')) : Ψ (G fr cs) :=
  F.step _ _ rfl (fun w _ => ⟨#[], h w, fun e he => by simp at he⟩) hk

theorem QF.op (F : QF P main K Ev Ψ) (ho : ops[i]? = some o) (hw : Region.wanted o (yielded ops a.tmps) = true) (hk : b.kind ≠ .early) (he : ∀ w, K w → ∀ e ∈ (execOp a.eval o).events P w #[], Ev e)
    (h : ∀ w, K w → uponK o a (fun a' w' => w' = w ∧ a' = A) ((execOp a.eval o).run P w)) (hn : Ψ (G (b.at A (.inRegion ops rest :: k)) cs)) : Ψ (G (b.at a (.inRegion ops (i :: rest) :: k)) cs) := by
  refine F.step _ _ rfl (fun w hK => ⟨listed P b.fn a o w, ?_, fun e hm => he w hK e (Go.Conc.mem_listed hm)⟩) hn; have := goes_oper_k (P := P) (main := main) (k := k) (cs := cs) (rest := rest) (K := fun g' w' es => g' = G (b.at A (.inRegion ops rest :: k)) cs ∧ w' = w ∧ es = listed P b.fn a o w) ho hw hk (fun K' hK' => uponK_mono (fun a' w' x => by obtain ⟨rfl, rfl⟩ := x; exact hK' _ _ ⟨rfl, rfl, rfl⟩) (h w hK))
  revert this
  cases stepG P main (G (b.at a (.inRegion ops (i :: rest) :: k)) cs) w <;> intro this
  case go g' w' es => rw [goes_go] at this; obtain ⟨rfl, rfl, rfl⟩ := this; rfl
  all_goals exact this.elim

theorem QF.opq (F : QF P main K Ev Ψ) (ho : ops[i]? = some o) (hw : Region.wanted o (yielded ops a.tmps) = true) (hk : b.kind ≠ .early) (he : ∀ w, K w → (execOp a.eval o).events P w #[] = #[])
    (h : ∀ w, K w → uponK o a (fun a' w' => w' = w ∧ a' = A) ((execOp a.eval o).run P w)) (hn : Ψ (G (b.at A (.inRegion ops rest :: k)) cs)) : Ψ (G (b.at a (.inRegion ops (i :: rest) :: k)) cs) :=
  F.op ho hw hk (fun w hK e hm => by rw [he w hK] at hm; simp at hm) h hn

theorem QF.unwanted (F : QF P main K Ev Ψ) (ho : ops[i]? = some o) (hw : Region.wanted o (yielded ops a.tmps) = false) (h : Ψ (G (b.at (a.put o.dst undef) (.inRegion ops rest :: k)) cs)) : Ψ (G (b.at a (.inRegion ops (i :: rest) :: k)) cs) :=
  F.ctl (fun _ => stepG_unwanted ho hw) h

theorem QF.oq (F : QF P main K Ev Ψ) (ho : ops[i]? = some o) (hw : Region.wanted o (yielded ops a.tmps) = true) (hk : late b = true) (he : ∀ w, K w → (execOp a.eval o).events P w #[] = #[])
    (h : ∀ w, K w → uponK o a (fun a' w' => w' = w ∧ a' = A) ((execOp a.eval o).run P w)) (hn : Ψ (G (b.at A (.inRegion ops rest :: k)) cs)) : Ψ (G (b.at a (.inRegion ops (i :: rest) :: k)) cs) := F.opq ho hw (not_early hk) he h hn
theorem QF.re (F : QF P main K Ev Ψ) {ops : Array Oper} (h : Ψ (G (b.at a (k)) cs)) : Ψ (G (b.at a (.inRegion ops [] :: k)) cs) := F.ctl (fun _ => stepG_region_end) h
theorem QF.sq (F : QF P main K Ev Ψ) {x y : Code} (h : Ψ (G (b.at a (.code x :: .code y :: k)) cs)) : Ψ (G (b.at a (.code (.seq x y) :: k)) cs) := F.ctl (fun _ => stepG_seq) h
theorem QF.rr (F : QF P main K Ev Ψ) {id : Nat} {l : List Oper} (h : Ψ (G (b.at a (.inRegion l.toArray (rg l 0) :: k)) cs)) : Ψ (G (b.at a (.code (.region id l.toArray false) :: k)) cs) := F.ctl (fun _ => stepG_region) (by rw [rg_range]; exact h)
theorem QF.sr (F : QF P main K Ev Ψ) {id : Nat} {l : List Oper} {y : Code} (h : Ψ (G (b.at a (.inRegion l.toArray (rg l 0) :: .code y :: k)) cs)) : Ψ (G (b.at a (.code (.seq (.region id l.toArray false) y) :: k)) cs) := F.sq (F.rr h)
theorem QF.es (F : QF P main K Ev Ψ) {ops : Array Oper} {x y : Code} (h : Ψ (G (b.at a (.code x :: .code y :: k)) cs)) : Ψ (G (b.at a (.inRegion ops [] :: .code (.seq x y) :: k)) cs) := F.re (F.sq h)
theorem QF.er (F : QF P main K Ev Ψ) {ops : Array Oper} {id : Nat} {l : List Oper} (h : Ψ (G (b.at a (.inRegion l.toArray (rg l 0) :: k)) cs)) : Ψ (G (b.at a (.inRegion ops [] :: .code (.region id l.toArray false) :: k)) cs) := F.re (F.rr h)
theorem QF.esr (F : QF P main K Ev Ψ) {ops : Array Oper} {id : Nat} {l : List Oper} {y : Code} (h : Ψ (G (b.at a (.inRegion l.toArray (rg l 0) :: .code y :: k)) cs)) : Ψ (G (b.at a (.inRegion ops [] :: .code (.seq (.region id l.toArray false) y) :: k)) cs) := F.re (F.sr h)
theorem QF.cf (F : QF P main K Ev Ψ) {c : Operand} {x y : Code} (e : a.eval c = .bool false) (h : Ψ (G (b.at a (.code y :: k)) cs)) : Ψ (G (b.at a (.code (.cond c x y) :: k)) cs) := F.ctl (fun _ => stepG_cond (t := false) e) h
theorem QF.ct (F : QF P main K Ev Ψ) {c : Operand} {x y : Code} (e : a.eval c = .bool true) (h : Ψ (G (b.at a (.code x :: k)) cs)) : Ψ (G (b.at a (.code (.cond c x y) :: k)) cs) := F.ctl (fun _ => stepG_cond (t := true) e) h
theorem QF.sk (F : QF P main K Ev Ψ) (h : Ψ (G (b.at a (k)) cs)) : Ψ (G (b.at a (.code .skip :: k)) cs) := F.ctl (fun _ => stepG_skip) h
theorem QF.bl (F : QF P main K Ev Ψ) {id : Nat} {c : Code} (h : Ψ (G (b.at a (.code c :: .inBlock id :: k)) cs)) : Ψ (G (b.at a (.code (.block id c) :: k)) cs) := F.ctl (fun _ => stepG_block) h
theorem QF.ib (F : QF P main K Ev Ψ) {id : Nat} (h : Ψ (G (b.at a (k)) cs)) : Ψ (G (b.at a (.inBlock id :: k)) cs) := F.ctl (fun _ => stepG_inBlock) h

theorem QF.enter (F : QF P main K Ev Ψ) {f : FuncId} {args : Array Value} (ho : ops[i]? = some o) (hw : Region.wanted o (yielded ops a.tmps) = true) (hk : b.kind ≠ .early)
    (hr : ∀ w, (execOp a.eval o).run P w = .ok (.enter f args) w) (he : ∀ w, (execOp a.eval o).events P w #[] = #[])
    (h : Ψ (G (Frame.enter P f args .normal) (b.at a (.inRegion ops (i :: rest) :: k) :: cs))) : Ψ (G (b.at a (.inRegion ops (i :: rest) :: k)) cs) :=
  F.ctl (fun w => by rw [stepG_enter ho hw hk (hr w), listed_nil (he w)]) h

theorem QF.leave (F : QF P main K Ev Ψ) {fn : Func} {todo : List Item} {c : Frame} {v : Value} (hn : b.kind = .normal) (hd : a.defers = []) (hf : P.funcs[b.fn]? = some fn) (hr : ResultsC P fn a.tmps v)
    (h : Ψ (G (c.finish v) cs)) : Ψ (G { b.at a todo with mode := .returning } (c :: cs)) :=
  F.ctl (fun w => by rw [stepG_leave hn hd hf (hr _).1 (hr _).2]) h
end

section
variable {P : Program} {K : World → Prop} {Shun Still : Loc → Prop} {B : Nat} {Gp : Grp} {Anchor : Goroutine → Prop}

theorem qf_quits (d : Nat) : QF P false (fun _ => True) (fun _ => False) (fun g => ∃ n, QuitsD P n d g) :=
  ⟨fun g g' hs h ⟨n, hn⟩ => ⟨n + 1, .inr ⟨hs, g', #[], fun e he => by simp at he, fun w => by obtain ⟨es, e1, e2⟩ := h w trivial; rw [e1, Array.eq_empty_iff_forall_not_mem.2 fun e he => e2 e he], hn⟩⟩⟩
theorem qf_seat (main : Bool) (s : Seat) (w : World) : QF P main K (EvC Still B) (fun g => ∃ n, Goes P main (RK K) (DS Still B) (fun g _ => ∃ g₂, AtIn P main K Still B s g g₂) n g w) :=
  ⟨fun g g' hs h ⟨n, hn⟩ => ⟨n + 1, .inr ⟨hs, fun w₁ hw => by obtain ⟨es, e1, e2⟩ := h w₁ hw; rw [e1]; exact ⟨⟨rfl, e2⟩, Goes.rely (fun _ _ _ _ x => x) hn hw⟩⟩⟩⟩
end
end
section
open Go.Conc
open Go.ConcN (sumTo upd sumTo_upd upd_ne upd_same)

def KL (l : List (Addr × Value)) (cc : List Nat) (w : World) : Prop := (∀ p ∈ l, w.cell? p.1 = some p.2) ∧ ∀ c ∈ cc, ∃ k, w.heap[c]? = some (.chan 0 #[] false k k false)
def StL (l : List (Addr × Value)) (x : Loc) : Prop := ∃ p ∈ l, x = .cell p.1

section
variable {l : List (Addr × Value)} {cc : List Nat} {w w' : World} {es : Array Event}
theorem kl_dx {Ok : Addr → Bool → Prop} (hn : ∀ p ∈ l, ¬ Ok p.1 true) : ∀ w w' es, DX Ok w w' es → KL l cc w → KL l cc w' := fun w w' es D h =>
  ⟨fun p hp => by rw [(D.cell p.1 (hn p hp) (lt_of_cell (h.1 p hp))).1]; exact h.1 p hp, fun c hc => by obtain ⟨k, hk⟩ := h.2 c hc; exact ⟨k, D.obj c _ hk (fun _ _ _ z => by cases z)⟩⟩
theorem kl_chan {c k : Nat} (hne : ∀ p ∈ l, c ≠ p.1.block) (hc : c ∈ cc) (h : KL l cc w) : KL l cc (w.setChan c 0 #[] false k k false) := by
  refine ⟨fun p hp => by rw [(cell_chan (hne p hp) ..).1]; exact h.1 p hp, fun c' hc' => ?_⟩
  by_cases e : c = c'
  · subst e
    obtain ⟨k', hk'⟩ := h.2 c hc; exact ⟨k, heap_setChan_self w hk' _ _ _ _ _ _⟩
  · obtain ⟨k', hk'⟩ := h.2 c' hc'
    exact ⟨k', by rw [heap_setChan_ne w _ _ _ _ _ _ e]; exact hk'⟩
theorem kl_sub {l' : List (Addr × Value)} {cc' : List Nat} (h1 : ∀ p ∈ l', p ∈ l) (h2 : ∀ c ∈ cc', c ∈ cc) (h : KL l cc w) : KL l' cc' w := ⟨fun p hp => h.1 p (h1 p hp), fun c hc => h.2 c (h2 c hc)⟩
theorem kl_cons {a : Addr} {v : Value} (h1 : w.cell? a = some v) (h : KL l cc w) : KL ((a, v) :: l) cc w := ⟨fun p hp => by rcases List.mem_cons.1 hp with rfl | hp; exact h1; exact h.1 p hp, h.2⟩
theorem stl_mem {x : Loc} (h : StL l x) : x.isMemory = true := by obtain ⟨p, _, rfl⟩ := h; rfl
end

section
variable {P : Program} {D : World → World → Array Event → Prop} {Ψ : Goroutine → World → Prop} {main : Bool} {K : World → Prop} {Ev : Event → Prop} {Φ : Goroutine → Prop}
abbrev CF (P : Program) (main : Bool) (Φ : Goroutine → Prop) : Prop := QF P main (fun _ => True) (fun _ => False) Φ
theorem cf_fut (F : Fut P main D Ψ) (w : World) : CF P main (fun g => Ψ g w) :=
  ⟨fun g g' hs h hn => F.step g w hs fun d => by
    have e : ∀ w, stepG P main g w = .go g' w #[] := fun w => by
      obtain ⟨es, e1, e2⟩ := h w trivial; rw [e1, Array.eq_empty_iff_forall_not_mem.2 fun e he => e2 e he]
    exact ⟨_, _, _, e _, F.idle _ _, F.at' _ _ _ hn, fun _ _ _ _ => e _⟩⟩
theorem cf_qf (F : QF P main K Ev Φ) : CF P main Φ := ⟨fun g g' hs h hn => F.step g g' hs (fun w _ => by obtain ⟨es, e1, e2⟩ := h w trivial; exact ⟨es, e1, fun e he => (e2 e he).elim⟩) hn⟩
end
end
end Go.Proofs.YtobagnjnbmgidaaGreatDoor
