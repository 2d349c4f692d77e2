/- A run of the agenda with several tasks: what is fixed, what has come about. -/
import Derived.Test.YtobagnjnbmgidaaGreatDoorV14
import Derived.Test.YtobagnjnbmgidaaGreatDoorM10
set_option linter.unusedSimpArgs false
set_option linter.unusedVariables false
set_option maxRecDepth 100000
namespace Go.Proofs.YtobagnjnbmgidaaGreatDoor
section
open Go.Conc Go.RowKit
open Go.ConcN (sumTo upd sumTo_upd upd_ne upd_same)

/-- What is fixed. -/
structure Rn where
  wI : World
  l : List Nat
  n : Nat
  A : Nat
  J : Nat
  O : Nat
  bo : Nat
  bl : Nat
  B : Nat
  HD : Nat
  wch : Nat
  ech : Nat
  N : Nat
  N1 : Nat
  T : Nat → Nat
  tch : Nat → Nat
  bi : Nat → Nat
  ba : Nat → Nat
  bt : Nat → Nat
  bw : Nat → Nat
  k0 : Nat → Int
  k1 : Nat → Int
  k2 : Nat → Int
  s0 : Nat → Int
  wR : World
  en0 : Value
  cR : Frame
  csR : List Frame

/-- A client's blocks. -/
def Rn.cb (R : Rn) (j : Nat) : List Nat := [R.T j, R.tch j, R.bi j, R.ba j, R.bt j, R.bw j]
def Rn.gb (R : Rn) : List Nat := [R.J, R.B, R.HD, R.bl, R.O, R.bo, R.A, R.wch, R.ech]
/-- The cells that are a client's alone. -/
def Rn.own0 (R : Rn) (j : Nat) (a : Addr) : Prop := a ∈ outC R.O j ∨ a = ⟨R.HD, j, none⟩ ∨ a = ⟨R.T j, 7, none⟩
/-- The cells that stand from the beginning on. -/
def Rn.UG (R : Rn) (a : Addr) : Prop := R.wI.heap.size ≤ a.block ∧ a.block < R.N ∧ a.block ∉ rowL R.en0 ∧ a.block ≠ R.J ∧ a.block ≠ R.O ∧ a.block ≠ R.HD ∧ (a.block = R.A → a.off = 3 ∨ a.off = 4 ∨ a.off = 6) ∧ ∀ j, j < R.n → a ≠ ⟨R.T j, 7, none⟩
def Rn.st0 (R : Rn) : List (Addr × Value) := (⟨R.A, 3, none⟩, .chan (some R.wch)) :: (⟨R.A, 4, none⟩, .chan (some R.ech)) :: (List.range R.n).map fun j => (⟨R.T j, 3, none⟩, .chan (some (R.tch j)))
def Rn.cc (R : Rn) : List Nat := R.wch :: R.ech :: (List.range R.n).map R.tch

structure RnOk (R : Rn) : Prop where
  hA : R.A ∈ R.l
  l0 : ∀ A ∈ R.l, A ≠ R.A → A < R.wI.heap.size
  l1 : R.N1 ≤ R.N
  n9 : R.n ≤ 9
  i0 : 0 < R.wI.heap.size
  gl : ∀ b ∈ R.gb, R.wI.heap.size ≤ b ∧ b < R.N1
  gne : R.J < R.HD ∧ R.HD < R.B ∧ R.B < R.bl ∧ R.bl < R.O ∧ R.O < R.bo ∧ R.bo < R.wch ∧ R.bo < R.ech ∧ R.wch < R.A ∧ R.ech < R.A
  gne2 : R.wch ≠ R.ech
  en1 : ∀ g ∈ rowL R.en0, R.N1 ≤ g
  cl : ∀ j, j < R.n → ∀ b ∈ R.cb j, R.N1 ≤ b ∧ b < R.N ∧ b ∉ rowL R.en0
  cnd : ∀ j, j < R.n → (R.cb j).Nodup
  cdj : ∀ i, i < R.n → ∀ j, j < R.n → i ≠ j → ∀ b ∈ R.cb i, b ∉ R.cb j
  size : R.wR.heap.size = R.N
  vB1 : R.wR.cell? ⟨R.B, 1, none⟩ = some (.int .i64 (-1))
  vB2 : R.wR.cell? ⟨R.B, 2, none⟩ = some (.pointer (some ⟨R.J, 0, none⟩))
  vbo : R.wR.cell? ⟨R.bo, 0, none⟩ = some (.slice (some ⟨R.O, 0, none⟩) R.n R.n)
  vbl : R.wR.cell? ⟨R.bl, 0, none⟩ = some (.iface 138 (.pointer (some ⟨R.B, 0, none⟩)))
  vG : R.wI.cell? ⟨0, 0, none⟩ = some (.iface 217 (.agg #[.pointer (some ⟨1, 121, none⟩)]))
  vT0 : ∀ j, j < R.n → R.wR.cell? ⟨R.T j, 0, none⟩ = some (.pointer (some ⟨R.A, 0, none⟩))
  vT2 : ∀ j, j < R.n → R.wR.cell? ⟨R.T j, 2, none⟩ = some (.int .i64 (j : Int))
  vT3 : ∀ j, j < R.n → R.wR.cell? ⟨R.T j, 3, none⟩ = some (.chan (some (R.tch j)))
  vT7 : ∀ j, j < R.n → R.wR.cell? ⟨R.T j, 7, none⟩ = some (.bool false) ∧ R.wR.frozen? ⟨R.T j, 7, none⟩ = false
  vbi : ∀ j, j < R.n → R.wR.cell? ⟨R.bi j, 0, none⟩ = some (.int .i64 (j : Int))
  vba : ∀ j, j < R.n → R.wR.cell? ⟨R.ba j, 0, none⟩ = some (.pointer (some ⟨R.A, 0, none⟩))
  vbt : ∀ j, j < R.n → R.wR.cell? ⟨R.bt j, 0, none⟩ = some (.pointer (some ⟨R.T j, 0, none⟩))
  vbw : ∀ j, j < R.n → R.wR.cell? ⟨R.bw j, 0, none⟩ = some (.func (.func 37) #[] #[.pointer (some ⟨R.bl, 0, none⟩), .pointer (some ⟨R.bo, 0, none⟩), .pointer (some ⟨R.bi j, 0, none⟩)])
  vA3 : R.wR.cell? ⟨R.A, 3, none⟩ = some (.chan (some R.wch))
  vA4 : R.wR.cell? ⟨R.A, 4, none⟩ = some (.chan (some R.ech))
  vA6 : Num .u32 ⟨R.A, 6, none⟩ R.wR 0
  vO : ∀ j, j < R.n → OutAt R.wR R.O j 0 0 0 none 0 0 ∧ ∀ x ∈ outC R.O j, R.wR.frozen? x = false
  vH : ∀ j, j < R.n → R.wR.cell? ⟨R.HD, j, none⟩ = some (.int .i64 0) ∧ R.wR.frozen? ⟨R.HD, j, none⟩ = false
  kd : ∀ j, j < R.n → (R.k0 j = 1 ∨ R.k0 j = 2 ∨ R.k0 j = 3 ∨ R.k0 j = 4) ∧ 0 ≤ R.k2 j ∧ IntKind.i64.wrap (R.s0 j + R.k2 j) = R.s0 j + R.k2 j
  nx : ∀ j, j < R.n → ∀ (Ok : Addr → Bool → Prop) (w : World), (∀ a, ¬ ShL R.l (.cell a) → Ok a false) → Ok ⟨R.HD, j, none⟩ true → (∀ (a : Addr) (wr : Bool), w.heap.size ≤ a.block → Ok a wr) → (∀ a v, R.wI.cell? a = some v → w.cell? a = some v) → (∀ a v, a.block = R.B → R.wR.cell? a = some v → w.cell? a = some v) → R.N ≤ w.heap.size → w.cell? ⟨R.HD, j, none⟩ = some (.int .i64 0) → w.frozen? ⟨R.HD, j, none⟩ = false →
    CallsX Tryz.prog false (DX Ok) 147 #[.pointer (some ⟨R.B, 0, none⟩), .int .i64 (j : Int)] w fun v w' => v = .tuple #[.int .i64 0, .agg #[.int .i64 (R.k0 j), .int .i64 (R.k1 j), .int .i64 (R.k2 j)]] ∧ Kp [] w w' [⟨R.HD, j, none⟩] ∧ w'.cell? ⟨R.HD, j, none⟩ = some (.int .i64 1) ∧ w'.frozen? ⟨R.HD, j, none⟩ = false

/-- A task that waits: its goroutine, its wait, until when, where it goes on; where its own memory begins, two of its boxes, the rows and the world as it began to wait. -/
structure Pk where
  κ : Nat
  x : Nat
  t : Int
  c : Frame
  cs : List Frame
  M0 : Nat
  X : Nat
  bt : Nat
  bg : Nat
  enp : Value
  evp : Value
  wp : World
def Pk.U (R : Rn) (j : Nat) (q : Pk) (a : Addr) : Prop := R.own0 j a ∨ a = ⟨q.X, 0, none⟩ ∨ a = ⟨q.bt, 0, none⟩ ∨ (q.M0 ≤ a.block ∧ a.block < q.wp.heap.size ∧ a.block ∉ rowL q.enp ∧ a.block ∉ rowL q.evp ∧ a.block ≠ q.x)
/-- How far a client's task has come. -/
abbrev TSt := Option (Pk ⊕ (Nat ⊕ (List Nat × World)))
abbrev TSt.fresh : TSt := none
abbrev TSt.parked (q : Pk) : TSt := some (.inl q)
abbrev TSt.live (κ : Nat) : TSt := some (.inr (.inl κ))
abbrev TSt.ended (gc : List Nat) (wp : World) : TSt := some (.inr (.inr (gc, wp)))
theorem TSt.parked.inj {q q' : Pk} (h : TSt.parked q = TSt.parked q') : q = q' := by cases h; rfl
theorem TSt.any : ∀ s : TSt, s = .fresh ∨ (∃ q, s = .parked q) ∨ (∃ k, s = .live k) ∨ ∃ u v, s = .ended u v
  | none => .inl rfl
  | some (.inl q) => .inr (.inl ⟨q, rfl⟩)
  | some (.inr (.inl k)) => .inr (.inr (.inl ⟨k, rfl⟩))
  | some (.inr (.inr (u, v))) => .inr (.inr (.inr ⟨u, v, rfl⟩))
/-- Its own cells, apart from its wait's. -/
def TSt.U (R : Rn) (j : Nat) : TSt → Addr → Prop
  | none => R.own0 j
  | some (.inl q) => q.U R j
  | some (.inr (.inl _)) => fun _ => False
  | some (.inr (.inr (gc, _))) => fun a => a ∈ outC R.O j ∨ a.block ∈ gc
/-- .. those among them that it may turn again. -/
def TSt.V : TSt → Addr → Prop
  | some (.inl q) => fun a => q.M0 ≤ a.block ∧ a.block < q.wp.heap.size ∧ a.block ∉ rowL q.enp ∧ a.block ∉ rowL q.evp ∧ a.block ≠ q.x
  | _ => fun _ => False
def TSt.own (R : Rn) (j : Nat) : TSt → Addr → Prop
  | some (.inl q) => fun a => q.U R j a ∨ a = ⟨q.x, 1, none⟩
  | s => TSt.U R j s
def TSt.ref (R : Rn) : TSt → World
  | some (.inl q) => q.wp
  | some (.inr (.inr (_, wp))) => wp
  | _ => R.wR
def TSt.wt : TSt → Nat
  | none => 2
  | some (.inl _) => 1
  | _ => 0
def TSt.fr : TSt → Nat
  | none => 1
  | _ => 0
def TSt.pk : TSt → Nat
  | some (.inl _) => 1
  | _ => 0
def TSt.lv : TSt → Bool
  | some (.inr (.inl _)) => true
  | _ => false

/-- What has come about. -/
structure Gs where
  st : List (Addr × Value)
  ng : Nat
  L : Nat
  nb : Nat
  Inb : Nat → Option Seat
  St : Nat → Loc → Prop
  tk : Nat → TSt
  js : List Nat

def Gs.wt (σ : Gs) : Nat := (σ.js.map fun j => (σ.tk j).wt).sum
def Gs.fr (σ : Gs) : Nat := (σ.js.map fun j => (σ.tk j).fr).sum
def Gs.pk (σ : Gs) : Nat := (σ.js.map fun j => (σ.tk j).pk).sum
/-- A task's entry. -/
def ent (R : Rn) (tk : Nat → TSt) (j : Nat) : Int × Value :=
  match tk j with
  | some (.inl q) => wakeE q.t q.x
  | _ => (R.s0 j, .func (.func 50) #[] #[.pointer (some ⟨R.ba j, 0, none⟩), .pointer (some ⟨R.bt j, 0, none⟩), .pointer (some ⟨R.bw j, 0, none⟩)])

def Keeps (U : Addr → Prop) (w w' : World) : Prop := ∀ a v, U a → w.cell? a = some v → w'.cell? a = some v ∧ w'.frozen? a = w.frozen? a
def QG (R : Rn) (tk : Nat → TSt) (w : World) : Prop := Keeps R.UG R.wR w ∧ ∀ j, j < R.n → Keeps ((tk j).own R j) ((tk j).ref R) w
def OkG (R : Rn) (st : List (Addr × Value)) (tk : Nat → TSt) (a : Addr) (wr : Bool) : Prop := ¬ ShL R.l (.cell a) ∧ (wr = true → R.wI.heap.size ≤ a.block ∧ ¬ StL st (.cell a) ∧ ¬ R.UG a ∧ ∀ j, j < R.n → ¬ (tk j).own R j a)
def KG (R : Rn) (st : List (Addr × Value)) (w : World) : Prop := Old R.wI w ∧ KL st R.cc w ∧ (∃ v, w.cell? ⟨R.A, 5, none⟩ = some v) ∧ w.frozen? ⟨R.A, 5, none⟩ = false ∧ ∃ v, w.cell? ⟨R.A, 6, none⟩ = some v

section
variable {R : Rn} {Post : Value → World → Prop} {st : List (Addr × Value)} {tk : Nat → TSt} {w w' : World} {es : Array Event} {U : Addr → Prop}
theorem Keeps.refl (U : Addr → Prop) (w : World) : Keeps U w w := fun a v _ h => ⟨h, rfl⟩
theorem Keeps.dx {Ok : Addr → Bool → Prop} {wp : World} (h : Keeps U wp w) (hn : ∀ a, U a → ¬ Ok a true) (D : DX Ok w w' es) : Keeps U wp w' := fun a v u hv => by
  obtain ⟨x1, x2⟩ := h a v u hv; obtain ⟨y1, y2⟩ := D.cell a (hn a u) (lt_of_cell x1); exact ⟨y1.trans x1, y2.trans x2⟩
theorem Keeps.kp {wp : World} {L : List Nat} {C : List Addr} (h : Keeps U wp w) (k : Kp L w w' C) (hL : ∀ a, U a → a.block ∉ L ∧ a ∉ C) : Keeps U wp w' := fun a v u hv => by
  obtain ⟨x1, x2⟩ := h a v u hv; exact ⟨k.cellC _ _ (hL a u).1 (hL a u).2 x1, (k.frozC _ _ (hL a u).1 (hL a u).2 x1).trans x2⟩
theorem Keeps.sub {U' : Addr → Prop} {wp : World} (h : Keeps U wp w) (hs : ∀ a, U' a → U a) : Keeps U' wp w := fun a v u hv => h a v (hs a u) hv
theorem Kp.chan {w : World} {c k x y : Nat} {cap : Nat} {buf : Array Value} {cl tm : Bool} (hc : w.heap[c]? = some (.chan 0 #[] false k k false)) : Kp [] w (w.setChan c cap buf cl x y tm) := by
  have hne : ∀ (a : Addr) (v : Value), w.cell? a = some v → c ≠ a.block := fun a v h e => by subst e; simp [World.cell?, hc] at h
  exact ⟨Nat.le_of_eq (by simp [World.setChan]), fun a v _ _ h => ((cell_chan (hne a v h) ..).1).trans h, fun a v _ _ h => (cell_chan (hne a v h) ..).2, fun b c' t f _ _ h => by
    by_cases e : c = b
    · subst e; rw [hc] at h; cases h
    · rw [heap_setChan_ne w _ _ _ _ _ _ e]; exact h⟩

theorem qg_at : ∀ w d, QG R tk w → QG R tk (w.at d) := fun _ _ h => h
theorem qg_dx (D : DX (OkG R st tk) w w' es) (h : QG R tk w) : QG R tk w' :=
  ⟨h.1.dx (fun a u o => (o.2 rfl).2.2.1 u) D, fun j hj => (h.2 j hj).dx (fun a u o => (o.2 rfl).2.2.2 j hj u) D⟩
theorem RnOk.a5 (H : RnOk R) : ShL R.l (.cell ⟨R.A, 5, none⟩) := ⟨R.A, H.hA, .inl rfl⟩
theorem RnOk.a6 (H : RnOk R) : ShL R.l (.cell ⟨R.A, 6, none⟩) := ⟨R.A, H.hA, .inr rfl⟩
theorem RnOk.iA (H : RnOk R) : R.wI.heap.size ≤ R.A ∧ R.A < R.N1 := H.gl _ (by simp [Rn.gb])
theorem kg_dx (H : RnOk R) (D : DX (OkG R st tk) w w' es) (h : KG R st w) : KG R st w' := by
  have n5 : ¬ OkG R st tk ⟨R.A, 5, none⟩ true := fun o => o.1 H.a5
  have n6 : ¬ OkG R st tk ⟨R.A, 6, none⟩ true := fun o => o.1 H.a6
  obtain ⟨h1, h2, ⟨v, h3⟩, h4, v6, h5⟩ := h; obtain ⟨y1, y2⟩ := D.cell _ n5 (lt_of_cell h3); obtain ⟨y3, y4⟩ := D.cell _ n6 (lt_of_cell h5); exact ⟨old_dx (fun a o => (o.2 rfl).1) _ _ _ D h1, kl_dx (fun p hp o => (o.2 rfl).2.1 ⟨p, hp, rfl⟩) _ _ _ D h2, ⟨v, y1.trans h3⟩, y2.trans h4, v6, y3.trans h5⟩
theorem setO_chan {z : Addr} {v : Value} {o : Obj} {cap k : Nat} : setO z v o = .chan cap #[] false k k false ↔ o = .chan cap #[] false k k false := by
  cases o <;> simp [setO]
theorem chan_set_iff {z : Addr} {v : Value} {c cap k : Nat} : (w.setCell z v).heap[c]? = some (.chan cap #[] false k k false) ↔ w.heap[c]? = some (.chan cap #[] false k k false) := by
  rw [heap_set]
  split
  · cases w.heap[c]? with
    | none => simp
    | some o => simp [setO_chan]
  · exact Iff.rfl
theorem cell_set_iff {z : Addr} {v : Value} (hs : z.spot = none) : (∃ u, (w.setCell z v).cell? z = some u) ↔ ∃ u, w.cell? z = some u := by
  constructor
  · rintro ⟨u, hu⟩
    unfold World.cell? at hu; rw [heap_set, if_pos rfl] at hu; unfold World.cell?; cases hb : w.heap[z.block]? with
    | none => rw [hb] at hu; simp at hu
    | some o =>
      rw [hb] at hu; cases o <;> simp [setO, hs] at hu ⊢
      case cells c el f => 
        rw [Array.getElem?_setIfInBounds] at hu
        simp at hu
        exact ⟨c[z.off]'(hu.1), Array.getElem?_eq_getElem hu.1⟩
  · rintro ⟨u, hu⟩
    exact ⟨v, World.cell?_setCell_same _ _ _ hu⟩
theorem kl_set_iff {cc : List Nat} {z : Addr} {v : Value} (hz : ∀ p ∈ st, p.1 ≠ z) : KL st cc (w.setCell z v) ↔ KL st cc w := by
  constructor
  · rintro ⟨h1, h2⟩
    exact ⟨fun p hp => (World.cell?_setCell_other _ _ _ _ (hz p hp).symm).symm.trans (h1 p hp), fun c hc => by obtain ⟨k, hk⟩ := h2 c hc; exact ⟨k, chan_set_iff.1 hk⟩⟩
  · rintro ⟨h1, h2⟩
    exact ⟨fun p hp => (World.cell?_setCell_other _ _ _ _ (hz p hp).symm).trans (h1 p hp), fun c hc => by obtain ⟨k, hk⟩ := h2 c hc; exact ⟨k, chan_set_iff.2 hk⟩⟩
theorem old_set_iff {wI : World} {z : Addr} {v : Value} (hz : wI.heap.size ≤ z.block) : Old wI (w.setCell z v) ↔ Old wI w := by
  constructor
  · rintro ⟨h1, h2, h3, h4, h5⟩
    refine ⟨h1, h2, h3, by simpa [World.setCell] using h4, fun k hk => ?_⟩; have := h5 k hk; rw [heap_set, if_neg (by omega)] at this; exact this
  · exact old_set hz
theorem kg_gk (H : RnOk R) (hz : ∀ p ∈ st, p.1 ≠ ⟨R.A, 5, none⟩) : GK (KG R st) (ShL R.l) (grp R.A) := by
  refine ⟨fun w d h => h, fun w v => ?_, fun w h => ?_, H.a5⟩
  · show KG R st (w.setCell ⟨R.A, 5, none⟩ v) ↔ _
    unfold KG; rw [old_set_iff (z := ⟨R.A, 5, none⟩) H.iA.1, kl_set_iff (z := ⟨R.A, 5, none⟩) hz, cell_set_iff (z := ⟨R.A, 5, none⟩) rfl, World.frozen?_setCell]; rw [World.cell?_setCell_other _ _ _ _ (by simp)]
  · refine ⟨?_, h.2.2.1, h.2.2.2.1⟩
    obtain ⟨v, hv⟩ := h.2.2.1
    show RowC w R.A
    unfold World.cell? at hv; unfold RowC
    split at hv
    · exact ⟨_, _, _, by assumption⟩
    · cases hv
theorem shunsG (H : RnOk R) : Shuns (DX (OkG R st tk)) ⟨R.A, 5, none⟩ := fun w w' es D e he hl => by
  rcases D.ev e he with ⟨a, e1, _, e3, _⟩ | rfl
  · rw [e1] at hl
    cases hl
    exact e3.1 H.a5
  · cases hl

theorem futG (H : RnOk R) {Inb : Nat → Option Seat} {St : Nat → Loc → Prop} {L nb n dl : Nat} (hnb : nb ≤ 9) (hz : ∀ p ∈ st, p.1 ≠ ⟨R.A, 5, none⟩) (hS : ∀ g l, (Inb g).isSome → St g l → StL st l) (h : Nat) :
    Fut Tryz.prog (h == 0) (DX (OkG R st tk)) (At3 Tryz.prog Post (KG R st) (QG R tk) (ShL R.l) St Inb (grp R.A) L nb h n dl) :=
  at3_fut (kg_gk H hz) hnb qg_at (fun w w' es D => ⟨dx_dr (fun ad ⟨g, h1, h2⟩ o => (o.2 rfl).2.1 (hS g _ h1 h2)) (fun ad wr z o => o.1 z) (fun w w' es D => kg_dx H D) w w' es D, qg_dx D⟩) DX.idle dx_less (shunsG H)
end
end
section
open Go.Conc Go.RowKit
open Go.ConcN (sumTo upd sumTo_upd upd_ne upd_same)

/-- The task's seat. -/
def HomeC (c : Frame) (cs : List Frame) (g : Goroutine) : Prop := ∀ Φ, CF Tryz.prog false Φ → Φ (G (c.finish (.int .i64 1)) cs) → Φ (Go.Conc.served g (.int .i64 1))
def seat1 (tch : Nat) (c : Frame) (cs : List Frame) : Seat := Seat.one tch (.int .i64 0) false (HomeC c cs)

/-- An outcome, as it is to be. -/
def OutV (kd nn t : Int) (gc : List Nat) (w : World) (v : Value) : Prop :=
  (kd = 1 ∧ v = .agg #[.int .i64 t, .int .i64 1, .int .i64 nn, .slice none 0 0]) ∨
  ((kd = 2 ∨ kd = 3) ∧ ∃ g cap, v = .agg #[.int .i64 t, .int .i64 2, .int .i64 0, .slice (some ⟨g, 0, none⟩) 1 cap] ∧ g ∈ gc ∧ ChAt w g [.int .i64 (kd - 1), .int .i64 (-1), .int .i64 nn]) ∨
  (kd = 4 ∧ v = .agg #[.int .i64 t, .int .i64 3, .int .i64 nn, .slice none 0 0])
def EndJ (R : Rn) (j : Nat) (gc : List Nat) (wp : World) : Prop := ∃ a b c x k cap, OutAt wp R.O j a b c x k cap ∧ OutV (R.k0 j) (R.k1 j) (R.s0 j + R.k2 j) gc wp (.agg #[.int .i64 a, .int .i64 b, .int .i64 c, .slice x k cap])

/-- What holds of what has come about; M: all of it is older. -/
structure Good (R : Rn) (σ : Gs) (M : Nat) : Prop where
  sub : ∀ p ∈ R.st0, p ∈ σ.st
  st : ∀ p ∈ σ.st, (p.1.off = 0 ∨ p.1.off = 3 ∨ p.1.off = 4) ∧ R.wI.heap.size ≤ p.1.block ∧ p.1.block < M ∧ (p ∈ R.st0 ∨ R.N ≤ p.1.block)
  N : R.N ≤ M
  ow : ∀ j, j < R.n → ∀ a, (σ.tk j).U R j a → (R.own0 j a ∨ R.N ≤ a.block) ∧ a.block < M
  dj : ∀ i, i < R.n → ∀ j, j < R.n → i ≠ j → ∀ a b, (σ.tk i).U R i a → (σ.tk j).U R j b → R.N ≤ a.block → a.block ≠ b.block
  su : ∀ p ∈ σ.st, ∀ j, j < R.n → ∀ a, (σ.tk j).V a → a.block ≠ p.1.block
  xu : ∀ i, i < R.n → ∀ q, σ.tk i = .parked q → ∀ j, j < R.n → ∀ a, (σ.tk j).U R j a → a.block ≠ q.x
  pk : ∀ j, j < R.n → ∀ q, σ.tk j = .parked q → (⟨q.x, 0, none⟩, .pointer (some ⟨R.T j, 0, none⟩)) ∈ σ.st ∧ R.N ≤ q.x ∧ σ.Inb q.κ = some (seat1 (R.tch j) q.c q.cs) ∧ 0 < q.κ ∧ q.κ < σ.ng ∧ R.N ≤ q.M0 ∧ q.M0 ≤ q.wp.heap.size ∧ (R.N ≤ q.X ∧ q.X < q.M0) ∧ (R.N ≤ q.bt ∧ q.bt < q.M0) ∧ Old R.wI q.wp ∧ Keeps R.UG R.wR q.wp ∧ q.wp.heap.size ≤ M ∧ (q.wp.cell? ⟨q.x, 1, none⟩ = some (.int .i64 0) ∧ q.wp.frozen? ⟨q.x, 1, none⟩ = false) ∧ (q.wp.cell? ⟨R.T j, 7, none⟩ = some (.bool false) ∧ q.wp.frozen? ⟨R.T j, 7, none⟩ = false) ∧ (⟨q.bg, 0, none⟩, .pointer (some ⟨R.A, 5, none⟩)) ∈ σ.st
  px : ∀ i, i < R.n → ∀ j, j < R.n → i ≠ j → ∀ q q', σ.tk i = .parked q → σ.tk j = .parked q' → q.x ≠ q'.x ∧ q.κ ≠ q'.κ
  inb : ∀ g s, σ.Inb g = some s → g ≠ 0 → ∃ j q, j < R.n ∧ σ.tk j = .parked q ∧ q.κ = g
  stl : ∀ g l, (σ.Inb g).isSome → σ.St g l → StL σ.st l
  nodup : σ.js.Nodup
  mem : ∀ j, j ∈ σ.js ↔ j < R.n ∧ 0 < (σ.tk j).wt
  nb9 : σ.nb + σ.fr ≤ 9
  ng0 : 0 < σ.ng
  en : ∀ j, j < R.n → ∀ gc wp, σ.tk j = .ended gc wp → EndJ R j gc wp

/-- The world at the loop's head. -/
structure HeadW (R : Rn) (σ : Gs) (w : World) (en ev : Value) (m : List Value) : Prop where
  a0 : ∃ v, w.cell? ⟨R.A, 0, none⟩ = some v
  z0 : w.frozen? ⟨R.A, 0, none⟩ = false
  a1 : w.cell? ⟨R.A, 1, none⟩ = some en
  z1 : w.frozen? ⟨R.A, 1, none⟩ = false
  j0 : w.cell? ⟨R.J, 0, none⟩ = some ev
  zj : w.frozen? ⟨R.J, 0, none⟩ = false
  ent : Ents R.N1 w en (σ.js.map (ent R σ.tk))
  row : ∃ k, k * 5 = m.length ∧ w.ownsRow R.N 55 5 ev k m
  sep : ∀ g ∈ rowL ev, g ∉ rowL en
  rok : ∀ (a : Addr) (wr : Bool), a.block ∈ rowL en ∨ a.block ∈ rowL ev → OkG R σ.st σ.tk a wr
  cnt : m.length + 5 * σ.wt = 10 * R.n
  last : ∀ gc wp, R.n = 1 → σ.tk 0 = .ended gc wp → ∃ m0, m = m0 ++ evc (R.s0 0 + R.k2 0) 0 (-1) 2 0
  N : R.N ≤ w.heap.size

/-- A task's surroundings. -/
def eT (R : Rn) (i M0 X bt : Nat) : Tk := { N := R.N, N1 := R.N1, N2 := M0, A := R.A, T := R.T i, J := R.J, wch := R.wch, ech := R.ech, tch := R.tch i, cl := i, sb := fun g => g ∈ 0 :: R.gb ++ R.cb i ++ [X, bt], ro := fun a => ¬ ShL R.l (.cell a), rw := fun a => a ∈ outC R.O i }
def StT (R : Rn) (i X bt : Nat) (a : Addr) : Prop := a = ⟨0, 0, none⟩ ∨ a ∈ [(⟨R.B, 1, none⟩ : Addr), ⟨R.B, 2, none⟩, ⟨R.bo, 0, none⟩, ⟨R.bl, 0, none⟩, ⟨R.bi i, 0, none⟩] ∨ a ∈ outC R.O i ∨ a = ⟨X, 0, none⟩ ∨ a = ⟨bt, 0, none⟩

section
variable {R : Rn} {σ : Gs} {M i κ M0 X bt : Nat} {tk1 : Nat → TSt} {w : World}

theorem RnOk.gb' (H : RnOk R) : (R.wI.heap.size ≤ R.J ∧ R.J < R.N1) ∧ (R.wI.heap.size ≤ R.B ∧ R.B < R.N1) ∧ (R.wI.heap.size ≤ R.HD ∧ R.HD < R.N1) ∧ (R.wI.heap.size ≤ R.bl ∧ R.bl < R.N1) ∧ (R.wI.heap.size ≤ R.O ∧ R.O < R.N1) ∧ (R.wI.heap.size ≤ R.bo ∧ R.bo < R.N1) ∧ (R.wI.heap.size ≤ R.A ∧ R.A < R.N1) ∧ (R.wI.heap.size ≤ R.wch ∧ R.wch < R.N1) ∧ (R.wI.heap.size ≤ R.ech ∧ R.ech < R.N1) := by
  refine ⟨H.gl _ ?_, H.gl _ ?_, H.gl _ ?_, H.gl _ ?_, H.gl _ ?_, H.gl _ ?_, H.gl _ ?_, H.gl _ ?_, H.gl _ ?_⟩ <;> simp [Rn.gb]
theorem RnOk.cb' (H : RnOk R) {j : Nat} (hj : j < R.n) : (R.N1 ≤ R.T j ∧ R.T j < R.N) ∧ (R.N1 ≤ R.tch j ∧ R.tch j < R.N) ∧ (R.N1 ≤ R.bi j ∧ R.bi j < R.N) ∧ (R.N1 ≤ R.ba j ∧ R.ba j < R.N) ∧ (R.N1 ≤ R.bt j ∧ R.bt j < R.N) ∧ (R.N1 ≤ R.bw j ∧ R.bw j < R.N) := by
  have h := fun b hb => H.cl j hj b hb
  exact ⟨⟨(h (R.T j) (by simp [Rn.cb])).1, (h (R.T j) (by simp [Rn.cb])).2.1⟩, ⟨(h (R.tch j) (by simp [Rn.cb])).1, (h (R.tch j) (by simp [Rn.cb])).2.1⟩, ⟨(h (R.bi j) (by simp [Rn.cb])).1, (h (R.bi j) (by simp [Rn.cb])).2.1⟩, ⟨(h (R.ba j) (by simp [Rn.cb])).1, (h (R.ba j) (by simp [Rn.cb])).2.1⟩, ⟨(h (R.bt j) (by simp [Rn.cb])).1, (h (R.bt j) (by simp [Rn.cb])).2.1⟩, ⟨(h (R.bw j) (by simp [Rn.cb])).1, (h (R.bw j) (by simp [Rn.cb])).2.1⟩⟩
theorem RnOk.Tinj (H : RnOk R) {i j : Nat} (hi : i < R.n) (hj : j < R.n) (h : i ≠ j) : R.T i ≠ R.T j := fun e => H.cdj i hi j hj h (R.T i) (by simp [Rn.cb]) (by rw [e]; simp [Rn.cb])
theorem RnOk.ce (H : RnOk R) {j : Nat} (hj : j < R.n) : R.T j ≠ R.tch j ∧ R.T j ≠ R.bi j ∧ R.T j ≠ R.ba j ∧ R.T j ≠ R.bt j ∧ R.T j ≠ R.bw j := by
  have := H.cnd j hj; simp [Rn.cb] at this; omega
theorem RnOk.Tother (H : RnOk R) {i j : Nat} (hi : i < R.n) (hj : j < R.n) {b : Nat} (hb : b ∈ R.cb i) (hne : b ≠ R.T i) : b ≠ R.T j := fun e => by
  by_cases h : i = j
  · subst h; exact hne e
  · exact H.cdj i hi j hj h b hb (by rw [e]; simp [Rn.cb])
theorem sh_off {l : List Nat} {b o : Nat} (h5 : o ≠ 5) (h6 : o ≠ 6) : ¬ ShL l (.cell ⟨b, o, none⟩) := fun ⟨A, _, z⟩ => by rcases z with z | z <;> simp at z <;> omega
theorem sh_blk (H : RnOk R) {a : Addr} (h : R.wI.heap.size ≤ a.block) (hA : a.block ≠ R.A) : ¬ ShL R.l (.cell a) := fun ⟨A, hl, z⟩ => by
  have hb : a.block = A := by rcases z with z | z <;> (simp at z; rw [z])
  by_cases e : A = R.A
  · exact hA (hb.trans e)
  · have := H.l0 A hl e; omega
theorem ug_of (H : RnOk R) {a : Addr} (h : R.wI.heap.size ≤ a.block) (hN : a.block < R.N1) (h1 : a.block ≠ R.J) (h2 : a.block ≠ R.O) (h3 : a.block ≠ R.HD) (h4 : a.block = R.A → a.off = 3 ∨ a.off = 4) : R.UG a :=
  ⟨h, Nat.lt_of_lt_of_le hN H.l1, fun z => by have := H.en1 _ z; omega, h1, h2, h3, fun z => (h4 z).imp id .inl, fun j hj e => by have := (H.cb' hj).1; rw [e] at hN; dsimp only at hN; omega⟩

theorem ug_cb (H : RnOk R) {j : Nat} (hj : j < R.n) {b o : Nat} (hb : b ∈ R.cb j) (ho : b = R.T j → o ≠ 7) : R.UG ⟨b, o, none⟩ := by
  have h := H.cl j hj b hb; have hg := H.gb'; have hn := H.gne; refine ⟨by show _ ≤ b; omega, h.2.1, h.2.2, by show b ≠ _; omega, by show b ≠ _; omega, by show b ≠ _; omega, fun z => by have z' : b = R.A := z; omega, fun i hi e => ?_⟩; have e1 : b = R.T i := congrArg Addr.block e; have e2 : o = 7 := congrArg Addr.off e
  by_cases hbT : b = R.T j
  · exact ho hbT e2
  · exact H.Tother hj hi hb hbT e1
theorem rok_cb (H : RnOk R) {j : Nat} (hj : j < R.n) {st : List (Addr × Value)} {tk : Nat → TSt} {v : Value} (rok : ∀ a : Addr, a.block ∈ rowL v → OkG R st tk a true) : ∀ b ∈ R.cb j, b ∉ rowL v := fun b hb z => ((rok ⟨b, 0, none⟩ z).2 rfl).2.2.1 (ug_cb H hj hb (fun _ => by decide))

theorem st0_blk {p : Addr × Value} (hp : p ∈ R.st0) : (p.1.block = R.A ∧ (p.1.off = 3 ∨ p.1.off = 4)) ∨ ∃ j, j < R.n ∧ p.1 = ⟨R.T j, 3, none⟩ := by
  simp only [Rn.st0, List.mem_cons, List.mem_map, List.mem_range] at hp; rcases hp with rfl | rfl | ⟨j, hj, rfl⟩
  · exact .inl ⟨rfl, .inl rfl⟩
  · exact .inl ⟨rfl, .inr rfl⟩
  · exact .inr ⟨j, hj, rfl⟩
theorem Good.a5 (g : Good R σ M) : ∀ p ∈ σ.st, p.1 ≠ ⟨R.A, 5, none⟩ := fun p hp e => by
  have := (g.st p hp).1; rw [e] at this
  simp at this
theorem Good.okw (H : RnOk R) (g : Good R σ M) (h1 : tk1 i = .live κ) (h2 : ∀ j, j ≠ i → tk1 j = σ.tk j) {a : Addr} (hN : a.block < R.N) (hI : R.wI.heap.size ≤ a.block) (h5 : ¬ ShL R.l (.cell a)) (h0 : ∀ p ∈ R.st0, p.1 ≠ a) (hu : ¬ R.UG a) (ho : ∀ j, j < R.n → j ≠ i → ¬ R.own0 j a) (wr : Bool) : OkG R σ.st tk1 a wr := by
  refine ⟨h5, fun _ => ⟨hI, fun ⟨p, hp, e⟩ => ?_, hu, fun j hj o => ?_⟩⟩
  · simp only [Loc.cell.injEq] at e
    rcases (g.st p hp).2.2.2 with z | z
    · exact h0 p z e.symm
    · rw [← e] at z; omega
  · by_cases hji : j = i
    · subst hji; rw [h1] at o; exact o
    · rw [h2 j hji] at o
      have hU : ∀ b, (σ.tk j).U R j b → b = a → False := fun b hb e => by
        subst e; rcases (g.ow j hj _ hb).1 with z | z
        · exact ho j hj hji z
        · omega
      rcases TSt.any (σ.tk j) with e | ⟨q, e⟩ | ⟨k, e⟩ | ⟨u, v, e⟩
      · rw [e] at o hU; exact hU a o rfl
      · rw [e] at o hU
        rcases o with o | o
        · exact hU a o rfl
        · have := (g.pk j hj q e).2.1; rw [o] at hN; dsimp only at hN; omega
      · rw [e] at o; exact o
      · rw [e] at o hU; exact hU a o rfl
theorem Good.okn (H : RnOk R) (g : Good R σ M) (h1 : tk1 i = .live κ) (h2 : ∀ j, j ≠ i → tk1 j = σ.tk j) {a : Addr} (hM : M ≤ a.block) (wr : Bool) : OkG R σ.st tk1 a wr := by
  have hN := g.N; have hA := H.iA; have hl := H.l1; refine ⟨sh_blk H (by omega) (by omega), fun _ => ⟨by omega, fun ⟨p, hp, e⟩ => ?_, fun u => by have := u.2.1; omega, fun j hj o => ?_⟩⟩
  · simp only [Loc.cell.injEq] at e
    have := (g.st p hp).2.2.1; rw [← e] at this; omega
  · by_cases hji : j = i
    · subst hji; rw [h1] at o; exact o
    · rw [h2 j hji] at o
      have hU : ∀ b, (σ.tk j).U R j b → b = a → False := fun b hb e => by
        subst e; have := (g.ow j hj _ hb).2; omega
      rcases TSt.any (σ.tk j) with e | ⟨q, e⟩ | ⟨k, e⟩ | ⟨u, v, e⟩
      · rw [e] at o hU; exact hU a o rfl
      · rw [e] at o hU
        rcases o with o | o
        · exact hU a o rfl
        · have := (g.st _ (g.pk j hj q e).1).2.2.1; rw [o] at hM; dsimp only at hM this; omega
      · rw [e] at o; exact o
      · rw [e] at o hU; exact hU a o rfl

theorem out_blk {O j : Nat} {a : Addr} (h : a ∈ outC O j) : a.block = O ∧ j * 4 ≤ a.off ∧ a.off < j * 4 + 4 := by
  simp [outC] at h; rcases h with rfl | rfl | rfl | rfl <;> simp
theorem Good.tok (H : RnOk R) (g : Good R σ M) (hi : i < R.n) (h1 : tk1 i = .live κ) (h2 : ∀ j, j ≠ i → tk1 j = σ.tk j) (hM : R.N ≤ M0) (hX : R.N ≤ X ∧ X < M0) (hb : R.N ≤ bt ∧ bt < M0) : TOk (eT R i M0 X bt) M (OkG R σ.st tk1) := by
  have hg := H.gb'; have hn := H.gne; have hc := H.cb' hi; have hl := H.l1; have i0 := H.i0; have nT : ∀ j, j < R.n → R.N1 ≤ R.T j := fun j hj => (H.cb' hj).1.1
  exact { lA := by show R.A < R.N; omega
          lT := by show R.T i < R.N; omega
          lJ := by show R.J < R.N; omega
          nAT := by show R.A ≠ R.T i; omega
          nAJ := by show R.A ≠ R.J; omega
          nTJ := by show R.T i ≠ R.J; omega
          t0 := ⟨sh_off (by decide) (by decide), fun h => by cases h⟩
          t2 := ⟨sh_off (by decide) (by decide), fun h => by cases h⟩
          t3 := ⟨sh_off (by decide) (by decide), fun h => by cases h⟩
          t7w := g.okw H h1 h2 (by show R.T i < R.N; omega) (by show _ ≤ R.T i; omega) (sh_off (by decide) (by decide)) (fun p hp e => by
            rcases st0_blk hp with ⟨_, z⟩ | ⟨j, _, z⟩
            · rw [e] at z; simp [eT] at z
            · rw [e] at z; simp [eT] at z) (fun u => u.2.2.2.2.2.2.2 i hi rfl) (fun j hj hji o => by
            have := nT j hj; rcases o with o | o | o
            · have := (out_blk o).1; simp only [eT] at this; omega
            · simp only [eT, Addr.mk.injEq] at o; omega
            · simp only [eT, Addr.mk.injEq] at o; exact H.Tinj hi hj (Ne.symm hji) o.1) true
          a0 := ⟨sh_off (by decide) (by decide), fun h => by cases h⟩
          a1 := ⟨sh_off (by decide) (by decide), fun h => by cases h⟩
          a1w := g.okw H h1 h2 (by show R.A < R.N; omega) (by show _ ≤ R.A; omega) (sh_off (by decide) (by decide)) (fun p hp e => by
            rcases st0_blk hp with ⟨_, z⟩ | ⟨j, _, z⟩
            · rw [e] at z; simp [eT] at z
            · rw [e] at z; simp [eT] at z) (fun u => by have := u.2.2.2.2.2.2.1 rfl; simp [eT] at this) (fun j hj hji o => by
            have := nT j hj; rcases o with o | o | o
            · have := (out_blk o).1; simp only [eT] at this; omega
            · simp only [eT, Addr.mk.injEq] at o; omega
            · simp only [eT, Addr.mk.injEq] at o; omega) true
          a3 := ⟨sh_off (by decide) (by decide), fun h => by cases h⟩
          a4 := ⟨sh_off (by decide) (by decide), fun h => by cases h⟩
          j0 := ⟨sh_off (by decide) (by decide), fun h => by cases h⟩
          j0w := g.okw H h1 h2 (by show R.J < R.N; omega) (by show _ ≤ R.J; omega) (sh_off (by decide) (by decide)) (fun p hp e => by
            rcases st0_blk hp with ⟨_, z⟩ | ⟨j, _, z⟩
            · rw [e] at z; simp [eT] at z
            · rw [e] at z; simp [eT] at z) (fun u => u.2.2.2.1 rfl) (fun j hj hji o => by
            have := nT j hj; rcases o with o | o | o
            · have e1 : R.J = R.O := (out_blk o).1; omega
            · have e1 : R.J = R.HD := congrArg Addr.block o; omega
            · have e1 : R.J = R.T j := congrArg Addr.block o; omega) true
          fr := fun a wr h => g.okn H h1 h2 h wr
          l1 := hl
          lA1 := by show R.A < R.N1; omega
          lJ1 := by show R.J < R.N1; omega
          sA := by show R.A ∈ _; simp [Rn.gb]
          sT := by show R.T i ∈ _; simp [Rn.cb]
          sJ := by show R.J ∈ _; simp [Rn.gb]
          sN := fun b hb' => by
            show b < M0
            have hb2 : b ∈ 0 :: R.gb ++ R.cb i ++ [X, bt] := hb'; simp only [List.cons_append, List.mem_cons, List.mem_append, List.not_mem_nil, or_false] at hb2; rcases hb2 with rfl | (hb2 | hb2) | rfl | rfl
            · omega
            · have := H.gl b hb2; omega
            · have := H.cl i hi b hb2; omega
            · omega
            · omega
          l2 := hM
          st := fun a ha => ⟨ha, fun h => by cases h⟩
          sw := fun a wr ha => by
            have ha' : a ∈ outC R.O i := ha; obtain ⟨e1, e2, e3⟩ := out_blk ha'; refine g.okw H h1 h2 (by omega) (by omega) (sh_blk H (by omega) (by omega)) (fun p hp e => ?_) (fun u => u.2.2.2.2.1 e1) (fun j hj hji o => ?_) wr
            · rcases st0_blk hp with ⟨z, _⟩ | ⟨j, hj, z⟩
              · rw [e] at z; omega
              · have := nT j hj; rw [e] at z; rw [z] at e1; dsimp only at e1; omega
            · have := nT j hj
              rcases o with o | o | o
              · have := (out_blk o); omega
              · rw [o] at e1; dsimp only at e1; omega
              · rw [o] at e1; dsimp only at e1; omega }

theorem Good.tw (H : RnOk R) (g : Good R σ M) (hi : i < R.n) {t : Int} {en ev : Value} {es : List (Int × Value)} {m : List Value} {Ok : Addr → Bool → Prop} (hU : Keeps R.UG R.wR w) (hN : R.N ≤ w.heap.size) (hM : M0 ≤ w.heap.size) (h7 : w.cell? ⟨R.T i, 7, none⟩ = some (.bool false) ∧ w.frozen? ⟨R.T i, 7, none⟩ = false)
    (a0 : w.cell? ⟨R.A, 0, none⟩ = some (.int .i64 t)) (z0 : w.frozen? ⟨R.A, 0, none⟩ = false) (a1 : w.cell? ⟨R.A, 1, none⟩ = some en) (z1 : w.frozen? ⟨R.A, 1, none⟩ = false) (j0 : w.cell? ⟨R.J, 0, none⟩ = some ev) (zj : w.frozen? ⟨R.J, 0, none⟩ = false) (he : Ents R.N1 w en es) (row : ∃ k, k * 5 = m.length ∧ w.ownsRow R.N 55 5 ev k m) (sep : ∀ g ∈ rowL ev, g ∉ rowL en)
    (rok : ∀ (a : Addr) (wr : Bool), a.block ∈ rowL en ∨ a.block ∈ rowL ev → Ok a wr) (nU : ∀ b ∈ R.cb i, b ∉ rowL en) (nX : X ∉ rowL en ∧ X ∉ rowL ev) (nb : bt ∉ rowL en ∧ bt ∉ rowL ev) : TW (eT R i M0 X bt) Ok w t en ev es m := by
  have hg := H.gb'; have hn := H.gne; have hc := H.cb' hi; have hl := H.l1; have i0 := H.i0; have hT : ∀ o, o ≠ 7 → R.UG ⟨R.T i, o, none⟩ := fun o ho => ⟨by show _ ≤ R.T i; omega, hc.1.2, (H.cl i hi _ (by simp [Rn.cb])).2.2, by show R.T i ≠ _; omega, by show R.T i ≠ _; omega, by show R.T i ≠ _; omega, fun z => by have z' : R.T i = R.A := z; omega, fun j hj e => ho (congrArg Addr.off e)⟩
  have hA : ∀ o, o = 3 ∨ o = 4 → R.UG ⟨R.A, o, none⟩ := fun o ho => ug_of H (by show _ ≤ R.A; omega) (by show R.A < _; omega) (by show R.A ≠ _; omega) (by show R.A ≠ _; omega) (by show R.A ≠ _; omega) (fun _ => ho)
  have hbad : ∀ b, b ∈ 0 :: R.gb ++ R.cb i ++ [X, bt] → b < R.N1 ∨ (b ∈ R.cb i) ∨ b = X ∨ b = bt := fun b hb2 => by
    simp only [List.cons_append, List.mem_cons, List.mem_append, List.not_mem_nil, or_false] at hb2; rcases hb2 with rfl | (hb2 | hb2) | rfl | rfl
    · left; omega
    · left; exact (H.gl b hb2).2
    · exact .inr (.inl hb2)
    · exact .inr (.inr (.inl rfl))
    · exact .inr (.inr (.inr rfl))
  exact { size := hN
          size2 := hM
          t0 := (hU _ _ (hT 0 (by decide)) (H.vT0 i hi)).1
          t2 := (hU _ _ (hT 2 (by decide)) (H.vT2 i hi)).1
          t3 := (hU _ _ (hT 3 (by decide)) (H.vT3 i hi)).1
          t7 := h7.1
          z7 := h7.2
          a0 := a0
          za0 := z0
          a1 := a1
          z1 := z1
          a3 := (hU _ _ (hA 3 (.inl rfl)) H.vA3).1
          a4 := (hU _ _ (hA 4 (.inr rfl)) H.vA4).1
          j0 := j0
          zj := zj
          row := row
          ent := he
          enS := fun b hb z => by
            have hb1 := (he.lt (mem_rowL.1 hb)).1; rcases hbad b z with y | y | rfl | rfl
            · omega
            · exact nU b y hb
            · exact nX.1 hb
            · exact nb.1 hb
          evS := fun b hb z => by
            obtain ⟨k, _, hr⟩ := row; have hb1 := (row_ge hr hb).1; rcases hbad b z with y | y | rfl | rfl
            · omega
            · have := H.cl i hi b y; omega
            · exact nX.2 hb
            · exact nb.2 hb
          sep := sep
          rok := rok }
end
end
section
open Go.Conc Go.RowKit
open Go.ConcN (sumTo upd sumTo_upd upd_ne upd_same)

abbrev AtG (R : Rn) (Post : Value → World → Prop) (σ : Gs) (h : Nat) : Goroutine → World → Prop := At3 Tryz.prog Post (KG R σ.st) (QG R σ.tk) (ShL R.l) σ.St σ.Inb (grp R.A) σ.L σ.nb h σ.ng 0

structure CohP (R : Rn) (i κ bg X bt M0 : Nat) (p : Ph Gs) : Prop where
  ok : p.Ok = OkG R p.σ.st p.σ.tk
  good : Good R p.σ p.M
  lv : p.σ.tk i = .live κ
  oth : ∀ j, j < R.n → j ≠ i → (p.σ.tk j).lv = false
  es : p.es = p.σ.js.map (ent R p.σ.tk)
  cn : p.cn + (if p.sd then 1 else 2) + p.σ.wt = 2 * R.n
  i0 : p.σ.Inb 0 = some (seat0 R.wch R.ech (HomeA R.A R.wch R.ech (R.cR :: R.csR)))
  κ0 : 0 < κ
  κn : κ < p.σ.ng
  κp : ∀ j, j < R.n → ∀ q, p.σ.tk j = .parked q → q.κ ≠ κ
  L : p.σ.L = p.σ.pk + 1
  bg : (⟨bg, 0, none⟩, .pointer (some ⟨R.A, 5, none⟩)) ∈ p.σ.st
  bx : ∀ j, j < R.n → j ≠ i → ∀ a, (p.σ.tk j).U R j a → a.block ≠ X ∧ a.block ≠ bt
  xx : ∀ j, j < R.n → ∀ q, p.σ.tk j = .parked q → q.x ≠ X ∧ q.x ≠ bt
  bN : (R.N ≤ X ∧ X < M0) ∧ (R.N ≤ bt ∧ bt < M0)
  sM : p.sd = false → p.M ≤ M0

/-- What a task that waits finds when it is woken. -/
structure RelyT (R : Rn) (j : Nat) (q : Pk) (p' : Ph Gs) (w' : World) (en' ev' : Value) (m' : List Value) : Prop where
  ok : TOk (eT R j q.M0 q.X q.bt) p'.M p'.Ok
  tw : TW (eT R j q.M0 q.X q.bt) p'.Ok w' q.t en' ev' p'.es m'
  cnt : m'.length = 5 * p'.cn
  sz : p'.M ≤ w'.heap.size
  e9 : p'.es.length < 900
  c9 : p'.cn < 900
  row : ∀ a, StT R j q.X q.bt a → a.block ∉ rowL en' ∧ a.block ∉ rowL ev'
  temp : ∀ b, b ≠ q.x → q.M0 ≤ b → b < q.wp.heap.size → b ∉ rowL q.enp → b ∉ rowL q.evp → (∀ i v, q.wp.cell? ⟨b, i, none⟩ = some v → w'.cell? ⟨b, i, none⟩ = some v ∧ w'.frozen? ⟨b, i, none⟩ = q.wp.frozen? ⟨b, i, none⟩) ∧ b ∉ rowL en' ∧ b ∉ rowL ev' ∧ ∀ (a : Addr) (wr : Bool), a.block = b → p'.Ok a wr
  stat : ∀ a v, StT R j q.X q.bt a → q.wp.cell? a = some v → w'.cell? a = some v ∧ w'.frozen? a = q.wp.frozen? a
  size : q.wp.heap.size ≤ w'.heap.size

/-- It goes on, as long as no more than Λ is left. -/
def Res (R : Rn) (Post : Value → World → Prop) : Nat → Nat → Pk → Prop
  | 0, _, _ => True
  | Λ + 1, j, q => Res R Post Λ j q ∧ ∀ (p' : Ph Gs) (w' : World) (en' ev' : Value) (m' : List Value), p'.sd = true → p'.σ.wt = Λ → CohP R j q.κ q.bg q.X q.bt q.M0 p' → (∀ j', j' < R.n → ∀ q', p'.σ.tk j' = .parked q' → Res R Post Λ j' q') → RelyT R j q p' w' en' ev' m' → AtG R Post p'.σ q.κ (G (q.c.finish (.int .i64 1)) q.cs) w'
theorem Res.mono {R : Rn} {Post : Value → World → Prop} {j : Nat} {q : Pk} : ∀ {Λ' Λ : Nat}, Λ ≤ Λ' → Res R Post Λ' j q → Res R Post Λ j q
  | 0, Λ, h, x => by obtain rfl : Λ = 0 := by omega
                     exact x
  | Λ' + 1, Λ, h, x => by
    by_cases e : Λ = Λ' + 1
    · subst e; exact x
    · exact Res.mono (by omega) x.1

def lc (p : Ph Gs) : Nat := p.σ.wt + (if p.sd then 0 else 1)
/-- A task's future. -/
def PsiT (R : Rn) (Post : Value → World → Prop) (Λ i κ bg X bt M0 : Nat) (p : Ph Gs) (g : Goroutine) (w : World) : Prop :=
  CohP R i κ bg X bt M0 p → lc p < Λ → (∀ j', j' < R.n → ∀ q', p.σ.tk j' = .parked q' → Res R Post (lc p) j' q') → AtG R Post p.σ κ g w
/-- The loop's head. -/
def HeadAll (R : Rn) (Post : Value → World → Prop) (ν : Nat) : Prop := ∀ (σ : Gs) (w : World) (en ev : Value) (m : List Value) (g : Goroutine), σ.wt = ν → Good R σ w.heap.size → (∀ j, j < R.n → (σ.tk j).lv = false) → σ.Inb 0 = none → σ.L = σ.pk → HeadW R σ w en ev m → (∀ j, j < R.n → ∀ q, σ.tk j = .parked q → Res R Post ν j q) → Hd39 R.A (R.cR :: R.csR) g → AtG R Post σ 0 g w

section
variable {R : Rn} {Post : Value → World → Prop} {σ : Gs} {Λ i κ bg X bt M0 M : Nat}
theorem sum_ins (f : Nat → Nat) (l : List Nat) (k i : Nat) : ((l.take k ++ i :: l.drop k).map f).sum = f i + (l.map f).sum := by
  have e : (l.map f).sum = ((l.take k).map f).sum + ((l.drop k).map f).sum := by
    rw [← List.sum_append, ← List.map_append, List.take_append_drop]
  rw [e, List.map_append, List.sum_append, List.map_cons, List.sum_cons]; omega
theorem sum_upd (f : TSt → Nat) (tk : Nat → TSt) {i : Nat} (s : TSt) {l : List Nat} (h : i ∉ l) : (l.map fun j => f (upd tk i s j)) = l.map fun j => f (tk j) :=
  List.map_congr_left fun j hj => by rw [upd_ne tk s (show j ≠ i from fun e => h (e ▸ hj))]
theorem ent_upd {R : Rn} (tk : Nat → TSt) {i : Nat} (s : TSt) {l : List Nat} (h : i ∉ l) : l.map (ent R (upd tk i s)) = l.map (ent R tk) :=
  List.map_congr_left fun j hj => by unfold ent; rw [upd_ne tk s (show j ≠ i from fun e => h (e ▸ hj))]

theorem futT (H : RnOk R) (p : Ph Gs) : Fut Tryz.prog false (DX p.Ok) (PsiT R Post Λ i κ bg X bt M0 p) := by
  by_cases h : CohP R i κ bg X bt M0 p ∧ lc p < Λ ∧ (∀ j', j' < R.n → ∀ q', p.σ.tk j' = .parked q' → Res R Post (lc p) j' q')
  · have e : PsiT R Post Λ i κ bg X bt M0 p = AtG R Post p.σ κ := by
      funext g w
      exact propext ⟨fun x => x h.1 h.2.1 h.2.2, fun x _ _ _ => x⟩
    rw [e, h.1.ok]; have := futG (Post := Post) H (st := p.σ.st) (tk := p.σ.tk) (L := p.σ.L) (n := p.σ.ng) (dl := 0) (Nat.le_trans (Nat.le_add_right _ _) h.1.good.nb9) h.1.good.a5 h.1.good.stl κ
    rwa [show (κ == 0) = false from by have := h.1.κ0; simp; omega] at this
  · exact ⟨fun g w d x h1 h2 h3 => absurd ⟨h1, h2, h3⟩ h, DX.idle, dx_less, fun g w hs hst h1 h2 h3 => absurd ⟨h1, h2, h3⟩ h⟩

theorem Res.of {j : Nat} {q : Pk} (h : ∀ (p' : Ph Gs) (w' : World) (en' ev' : Value) (m' : List Value), p'.sd = true → RelyT R j q p' w' en' ev' m' → PsiT R Post Λ j q.κ q.bg q.X q.bt q.M0 p' (G (q.c.finish (.int .i64 1)) q.cs) w') : ∀ ν, ν ≤ Λ → Res R Post ν j q
  | 0, _ => trivial
  | ν + 1, hl => ⟨Res.of h ν (by omega), fun p' w' en' ev' m' h1 h2 h3 h4 h5 => by
      have e : lc p' = ν := by simp [lc, h1, h2]
      exact h p' w' en' ev' m' h1 h5 h3 (by omega) (by rw [e]; exact h4)⟩

theorem keeps_chan {U : Addr → Prop} {wp w : World} {c k x y cap : Nat} {buf : Array Value} {cl tm : Bool} (h : Keeps U wp w) (hc : w.heap[c]? = some (.chan 0 #[] false k k false)) : Keeps U wp (w.setChan c cap buf cl x y tm) := h.kp (Kp.chan hc) (fun a _ => by simp)
theorem size_chan (w : World) (c cap : Nat) (buf : Array Value) (cl : Bool) (x y : Nat) (tm : Bool) : (w.setChan c cap buf cl x y tm).heap.size = w.heap.size := by simp [World.setChan]
end
end
end Go.Proofs.YtobagnjnbmgidaaGreatDoor
