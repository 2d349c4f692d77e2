/- A wait, as the agenda serves it. -/
import Derived.Test.YtobagnjnbmgidaaGreatDoorX41
import Derived.Test.YtobagnjnbmgidaaGreatDoorX28
set_option linter.unusedSimpArgs false
set_option linter.unusedVariables false
namespace Go.Proofs.YtobagnjnbmgidaaGreatDoor
open Go.Conc Go.RowKit
open Go.ConcN (sumTo upd sumTo_upd upd_ne upd_same)

theorem evst_func {P : Program} {w : World} {es : Array Event} {a : Addr} {m : Mode} (f : Fn) (x y : Array Value) : (store a (.func f x y) m).events P w es = storedEv P w es a (.func f x y) m := events_store P w es a _ m rfl

/-- The loop's body of a function that is a loop and what follows it; what follows it. -/
def loopOf (f : Func) : Code := match f.body with | some (.seq (.block _ (.loop b)) _) => b | _ => .skip
def restOf (f : Func) : Code := match f.body with | some (.seq _ r) => r | _ => .skip
/-- Goroutine 0 at the head of the agenda's loop. -/
def hdOf (f : Func) (A : Nat) (y1 y2 y3 y4 y5 y6 y7 y8 y9 y10 y11 y12 y13 y14 y15 y16 y17 y18 y19 y20 y21 y22 y23 y24 y25 y26 y27 y28 y29 y30 y31 y32 y33 y34 : Value) (cs : List Frame) : Goroutine :=
  G ((base 39).at ⟨#[.pointer (some ⟨A, 0, none⟩), y1, y2, y3, y4, y5, y6, y7, y8, y9, y10, y11, y12, y13, y14, y15, y16, y17, y18, y19, y20, y21, y22, y23, y24, y25, y26, y27, y28, y29, y30, y31, y32, y33, y34], []⟩ [.code (loopOf f), .inLoop (loopOf f), .inBlock 0, .code (restOf f)]) cs
def Home39 (e : Env) (cs0 : List Frame) (g : Goroutine) : Prop := ∀ kk : Nat, kk < 2 → ∀ Φ, CF Tryz.prog true Φ → (∀ y1 y2 y3 y4 y5 y6 y7 y8 y9 y10 y11 y12 y13 y14 y15 y16 y17 y18 y19 y20 y21 y22 y23 y24 y25 y26 y27 y28 y29 y30 y31 y32 y33 y34, Φ (hdOf Tryz.f39 e.A y1 y2 y3 y4 y5 y6 y7 y8 y9 y10 y11 y12 y13 y14 y15 y16 y17 y18 y19 y20 y21 y22 y23 y24 y25 y26 y27 y28 y29 y30 y31 y32 y33 y34 cs0)) → Φ (Go.Conc.served g (commResult (cases0 e.wch e.ech) .select kk (.agg #[]) true))

/-- The places that stand while the task goes on. -/
def st0 (e : Env) : List (Addr × Value) := [(⟨e.A, 3, none⟩, .chan (some e.wch)), (⟨e.A, 4, none⟩, .chan (some e.ech)), (⟨e.X, 0, none⟩, .pointer (some ⟨e.A, 0, none⟩)), (⟨e.T, 3, none⟩, .chan (some e.tch))]
def st1 (e : Env) (x : Nat) : List (Addr × Value) := (⟨x, 0, none⟩, .pointer (some ⟨e.T, 0, none⟩)) :: st0 e
def cc0 (e : Env) : List Nat := [e.wch, e.ech, e.tch]
def Mem2 (c g : Nat) : Prop := g = 0 ∨ g = c
def Inb0 (s : Seat) (x : Nat) : Option Seat := if x = 0 then some s else none
def Inb1 (c : Nat) (s : Seat) (x : Nat) : Option Seat := if x = c then some s else none

/-- What is fixed in a run. -/
structure Rig (wI : World) (l : List Nat) (e : Env) (c n : Nat) : Prop where
  hA : e.A ∈ l
  l0 : ∀ A ∈ l, wI.heap.size ≤ A ∧ A < e.N
  lw : wI.heap.size ≤ e.wch ∧ e.wch < e.N
  le : wI.heap.size ≤ e.ech ∧ e.ech < e.N
  lt : wI.heap.size ≤ e.tch ∧ e.tch < e.N
  ne : e.wch ≠ e.ech ∧ e.wch ≠ e.tch ∧ e.ech ≠ e.tch
  nb : ∀ k, k = e.wch ∨ k = e.ech ∨ k = e.tch → k ≠ e.A ∧ k ≠ e.T ∧ k ≠ e.X
  nX : e.N ≤ e.X
  lT : e.T < e.N
  hT : wI.heap.size ≤ e.T
  nAT : e.A ≠ e.T
  c0 : 0 < c
  cn : c < n

theorem ok_rd {N0 : Nat} {l : List Nat} {st : List (Addr × Value)} {b o : Nat} (h5 : o ≠ 5) (h6 : o ≠ 6) : OkS N0 l st ⟨b, o, none⟩ false :=
  ⟨fun ⟨A, _, z⟩ => by rcases z with z | z <;> simp at z <;> omega, fun h => by cases h⟩
theorem ok_wr {N0 : Nat} {l : List Nat} {st : List (Addr × Value)} {b o : Nat} (h5 : o ≠ 5) (h6 : o ≠ 6) (hb : N0 ≤ b) (hs : ¬ StL st (.cell ⟨b, o, none⟩)) (wr : Bool) : OkS N0 l st ⟨b, o, none⟩ wr :=
  ⟨fun ⟨A, _, z⟩ => by rcases z with z | z <;> simp at z <;> omega, fun _ => ⟨hb, hs⟩⟩
theorem ok_fr {N0 N : Nat} {l : List Nat} {st : List (Addr × Value)} (hl : ∀ A ∈ l, A < N) (hN : N0 ≤ N) {a : Addr} (ha : N ≤ a.block) (hs : ∀ p ∈ st, p.1.block ≠ a.block) (wr : Bool) : OkS N0 l st a wr :=
  ⟨fun ⟨A, hA, z⟩ => by have := hl A hA; rcases z with z | z <;> (simp at z; subst z; dsimp only at ha; omega), fun _ => ⟨by omega, fun ⟨p, hp, z⟩ => by simp at z; exact hs p hp (by rw [z])⟩⟩
theorem size_chan (w : World) (c cap : Nat) (buf : Array Value) (cl : Bool) (x y : Nat) (tm : Bool) : (w.setChan c cap buf cl x y tm).heap.size = w.heap.size := by simp [World.setChan]

section
variable {wI : World} {l : List Nat} {e : Env} {c n : Nat} {Post : Value → World → Prop} {cs0 : List Frame}

/-- The task goes on. -/
abbrev Psi0 (wI : World) (l : List Nat) (e : Env) (c n : Nat) (Post : Value → World → Prop) (cs0 : List Frame) : Goroutine → World → Prop := At Tryz.prog Post (KO wI (st0 e) (cc0 e)) (ShL l) (StL (st0 e)) (Mem2 c) (Inb0 (seat0 e.wch e.ech (Home39 e cs0))) c n
abbrev Psi1 (wI : World) (l : List Nat) (e : Env) (c n : Nat) (Post : Value → World → Prop) (cs0 : List Frame) (x : Nat) : Goroutine → World → Prop := At Tryz.prog Post (KO wI (st0 e) (cc0 e)) (ShL l) (StL (st1 e x)) (Mem2 c) (Inb0 (seat0 e.wch e.ech (Home39 e cs0))) c n

theorem st0_off {p : Addr × Value} (h : p ∈ st0 e) : p.1.spot = none ∧ p.1.off ≠ 5 ∧ p.1.off ≠ 6 ∧ (p.1.block = e.A ∨ p.1.block = e.X ∨ p.1.block = e.T) := by
  simp only [st0, List.mem_cons, List.not_mem_nil, or_false] at h
  rcases h with rfl | rfl | rfl | rfl <;> simp
theorem still_shun {x : Nat} : ∀ y, StL (st1 e x) y → ¬ ShL l y := fun y ⟨p, hp, hy⟩ ⟨A, _, z⟩ => by
  subst hy
  rcases List.mem_cons.1 hp with rfl | hp
  · rcases z with z | z <;> simp at z
  · have := st0_off hp
    rcases z with z | z <;> (simp at z; rw [z] at this; simp at this)
theorem ko_chan {st : List (Addr × Value)} {w : World} {k ch : Nat} (hI : wI.heap.size ≤ ch) (hne : ∀ p ∈ st, ch ≠ p.1.block) (hc : ch ∈ cc0 e) (h : KO wI st (cc0 e) w) : KO wI st (cc0 e) (w.setChan ch 0 #[] false k k false) := ⟨old_chan hI h.1, kl_chan hne hc h.2⟩

theorem dr0 (st : List (Addr × Value)) (h : Nat) : ∀ w w' es, DX (OkS wI.heap.size l st) w w' es → DR (KO wI st (cc0 e)) (ShL l) (StL st) h w w' es :=
  dx_dr (fun ad z o => (o.2 rfl).2 z) (fun ad wr z o => o.1 z) (ko_dx (fun a o => (o.2 rfl).1) (fun p hp o => (o.2 rfl).2 ⟨p, hp, rfl⟩))
theorem fut_c0 (R : Rig wI l e c n) : Fut Tryz.prog false (DX (OkS wI.heap.size l (st0 e))) (Psi0 wI l e c n Post cs0) := by
  have := at_fut (P := Tryz.prog) (Post := Post) (Inb := Inb0 (seat0 e.wch e.ech (Home39 e cs0))) (n := n) (Mem := Mem2 c) (h := c) ko_at (dr0 (wI := wI) (l := l) (e := e) (st0 e) c) DX.idle (.inr rfl)
  rwa [show (c == 0) = false from by have := R.c0; simp; omega] at this
theorem fut_c1 (R : Rig wI l e c n) (x : Nat) : Fut Tryz.prog false (DX (OkX (OkS wI.heap.size l (st0 e)) x)) (Psi1 wI l e c n Post cs0 x) := by
  have := at_fut (P := Tryz.prog) (Post := Post) (Inb := Inb0 (seat0 e.wch e.ech (Home39 e cs0))) (n := n) (Mem := Mem2 c) (h := c) (Still := StL (st1 e x)) (Shun := ShL l) (K := KO wI (st0 e) (cc0 e)) (D := DX (OkX (OkS wI.heap.size l (st0 e)) x)) ko_at
    (dx_dr (fun ad z o => by
      obtain ⟨p, hp, hy⟩ := z
      simp only [Loc.cell.injEq] at hy
      subst hy
      rcases List.mem_cons.1 hp with rfl | hp
      · exact o.2 rfl rfl
      · exact (o.1.2 rfl).2 ⟨p, hp, rfl⟩) (fun ad wr z o => o.1.1 z) (fun w w' es D h => ko_dx (fun a o => (o.2 rfl).1) (fun p hp o => (o.2 rfl).2 ⟨p, hp, rfl⟩) w w' es (DX.mono (fun a wr o => o.1) D) h)) DX.idle (.inr rfl)
  rwa [show (c == 0) = false from by have := R.c0; simp; omega] at this
theorem fut_m1 (R : Rig wI l e c n) (x : Nat) (s : Seat) : Fut Tryz.prog true (DX (OkS wI.heap.size l (st1 e x))) (At Tryz.prog Post (KO wI (st1 e x) (cc0 e)) (ShL l) (StL (st1 e x)) (Mem2 c) (Inb1 c s) 0 n) :=
  at_fut (P := Tryz.prog) (h := 0) ko_at (dr0 (wI := wI) (l := l) (e := e) (st1 e x) 0) DX.idle (.inl rfl)
end

end Go.Proofs.YtobagnjnbmgidaaGreatDoor
