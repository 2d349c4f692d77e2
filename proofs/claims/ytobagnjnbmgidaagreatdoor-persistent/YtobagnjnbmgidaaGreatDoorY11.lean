/- Run with one client: the document's first example, and a Retry alone. -/
import Derived.Test.YtobagnjnbmgidaaGreatDoorX51
import Derived.Test.YtobagnjnbmgidaaGreatDoorX34
set_option linter.unusedSimpArgs false
set_option linter.unusedVariables false
namespace Go.Proofs.YtobagnjnbmgidaaGreatDoor
open Go.Conc Go.RowKit Go.Extern
open Go.ConcN (sumTo upd sumTo_upd upd_ne upd_same)

/-- Cells that stand, of blocks below s. -/
def Pin (s : Nat) (w : World) (ps : List (Addr × Value)) : Prop := ∀ p ∈ ps, w.cell? p.1 = some p.2 ∧ p.1.block < s
theorem Pin.kp {s : Nat} {w w' : World} {ps : List (Addr × Value)} {L : List Addr} (h : Pin s w ps) (k : Kp [] w w' L) (hL : ∀ x ∈ L, s ≤ x.block) : Pin s w' ps := fun p hp => by
  obtain ⟨h1, h2⟩ := h p hp
  exact ⟨k.cellC _ _ (by simp) (fun z => by have := hL _ z; omega) h1, h2⟩
theorem ok_rdb {N0 : Nat} {l : List Nat} {st : List (Addr × Value)} {a : Addr} (h : a.block ∉ l) : OkS N0 l st a false :=
  ⟨fun ⟨A, hA, z⟩ => by rcases z with z | z <;> (simp at z; subst z; exact h hA), fun h => by cases h⟩
def TurnsP (s : Nat) (w : World) (ta : Option Addr) (n : Nat) (T : Nat → Nat → Int) : Prop := TurnsAt w ta n T ∧ (0 < n → ∀ p : Addr, ta = some p → p.block < s)
theorem TurnsP.kp {s : Nat} {w w' : World} {ta : Option Addr} {n : Nat} {T : Nat → Nat → Int} {L : List Addr} (h : TurnsP s w ta n T) (k : Kp [] w w' L) (hL : ∀ x ∈ L, s ≤ x.block) : TurnsP s w' ta n T := by
  refine ⟨fun i hi => ?_, h.2⟩
  obtain ⟨b, o, e, hj⟩ := h.1 i hi
  have hb := h.2 (by omega) _ e
  exact ⟨b, o, e, fun j hj' => k.cellC _ _ (by simp) (fun z => by have := hL _ z; dsimp only at this hb; omega) (hj j hj')⟩

def backG (B HD C J : Nat) (ta : Option Addr) (n cap : Nat) : List (Addr × Value) := [(⟨B, 1, none⟩, .int .i64 (-1)), (⟨B, 2, none⟩, .pointer (some ⟨J, 0, none⟩)), (⟨B, 3, none⟩, .slice (some ⟨C, 0, none⟩) 1 1), (⟨B, 4, none⟩, .slice (some ⟨HD, 0, none⟩) 1 1), (⟨HD, 0, none⟩, .int .i64 0), (⟨C, 1, none⟩, .slice ta n cap), (⟨0, 0, none⟩, .iface 217 (.agg #[.pointer (some ⟨1, 121, none⟩)]))]
def retG (R B J : Nat) (a b c d : Int) : List (Addr × Value) := [(⟨R, 0, none⟩, .iface 138 (.pointer (some ⟨B, 0, none⟩))), (⟨R, 1, none⟩, .int .i64 0), (⟨R, 2, none⟩, .pointer (some ⟨J, 0, none⟩)), (⟨R, 3, none⟩, .int .i64 a), (⟨R, 4, none⟩, .int .i64 b), (⟨R, 5, none⟩, .int .i64 c), (⟨R, 6, none⟩, .int .i64 d)]

section
variable {kd nn : Int} {last : Prop} {w w1 w2 : World} {en ev : Value} {r : Value ⊕ Value} {x : Nat}
theorem LinkAt.kp {q : Nat} {k l n : Int} {nx : Value} (h : LinkAt w1 q k l n nx) (kp : Kp [x] w1 w2) (hq : q ≠ x) : LinkAt w2 q k l n nx :=
  ⟨kp.cell _ _ (by simpa using hq) h.c0, kp.cell _ _ (by simpa using hq) h.c1, kp.cell _ _ (by simpa using hq) h.c2, kp.cell _ _ (by simpa using hq) h.c3⟩
theorem BackR.shape (h : BackR kd nn w w1 en ev r) : Shape r := by
  rcases h with ⟨_, h⟩ | ⟨_, q, h, _⟩ | ⟨_, h⟩
  · exact .inl ⟨_, h⟩
  · exact .inr (.inl ⟨_, q, h⟩)
  · exact .inr (.inr ⟨_, h⟩)
theorem BackR.kp (h : BackR kd nn w w1 en ev r) (k : Kp [x] w1 w2) (hx : x < w.heap.size) : BackR kd nn w w2 en ev r := by
  have hs := k.size
  rcases h with h | ⟨h0, q, h1, h2, h3, h4, h5, h6⟩ | h
  · exact .inl h
  · exact .inr (.inl ⟨h0, q, h1, h2, by omega, h4, h5, h6.kp k (by omega)⟩)
  · exact .inr (.inr h)
theorem RetryR.shape (h : RetryR kd nn last w w1 en ev r) : Shape r := by
  rcases h with ⟨_, h⟩ | ⟨_, q, h, _⟩ | ⟨_, h⟩ | ⟨_, _, p, q, h, _⟩
  · exact .inl ⟨_, h⟩
  · exact .inr (.inl ⟨_, q, h⟩)
  · exact .inr (.inr ⟨_, h⟩)
  · exact .inr (.inl ⟨_, p, h⟩)
theorem RetryR.kp (h : RetryR kd nn last w w1 en ev r) (k : Kp [x] w1 w2) (hx : x < w.heap.size) : RetryR kd nn last w w2 en ev r := by
  have hs := k.size
  have hf : ∀ q, Fresh w w1 en ev q → Fresh w w2 en ev q ∧ q ≠ x := fun q ⟨a, b, c⟩ => ⟨⟨a, by omega, c⟩, by omega⟩
  rcases h with h | ⟨h0, q, h1, h2, h3⟩ | h | ⟨h0, hl, p, q, h1, h2, h3, h4, h5⟩
  · exact .inl h
  · exact .inr (.inl ⟨h0, q, h1, (hf q h2).1, h3.kp k (hf q h2).2⟩)
  · exact .inr (.inr (.inl h))
  · exact .inr (.inr (.inr ⟨h0, hl, p, q, h1, (hf p h2).1, (hf q h3).1, h4.kp k (hf p h2).2, h5.kp k (hf q h3).2⟩))
theorem RetryR.kinds (h : RetryR kd nn last w w1 en ev r) : kd ≠ 2 ∨ last := by
  rcases h with ⟨h, _⟩ | ⟨h, _⟩ | ⟨h, _⟩ | ⟨_, h, _⟩
  · exact .inl (by omega)
  · exact .inl (by omega)
  · exact .inl (by omega)
  · exact .inr h
end

def SQW (C : Nat) (ta : Option Addr) (n cap : Nat) (T : Nat → Nat → Int) (b s J HD X : Nat) (w : World) : Prop := b ≤ HD ∧ HD < X ∧ X < s ∧ C < s ∧ w.frozen? ⟨HD, 0, none⟩ = false ∧ Pin s w (backG X HD C J ta n cap) ∧ TurnsP s w ta n T
def SQP (C : Nat) (ta : Option Addr) (n cap : Nat) (T : Nat → Nat → Int) (a bb cc d : Int) (b s J HD X : Nat) (w : World) : Prop := ∃ B, b ≤ HD ∧ HD < B ∧ B < X ∧ X < s ∧ C < s ∧ w.frozen? ⟨HD, 0, none⟩ = false ∧ Pin s w (backG B HD C J ta n cap ++ retG X B J a bb cc d) ∧ TurnsP s w ta n T

section
variable {wI : World} {l : List Nat} {n : Nat} {Post : Value → World → Prop}

/-- Where the turns may lie. -/
def RdT (wI : World) (l : List Nat) (s : Nat) (ta : Option Addr) (nt : Nat) : Prop := 0 < nt → ∀ p : Addr, ta = some p → p.block < s ∧ (p.block < wI.heap.size ∨ p.block ∉ l)

theorem bgS_of {e : Env} {Ok : Addr → Bool → Prop} {B HD C s b : Nat} {ta : Option Addr} {nt : Nat} {w0 : World} (hl : ∀ B ∈ l, wI.heap.size ≤ B ∧ B < w0.heap.size) (hI : wI.heap.size ≤ w0.heap.size) (h1 : b ≤ HD) (h2 : HD < B) (h3 : B < s) (h4 : C < w0.heap.size) (iC : wI.heap.size ≤ C) (nC : C ∉ l) (hb : w0.heap.size ≤ b) (hJ0 : w0.heap.size ≤ e.J) (hJ : e.J < b) (hA : s ≤ e.A) (hT : s ≤ e.T) (hN : s ≤ e.N) (hd : RdT wI l w0.heap.size ta nt)
    (hok : ∀ a wr, wI.heap.size ≤ a.block → a.block < s → a.block ∉ l → Ok a wr) (hold : ∀ a : Addr, a.block < wI.heap.size → Ok a false) : BgS e Ok B HD C ta nt := by
  have hlt : ∀ B, w0.heap.size ≤ B → B ∉ l := fun B h z => by have := hl B z; omega
  exact { lB := by omega, lH := by omega, lC := by omega, bB := ⟨by omega, by omega, by omega, by omega⟩, bC := ⟨by omega, by omega, by omega, by omega⟩, bH := ⟨by omega, by omega, by omega⟩
          ok := fun a wr h => by
            rcases h with h | h | h
            · exact hok a wr (by omega) (by omega) (hlt _ (by omega))
            · exact hok a wr (by omega) (by omega) (hlt _ (by omega))
            · exact hok a wr (by omega) (by omega) (by rw [h]; exact nC)
          tl := fun h0 p hp => by have := (hd h0 p hp).1; exact ⟨by omega, by omega, by omega, by omega, by omega⟩
          tr := fun h0 p hp a ha => by
            obtain ⟨q1, q2⟩ := hd h0 p hp
            by_cases h : a.block < wI.heap.size
            · exact hold a h
            · exact hok a false (by omega) (by omega) (by rw [ha]; exact q2.resolve_left (by omega)) }

theorem bg_of {e : Env} {B HD C s : Nat} {ta : Option Addr} {nt cap : Nat} {T : Nat → Nat → Int} {w : World} {ps : List (Addr × Value)} (hz : w.frozen? ⟨HD, 0, none⟩ = false) (hp : Pin s w ps) (hs : ∀ p ∈ backG B HD C e.J ta nt cap, p ∈ ps) (ht : TurnsP s w ta nt T) : Bg e B HD C ta nt cap T w 0 := by
  have pin : ∀ p, p ∈ backG B HD C e.J ta nt cap → w.cell? p.1 = some p.2 := fun p h => (hp p (hs p h)).1
  exact ⟨pin (_, _) (by simp [backG]), pin (_, _) (by simp [backG]), pin (_, _) (by simp [backG]), pin (_, _) (by simp [backG]), pin (⟨C, 1, none⟩, .slice ta nt cap) (by simp [backG]), pin (⟨HD, 0, none⟩, .int .i64 0) (by simp [backG]), hz, ht.1⟩

/-- What the document's first example tells. -/
def evsW : List Value := evc 5 0 (-1) 1 0 ++ evc 8 0 (-1) 2 0
def TW (_ j : Nat) : Int := if j = 0 then 1 else if j = 1 then 7 else 3

theorem runW_at (C TB : Nat) (w0 : World) (cR : Frame) (csR : List Frame) (hn : 0 < n) (i0 : 0 < wI.heap.size) (hI : wI.heap.size ≤ w0.heap.size) (hl : ∀ B ∈ l, wI.heap.size ≤ B ∧ B < w0.heap.size) (iC : wI.heap.size ≤ C) (iT : wI.heap.size ≤ TB) (nC : C ∉ l) (nT : TB ∉ l)
    (hg : w0.cell? ⟨0, 0, none⟩ = some (.iface 217 (.agg #[.pointer (some ⟨1, 121, none⟩)])))
    (hC0 : w0.cell? ⟨C, 0, none⟩ = some (.int .i64 5)) (hC1 : w0.cell? ⟨C, 1, none⟩ = some (.slice (some ⟨TB, 0, none⟩) 1 1)) (ht : ∀ j, j < 3 → w0.cell? ⟨TB, j, none⟩ = some (.int .i64 (TW 0 j)))
    (hret : ∀ (A O g ce : Nat) (w' : World), w0.heap.size ≤ A → A < w'.heap.size → w0.heap.size ≤ O → A < g → ChAt w' g evsW → w'.cell? ⟨O, 0, none⟩ = some (.int .i64 8) → w'.cell? ⟨O, 1, none⟩ = some (.int .i64 1) → w'.cell? ⟨O, 2, none⟩ = some (.int .i64 7) → w'.cell? ⟨O, 3, none⟩ = some (.slice none 0 0) → Stay [] w0.heap.size w0 w' → w0.heap.size ≤ w'.heap.size →
      At0 Tryz.prog Post (Old wI) (ShL (A :: l)) (n + 1) (G (cR.finish (.tuple #[.agg #[.slice (some ⟨O, 0, none⟩) 1 1, .slice (some ⟨g, 0, none⟩) 2 ce], .int .i64 0, .int .i64 0])) csR) w') :
    At0 Tryz.prog Post (Old wI) (ShL l) n (G (Frame.enter Tryz.prog 24 #[.slice none 0 0, .slice (some ⟨C, 0, none⟩) 1 1] .normal) (cR :: csR)) w0 := by
  have lC : C < w0.heap.size := lt_of_cell hC0
  have lT : TB < w0.heap.size := lt_of_cell (ht 0 (by decide))
  have tat : TurnsAt w0 (some ⟨TB, 0, none⟩) 1 TW := fun i hi => ⟨TB, 0, rfl, fun j hj => by have : i = 0 := (by omega); subst this; simpa using ht j hj⟩
  refine run24_at (.slice none 0 0) (.slice none 0 0) C 138 8 1 7 8 5 (SQW C (some ⟨TB, 0, none⟩) 1 1 TW) (fun _ x q cap _ => x = none ∧ q = 0 ∧ cap = 0) (fun m => m = evsW) w0 cR csR hn hI hl hC0 _ _ _ hC1 (fun w k => ?_) (fun w J k hJ => ?_) ?_ (fun _ _ _ _ _ _ _ _ _ _ _ h => h) ?_ (fun A O N x q cap xe m ce xs w' h1 h2 h3 h4 h4' hx hm hkm hev p0 p1 p2 p3 hs hz => ?_)
  · have hc := check_x (Ok := OkS wI.heap.size l []) (main := true) w0.heap.size 0 0 1 1 none (some ⟨C, 0, none⟩) (fun _ _ => 0) (fun _ => ⟨5, some ⟨TB, 0, none⟩, 1, 1, TW⟩) w k.size (fun i hi => absurd hi (by omega))
      (fun i hi => ⟨C, 0, rfl, by have : i = 0 := (by omega); subst this; exact k.cell _ _ (by simp) hC0, by have : i = 0 := (by omega); subst this; exact k.cell _ _ (by simp) hC1, tat.kp k⟩)
      (fun p hp => by cases hp) ⟨fun p hp a ha => by cases hp; exact ok_rdb (by rw [ha]; exact nC), fun i hi _ p hp a ha => by cases hp; exact ok_rdb (by rw [ha]; exact nT)⟩ (fun a wr h => ok_fr (N := w0.heap.size) (fun B hB => (hl B hB).2) (by omega) h (by simp) wr)
    exact hc.mono fun v w' hp => hp
  · refine (stack0_x C J w).mono fun v w' ⟨B, HD, h0, h1, h2, h3, h4, h5⟩ => ⟨HD, B, h0, h1, h2, by omega, h2, h3, h4, by have := k.size; have := h1.size; omega, h5.zh, fun p hp => ?_, (tat.kp k).kp h1, fun _ p hp => by cases hp; have := k.size; have := h1.size; dsimp only; omega⟩
    have kk : Kp [] w0 w' := k.callN h1 (by simp) (by simp)
    have hk1 := k.size
    have hk2 := h1.size
    simp only [backG, List.mem_cons, List.not_mem_nil, or_false] at hp
    rcases hp with rfl | rfl | rfl | rfl | rfl | rfl | rfl
    · exact ⟨h5.b1, by dsimp only; omega⟩
    · exact ⟨h5.b2, by dsimp only; omega⟩
    · exact ⟨h5.b3, by dsimp only; omega⟩
    · exact ⟨h5.b4, by dsimp only; omega⟩
    · exact ⟨h5.h0, by dsimp only; omega⟩
    · exact ⟨kk.cell _ _ (by simp) hC1, by dsimp only; omega⟩
    · exact ⟨kk.cell _ _ (by simp) hg, by dsimp only; omega⟩
  · intro b s J HD X w w' L ⟨h1, h2, h3, h4, h6, h7, h8⟩ k hL
    refine ⟨h1, h2, h3, h4, ?_, h7.kp k hL, h8.kp k hL⟩
    have := h7 (⟨HD, 0, none⟩, .int .i64 0) (by simp [backG])
    exact (k.frozC _ _ (by simp) (fun z => by have := hL _ z; dsimp only at this; omega) this.1).trans h6
  · intro e Ok w b s HD X en1 K hcl H ⟨h1, h2, h3, h4, h6, h7, h8⟩ hJ0 hJ _ _ hA hT hN hok hok0 hold hb
    have S : BgS e Ok X HD C (some ⟨TB, 0, none⟩) 1 := bgS_of hl hI h1 h2 h3 lC iC nC hb hJ0 hJ hA hT hN (fun _ p hp => by cases hp; exact ⟨lT, .inr nT⟩) hok hold
    have Q : Bg e X HD C (some ⟨TB, 0, none⟩) 1 1 TW w 0 := bg_of h6 h7 (fun p h => h) h8
    have hgw := (h7 (⟨0, 0, none⟩, .iface 217 (.agg #[.pointer (some ⟨1, 121, none⟩)])) (by simp [backG])).1
    intro Ψ0 Ψ1 W c cs hc
    refine call_o e K en1 (.slice none 0 0) 5 [] X HD S.lH (t := 138) (f := 146) mEnter138 mEnter138e Tryz.func146 (by rfl) (by rfl) w (by omega) (hok0 0) ⟨by omega, by omega, by omega, by omega⟩ hgw H
      (fun r w1 w' en ev now m => BackR 1 7 w1 w' en ev r ∧ now = 8 ∧ m = evsW) (fun _ _ => False) (fun h => h.1.shape) (fun h k hx => ⟨h.1.kp k hx, h.2⟩) (fun h => ?_) (fun w1 k1 H1 => ?_) Ψ0 Ψ1 W c cs (fun v w' hp => hc v w' ?_)
    · exfalso
      rcases h.1 with ⟨_, h⟩ | ⟨h, _⟩ | ⟨h, _⟩
      · simp at h
      · omega
      · omega
    · have Q1 : Bg e X HD C (some ⟨TB, 0, none⟩) 1 1 TW w1 0 := bg_of ((k1.froz _ _ (by simp) Q.h0).trans h6) (h7.kp k1 (by simp)) (fun p h => h) (h8.kp k1 (by simp))
      intro Ψ0 Ψ1 W c cs hc
      refine back_o e K hcl X HD C (some ⟨TB, 0, none⟩) 1 1 TW 5 en1 (.slice none 0 0) [] 0 w1 H1 (by simp) S Q1 (by decide) (.inl (by decide)) (by decide) (by decide) Ψ0 Ψ1 W c cs fun r w' hp => hc r w' ?_
      obtain ⟨en', ev', a1, a2, a3, a4⟩ := hp
      refine ⟨en', ev', _, _, a1, a3, ?_, ?_, ?_⟩
      · exact a4
      · decide
      · rw [hcl]; rfl
    · obtain ⟨r, wi, en', ev', m', now', ho, h9, h10, ⟨hb', rfl, rfl⟩⟩ := hp
      rcases hb' with ⟨_, rfl⟩ | ⟨h, _⟩ | ⟨h, _⟩
      · rcases ho with ⟨x, hx, rfl⟩ | ⟨x, q, nl, xs, g, cap, hx, hf, _⟩ | ⟨x, hx, _⟩
        · simp only [Sum.inl.injEq, Value.tuple.injEq, Array.mk.injEq, List.cons.injEq, Value.int.injEq, and_true, true_and] at hx
          subst hx
          exact ⟨none, 0, 0, rfl, ⟨rfl, rfl, rfl⟩, en', ev', evsW, rfl, h9, h10⟩
        · exact hf.elim
        · cases hx
      · omega
      · omega
  · obtain ⟨rfl, rfl, rfl⟩ := hx
    subst hm
    have hm2 : m = 2 := by have : evsW.length = 10 := rfl; omega
    subst hm2
    obtain ⟨g, rfl, hg1, hg2⟩ := hev (by omega)
    exact hret A O g ce w' h1 h2 h3 (by omega) hg2 p0 p1 p2 p3 hs hz
end

end Go.Proofs.YtobagnjnbmgidaaGreatDoor

/-! Run with one client and a Retry alone. -/
namespace Go.Proofs.YtobagnjnbmgidaaGreatDoor
open Go.Conc Go.RowKit Go.Extern
open Go.ConcN (sumTo upd sumTo_upd upd_ne upd_same)

/-- The layer's fields. -/
def LP (a b c d e : Int) (_ j : Nat) : Int := if j = 0 then 1 else if j = 1 then a else if j = 2 then b else if j = 3 then c else if j = 4 then d else e

/-- The links that an outcome bears, by the last turn's kind and number. -/
def linksOf (kd nn : Int) : List Value := if kd = 3 then [.int .i64 2, .int .i64 (-1), .int .i64 nn] else [.int .i64 7, .int .i64 0, .int .i64 0, .int .i64 1, .int .i64 (-1), .int .i64 nn]
/-- How an outcome's chain lies in memory. -/
def ChainP (kd nn : Int) (N : Nat) (x : Option Addr) (q cap : Nat) (w : World) : Prop :=
  (kd = 2 ∨ kd = 3) → ∃ g, x = some ⟨g, 0, none⟩ ∧ q = (if kd = 3 then 1 else 2) ∧ N ≤ g ∧ ChAt w g (linksOf kd nn)
def kdO (kd : Int) : Int := if kd = 1 then 1 else if kd = 4 then 3 else 2
def nnO (kd nn : Int) : Int := if kd = 1 ∨ kd = 4 then nn else 0

section
variable {wI : World} {l : List Nat} {n : Nat} {Post : Value → World → Prop}

theorem runP_at (LB C : Nat) (ta : Option Addr) (nt cap : Nat) (T : Nat → Nat → Int) (A : Nat) (a bb cc d ee st : Int) (k0 : Nat) (w0 : World) (cR : Frame) (csR : List Frame) (hn : 0 < n) (i0 : 0 < wI.heap.size) (hI : wI.heap.size ≤ w0.heap.size) (hl : ∀ B ∈ l, wI.heap.size ≤ B ∧ B < w0.heap.size) (iL : wI.heap.size ≤ LB) (iC : wI.heap.size ≤ C) (nL : LB ∉ l) (nC : C ∉ l)
    (hg : w0.cell? ⟨0, 0, none⟩ = some (.iface 217 (.agg #[.pointer (some ⟨1, 121, none⟩)])))
    (hL : ∀ j, j < 6 → w0.cell? ⟨LB, j, none⟩ = some (.int .i64 (LP a bb cc d ee 0 j))) (hC0 : w0.cell? ⟨C, 0, none⟩ = some (.int .i64 st)) (hC1 : w0.cell? ⟨C, 1, none⟩ = some (.slice ta nt cap)) (tat : TurnsAt w0 ta nt T) (hd : RdT wI l w0.heap.size ta nt)
    (hck : chk 1 (LP a bb cc d ee) 1 (fun _ => ⟨st, ta, nt, cap, T⟩) = (0, 0)) (GL : GoodL A a bb cc d) (GT : GoodT T nt) (hst : 0 ≤ st ∧ st ≤ 1000) (hk0 : k0 < A) (hk1 : ∀ i, i < k0 → turnK T nt i 0 = 2) (hk2 : turnK T nt k0 0 ≠ 2 ∨ k0 + 1 = A)
    (hret : ∀ (Ag O N : Nat) (x : Option Addr) (q cp : Nat) (xe : Option Addr) (m ce : Nat) (w' : World), w0.heap.size ≤ Ag → Ag < w'.heap.size → w0.heap.size ≤ O → w0.heap.size ≤ N → Ag < N → ChainP (turnK T nt k0 0) (turnK T nt k0 1) N x q cp w' →
      w'.cell? ⟨O, 0, none⟩ = some (.int .i64 (tmK st (fun k => turnK T nt k 2) (pzK bb cc d) k0 + turnK T nt k0 2)) → w'.cell? ⟨O, 1, none⟩ = some (.int .i64 (kdO (turnK T nt k0 0))) → w'.cell? ⟨O, 2, none⟩ = some (.int .i64 (nnO (turnK T nt k0 0) (turnK T nt k0 1))) → w'.cell? ⟨O, 3, none⟩ = some (.slice x q cp) → Stay [] w0.heap.size w0 w' → w0.heap.size ≤ w'.heap.size →
      At0 Tryz.prog Post (Old wI) (ShL (Ag :: l)) (n + 1) (G (cR.finish (.tuple #[.agg #[.slice (some ⟨O, 0, none⟩) 1 1, .slice xe m ce], .int .i64 0, .int .i64 0])) csR) w') :
    At0 Tryz.prog Post (Old wI) (ShL l) n (G (Frame.enter Tryz.prog 24 #[.slice (some ⟨LB, 0, none⟩) 1 1, .slice (some ⟨C, 0, none⟩) 1 1] .normal) (cR :: csR)) w0 := by
  have lC : C < w0.heap.size := lt_of_cell hC0
  have lL : LB < w0.heap.size := lt_of_cell (hL 0 (by decide))
  have hfr : ∀ (a : Addr) (wr : Bool), w0.heap.size ≤ a.block → OkS wI.heap.size l [] a wr := fun a wr h => ok_fr (N := w0.heap.size) (fun B hB => (hl B hB).2) (by omega) h (by simp) wr
  have hrt : 0 < nt → ∀ p : Addr, ta = some p → p.block ∉ l := fun h0 p hp z => by
    obtain ⟨_, q2⟩ := hd h0 p hp
    rcases q2 with q2 | q2
    · have := hl _ z; omega
    · exact q2 z
  generalize hkd : turnK T nt k0 0 = kd at *
  generalize hnn : turnK T nt k0 1 = nn at *
  generalize htm : tmK st (fun k => turnK T nt k 2) (pzK bb cc d) k0 + turnK T nt k0 2 = tm at *
  refine run24_at (.slice (some ⟨LB, 0, none⟩) 1 1) (.slice none 0 0) C 141 tm (kdO kd) (nnO kd nn) tm st (SQP C ta nt cap T a bb cc d) (ChainP kd nn) (fun _ => True) w0 cR csR hn hI hl hC0 _ _ _ hC1 (fun w k => ?_) (fun w J k hJ => ?_) ?_ ?_ ?_ (fun A O N x q cap xe m ce xs w' h1 h2 h3 h4 h4' hx hm _ _ p0 p1 p2 p3 hs hz => hret A O N x q cap xe m ce w' h1 h2 h3 h4 h4' hx p0 p1 p2 p3 hs hz)
  · have hc := check_x (Ok := OkS wI.heap.size l []) (main := true) w0.heap.size 1 1 1 1 (some ⟨LB, 0, none⟩) (some ⟨C, 0, none⟩) (LP a bb cc d ee) (fun _ => ⟨st, ta, nt, cap, T⟩) w k.size (fun i hi => ⟨LB, 0, rfl, fun j hj => by have : i = 0 := (by omega); subst this; have := k.cell _ _ (by simp) (hL j hj); simpa using this⟩)
      (fun i hi => ⟨C, 0, rfl, by have : i = 0 := (by omega); subst this; exact k.cell _ _ (by simp) hC0, by have : i = 0 := (by omega); subst this; exact k.cell _ _ (by simp) hC1, tat.kp k⟩)
      (fun p hp a ha => by cases hp; exact ok_rdb (by rw [ha]; exact nL)) ⟨fun p hp a ha => by cases hp; exact ok_rdb (by rw [ha]; exact nC), fun i hi h0 p hp a ha => ok_rdb (by rw [ha]; exact hrt h0 p hp)⟩ hfr
    rw [hck] at hc
    exact hc.mono fun v w' hp => hp
  · have c0 := fun j hj => k.cell _ _ (by simp) (hL j hj)
    have hk1' := k.size
    refine (stack1_x w0.heap.size LB C J a bb cc d ee w (by omega) hfr (fun x hx => ok_rdb (by rw [hx]; exact nL)) (c0 0 (by decide)) (c0 1 (by decide)) (c0 2 (by decide)) (c0 3 (by decide)) (c0 4 (by decide)) (c0 5 (by decide))).mono fun v w' ⟨B, HD, R, h0, h1, h2, h3, h4, h5, h6, r0, r1, r2, r3, r4, r5, r6⟩ => ⟨HD, R, h0, h1, h2, by omega, B, h2, h3, h4, h5, by have := h1.size; omega, h6.zh, fun p hp => ?_, (tat.kp k).kp h1, fun h0 p hp => by have := (hd h0 p hp).1; have := h1.size; omega⟩
    have kk : Kp [] w0 w' := k.callN h1 (by simp) (by simp)
    have hk2' := h1.size
    simp only [backG, retG, List.mem_append, List.mem_cons, List.not_mem_nil, or_false] at hp
    rcases hp with (rfl | rfl | rfl | rfl | rfl | rfl | rfl) | (rfl | rfl | rfl | rfl | rfl | rfl | rfl)
    · exact ⟨h6.b1, by dsimp only; omega⟩
    · exact ⟨h6.b2, by dsimp only; omega⟩
    · exact ⟨h6.b3, by dsimp only; omega⟩
    · exact ⟨h6.b4, by dsimp only; omega⟩
    · exact ⟨h6.h0, by dsimp only; omega⟩
    · exact ⟨kk.cell _ _ (by simp) hC1, by dsimp only; omega⟩
    · exact ⟨kk.cell _ _ (by simp) hg, by dsimp only; omega⟩
    · exact ⟨r0, by dsimp only; omega⟩
    · exact ⟨r1, by dsimp only; omega⟩
    · exact ⟨r2, by dsimp only; omega⟩
    · exact ⟨r3, by dsimp only; omega⟩
    · exact ⟨r4, by dsimp only; omega⟩
    · exact ⟨r5, by dsimp only; omega⟩
    · exact ⟨r6, by dsimp only; omega⟩
  · intro b s J HD X w w' L ⟨B, h1, h2, h3, h4, h5, h6, h7, h8⟩ k hL'
    refine ⟨B, h1, h2, h3, h4, h5, ?_, h7.kp k hL', h8.kp k hL'⟩
    have := h7 (⟨HD, 0, none⟩, .int .i64 0) (by simp [backG])
    exact (k.frozC _ _ (by simp) (fun z => by have := hL' _ z; dsimp only at this; omega) this.1).trans h6
  · intro N x q cap w w' L C' k hL' hC' h hk
    obtain ⟨g, h1, h2, h3, h4⟩ := h hk
    exact ⟨g, h1, h2, h3, h4.kp k (fun z => by have := hL' _ z; omega) (fun y hy z => by have := hC' _ hy; omega)⟩
  · intro e Ok w b s HD X en1 K hcl H ⟨B, h1, h2, h3, h4, h5, h6, h7, h8⟩ hJ0 hJ _ _ hA hT hN hok hok0 hold hb
    have S : BgS e Ok B HD C ta nt := bgS_of hl hI h1 h2 (by omega) lC iC nC hb hJ0 hJ hA hT hN hd hok hold
    have hlt : ∀ B, w0.heap.size ≤ B → B ∉ l := fun B h z => by have := hl B z; omega
    have s : RgS e Ok X HD := ⟨by omega, by omega, by omega, by omega, by omega, fun i => hok _ _ (by dsimp only; omega) (by dsimp only; omega) (hlt _ (by dsimp only; omega))⟩
    have bgw : ∀ w1, Kp [] w w1 → Bg e B HD C ta nt cap T w1 0 ∧ Rg e X B a bb cc d w1 := fun w1 k1 => by
      have pin := h7.kp k1 (by simp)
      have hz := h7 (⟨HD, 0, none⟩, .int .i64 0) (by simp [backG])
      have pr : ∀ p, p ∈ retG X B e.J a bb cc d → w1.cell? p.1 = some p.2 := fun p hp => (pin p (by simp [hp])).1
      exact ⟨bg_of ((k1.froz _ _ (by simp) hz.1).trans h6) pin (fun p h => by simp [h]) (h8.kp k1 (by simp)), ⟨pr (_, _) (by simp [retG]), pr (_, _) (by simp [retG]), pr (_, _) (by simp [retG]), pr (_, _) (by simp [retG]), pr (_, _) (by simp [retG]), pr (_, _) (by simp [retG]), pr (_, _) (by simp [retG])⟩⟩
    have hgw := (h7 (⟨0, 0, none⟩, .iface 217 (.agg #[.pointer (some ⟨1, 121, none⟩)])) (by simp [backG])).1
    have hsw := H.size
    have hfr' : ∀ (a : Addr) (wr : Bool), e.X + 1 ≤ a.block → Ok a wr := fun a wr h => K.fr a wr (by have := H.nX; omega) (by omega)
    intro Ψ0 Ψ1 W c cs hc
    refine call_o e K en1 (.slice none 0 0) st [] X HD S.lH (t := 141) (f := 156) mEnter141 mEnter141e Tryz.func156 (by rfl) (by rfl) w (by omega) (hok0 0) ⟨by omega, by omega, by omega, by omega⟩ hgw H
      (fun r w1 w' en ev now m => RetryR kd nn (k0 + 1 = A) w1 w' en ev r ∧ now = tm) (fun nl xs => (kd = 2 ∨ kd = 3) ∧ nl = (if kd = 3 then 1 else 2) ∧ xs = linksOf kd nn) (fun h => h.1.shape) (fun h k hx => ⟨h.1.kp k hx, h.2⟩) (fun h g1 g2 g3 => ?_) (fun w1 k1 H1 => ?_) Ψ0 Ψ1 W c cs (fun v w' hp => hc v w' ?_)
    · rcases h.1 with ⟨_, h⟩ | ⟨hk, q', h, hf, hl'⟩ | ⟨_, h⟩ | ⟨hk, _, p', q', h, hf, hf', hl', hl''⟩
      · simp at h
      · simp only [Sum.inl.injEq, Value.tuple.injEq, Array.mk.injEq, List.cons.injEq, Value.iface.injEq, Value.pointer.injEq, Option.some.injEq, Addr.mk.injEq, and_true, true_and] at h
        obtain ⟨_, rfl⟩ := h
        have hfq := hf.1
        exact ⟨1, linksOf kd nn, by omega, ⟨.inr hk, by rw [if_pos hk], rfl⟩, by unfold linksOf; rw [if_pos hk]; exact chain1_x (e.X + 1) _ 2 (-1) nn _ (by omega) (by omega) (by omega) g3 (hok0 0) hl' hfr'⟩
      · cases h
      · simp only [Sum.inl.injEq, Value.tuple.injEq, Array.mk.injEq, List.cons.injEq, Value.iface.injEq, Value.pointer.injEq, Option.some.injEq, Addr.mk.injEq, and_true, true_and] at h
        obtain ⟨_, rfl⟩ := h
        have hfp := hf.1
        have hfq := hf'.1
        have hk3 : ¬ kd = 3 := by omega
        exact ⟨2, linksOf kd nn, by omega, ⟨.inl hk, by rw [if_neg hk3], rfl⟩, by unfold linksOf; rw [if_neg hk3]; exact chain2_x (e.X + 1) _ _ 7 0 0 1 (-1) nn _ (by omega) (by omega) (by omega) (by omega) g3 (hok0 0) hl' hl'' hfr'⟩
    · obtain ⟨Q1, X1⟩ := bgw w1 k1
      intro Ψ0 Ψ1 W c cs hc
      refine retry_o e K hcl X B HD C ta nt cap T A a bb cc d st en1 (.slice none 0 0) w1 GL GT hst H1 S s Q1 X1 Ψ0 Ψ1 W c cs fun r w' hp => hc r w' ?_
      obtain ⟨k, en', ev', m', g1, g2, g3, g4, g5⟩ := hp
      have hkk : k = k0 := by
        have h5 := g5.kinds
        rcases Nat.lt_trichotomy k k0 with h | h | h
        · have := hk1 k h; have := h5.resolve_left (by omega); omega
        · exact h
        · have := g2 k0 h; have := hk2.resolve_left (by omega); omega
      subst hkk
      rw [hkd, hnn] at g5
      rw [htm] at g3
      exact ⟨en', ev', m', tm, g3, g4, g5, rfl⟩
    · obtain ⟨r, wi, en', ev', m', now', ho, h9, h10, hb', rfl⟩ := hp
      have hN' : e.N ≤ w.heap.size := H.size
      rcases hb' with ⟨hk, rfl⟩ | ⟨hk, q', rfl, _⟩ | ⟨hk, rfl⟩ | ⟨hk, _, p', q', rfl, _⟩
      · rcases ho with ⟨x, hx, rfl⟩ | ⟨x, q, nl, xs, g, cap', hx, _⟩ | ⟨x, hx, _⟩
        · simp only [Sum.inl.injEq, Value.tuple.injEq, Array.mk.injEq, List.cons.injEq, Value.int.injEq, and_true, true_and] at hx
          subst hx
          exact ⟨none, 0, 0, by simp [kdO, nnO, hk], fun z => by omega, en', ev', m', trivial, h9, h10⟩
        · simp at hx
        · cases hx
      · rcases ho with ⟨x, hx, rfl⟩ | ⟨x, q, nl, xs, g, cap', hx, ⟨f1, rfl, rfl⟩, rfl, f4, f5, f6⟩ | ⟨x, hx, _⟩
        · simp at hx
        · exact ⟨some ⟨g, 0, none⟩, _, cap', by simp [kdO, nnO, hk], fun _ => ⟨g, rfl, rfl, by omega, f6⟩, en', ev', m', trivial, h9, h10⟩
        · cases hx
      · rcases ho with ⟨x, hx, rfl⟩ | ⟨x, q, nl, xs, g, cap', hx, _⟩ | ⟨x, hx, rfl⟩
        · cases hx
        · cases hx
        · simp only [Sum.inr.injEq, Value.iface.injEq, Value.int.injEq, true_and] at hx
          subst hx
          exact ⟨none, 0, 0, by simp [kdO, nnO, hk], fun z => by omega, en', ev', m', trivial, h9, h10⟩
      · rcases ho with ⟨x, hx, rfl⟩ | ⟨x, q, nl, xs, g, cap', hx, ⟨f1, rfl, rfl⟩, rfl, f4, f5, f6⟩ | ⟨x, hx, _⟩
        · simp at hx
        · exact ⟨some ⟨g, 0, none⟩, _, cap', by simp [kdO, nnO, hk], fun _ => ⟨g, rfl, rfl, by omega, f6⟩, en', ev', m', trivial, h9, h10⟩
        · cases hx
end

end Go.Proofs.YtobagnjnbmgidaaGreatDoor
