/- The two runs that open the law. -/
import Derived.Test.YtobagnjnbmgidaaGreatDoorX51
import Derived.Test.YtobagnjnbmgidaaGreatDoorX34
set_option linter.unusedSimpArgs false
set_option linter.unusedVariables false
namespace Go.Proofs.YtobagnjnbmgidaaGreatDoor
open Go.Conc Go.RowKit
open Go.ConcN (sumTo upd sumTo_upd upd_ne upd_same)

/-- Cells that stand, of blocks below s. -/
def Pin (s : Nat) (w : World) (ps : List (Addr × Value)) : Prop := ∀ p ∈ ps, w.cell? p.1 = some p.2 ∧ p.1.block < s
theorem Pin.kp {s : Nat} {w w' : World} {ps : List (Addr × Value)} {L : List Addr} (h : Pin s w ps) (k : Kp [] w w' L) (hL : ∀ x ∈ L, s ≤ x.block) : Pin s w' ps := fun p hp => by
  obtain ⟨h1, h2⟩ := h p hp
  exact ⟨k.cellC _ _ (by simp) (fun z => by have := hL _ z; omega) h1, h2⟩
theorem ok_rdb {N0 : Nat} {l : List Nat} {st : List (Addr × Value)} {a : Addr} (h : a.block ∉ l) : OkS N0 l st a false :=
  ⟨fun ⟨A, hA, z⟩ => by rcases z with z | z <;> (simp at z; subst z; exact h hA), fun h => by cases h⟩

def backL (B HD C J TB q : Nat) : List (Addr × Value) := [(⟨B, 1, none⟩, .int .i64 (-1)), (⟨B, 2, none⟩, .pointer (some ⟨J, 0, none⟩)), (⟨B, 3, none⟩, .slice (some ⟨C, 0, none⟩) 1 1), (⟨B, 4, none⟩, .slice (some ⟨HD, 0, none⟩) 1 1), (⟨HD, 0, none⟩, .int .i64 0), (⟨C, 1, none⟩, .slice (some ⟨TB, 0, none⟩) q q)]
def turnL (TB : Nat) : Nat → List Int → List (Addr × Value)
  | _, [] => []
  | i, x :: xs => (⟨TB, i, none⟩, .int .i64 x) :: turnL TB (i + 1) xs
def SQV (C TB : Nat) (b s J HD X : Nat) (w : World) : Prop := b ≤ HD ∧ HD < X ∧ X < s ∧ C < s ∧ TB < s ∧ w.frozen? ⟨HD, 0, none⟩ = false ∧ Pin s w (backL X HD C J TB 1 ++ turnL TB 0 [1, 7, 3])
def retL (R B J : Nat) : List (Addr × Value) := [(⟨R, 0, none⟩, .iface 138 (.pointer (some ⟨B, 0, none⟩))), (⟨R, 1, none⟩, .int .i64 0), (⟨R, 2, none⟩, .pointer (some ⟨J, 0, none⟩)), (⟨R, 3, none⟩, .int .i64 3), (⟨R, 4, none⟩, .int .i64 10), (⟨R, 5, none⟩, .int .i64 2), (⟨R, 6, none⟩, .int .i64 15), (⟨0, 0, none⟩, .iface 217 (.agg #[.pointer (some ⟨1, 121, none⟩)]))]
def SQR (C TB : Nat) (b s J HD X : Nat) (w : World) : Prop := ∃ B, b ≤ HD ∧ HD < B ∧ B < X ∧ X < s ∧ C < s ∧ TB < s ∧ w.frozen? ⟨HD, 0, none⟩ = false ∧ Pin s w (backL B HD C J TB 3 ++ turnL TB 0 [2, 1, 2, 2, 2, 0, 2, 3, 1] ++ retL X B J)

section
variable {wI : World} {l : List Nat} {n : Nat} {Post : Value → World → Prop}

theorem runV_at (C TB : Nat) (w0 : World) (cR : Frame) (csR : List Frame) (hn : 0 < n) (hI : wI.heap.size ≤ w0.heap.size) (hl : ∀ B ∈ l, wI.heap.size ≤ B ∧ B < w0.heap.size) (iC : wI.heap.size ≤ C) (iT : wI.heap.size ≤ TB) (nC : C ∉ l) (nT : TB ∉ l)
    (hC0 : w0.cell? ⟨C, 0, none⟩ = some (.int .i64 5)) (hC1 : w0.cell? ⟨C, 1, none⟩ = some (.slice (some ⟨TB, 0, none⟩) 1 1)) (t0 : w0.cell? ⟨TB, 0, none⟩ = some (.int .i64 1)) (t1 : w0.cell? ⟨TB, 1, none⟩ = some (.int .i64 7)) (t2 : w0.cell? ⟨TB, 2, none⟩ = some (.int .i64 3))
    (hret : ∀ (A O : Nat) (x : Option Addr) (q cap : Nat) (xe : Option Addr) (ce : Nat) (w' : World), w0.heap.size ≤ A → A < w'.heap.size → w0.heap.size ≤ O → w'.cell? ⟨O, 0, none⟩ = some (.int .i64 8) → w'.cell? ⟨O, 1, none⟩ = some (.int .i64 1) → w'.cell? ⟨O, 2, none⟩ = some (.int .i64 7) → Stay [] w0.heap.size w0 w' → w0.heap.size ≤ w'.heap.size →
      At0 Tryz.prog Post (Old wI) (ShL (A :: l)) (n + 1) (G (cR.finish (.tuple #[.agg #[.slice (some ⟨O, 0, none⟩) 1 1, .slice xe 2 ce], .int .i64 0, .int .i64 0])) csR) w') :
    At0 Tryz.prog Post (Old wI) (ShL l) n (G (Frame.enter Tryz.prog 24 #[.slice none 0 0, .slice (some ⟨C, 0, none⟩) 1 1] .normal) (cR :: csR)) w0 := by
  have lC : C < w0.heap.size := lt_of_cell hC0
  have lT : TB < w0.heap.size := lt_of_cell t0
  refine run24_at (.slice none 0 0) (.slice none 0 0) C 138 8 1 7 8 5 (SQV C TB) (fun _ _ _ _ _ => True) (fun m => m = 2) w0 cR csR hn hI hl hC0 _ _ _ hC1 (fun w k => ?_) (fun w J k hJ => ?_) ?_ (fun _ _ _ _ _ _ _ _ _ _ _ _ => trivial) ?_ (fun A O N x q cap xe m ce w' h1 h2 h3 h4 _ _ hm p0 p1 p2 p3 hs hz => ?_)
  · have hc := check_x (Ok := OkS wI.heap.size l []) (main := true) w0.heap.size 0 0 1 1 none (some ⟨C, 0, none⟩) (fun _ _ => 0) (fun _ => ⟨5, some ⟨TB, 0, none⟩, 1, 1, fun _ j => if j = 0 then 1 else if j = 1 then 7 else 3⟩) w k.size (fun i hi => absurd hi (by omega))
      (fun i hi => ⟨C, 0, rfl, by have : i = 0 := (by omega); subst this; exact k.cell _ _ (by simp) hC0, by have : i = 0 := (by omega); subst this; exact k.cell _ _ (by simp) hC1, fun i' hi' => ⟨TB, 0, rfl, fun j hj => by have : i' = 0 := (by have h' : i' < 1 := hi'; omega); subst this; match j, hj with | 0, _ => exact k.cell _ _ (by simp) t0 | 1, _ => exact k.cell _ _ (by simp) t1 | 2, _ => exact k.cell _ _ (by simp) t2⟩⟩)
      (fun p hp => by cases hp) ⟨fun p hp a ha => by cases hp; exact ok_rdb (by rw [ha]; exact nC), fun i hi _ p hp a ha => by cases hp; exact ok_rdb (by rw [ha]; exact nT)⟩ (fun a wr h => ok_fr (N := w0.heap.size) (fun B hB => (hl B hB).2) (by omega) h (by simp) wr)
    exact hc.mono fun v w' hp => hp
  · refine (stack0_x C J w).mono fun v w' ⟨B, HD, h0, h1, h2, h3, h4, h5⟩ => ⟨HD, B, h0, h1, h2, by omega, h2, h3, h4, by have := k.size; have := h1.size; omega, by have := k.size; have := h1.size; omega, h5.zh, fun p hp => ?_⟩
    have kk : Kp [] w0 w' := k.callN h1 (by simp) (by simp)
    have hk1 := k.size
    have hk2 := h1.size
    simp only [backL, turnL, List.mem_append, List.mem_cons, List.not_mem_nil, or_false] at hp
    rcases hp with (rfl | rfl | rfl | rfl | rfl | rfl) | (rfl | rfl | rfl)
    · exact ⟨h5.b1, by dsimp only; omega⟩
    · exact ⟨h5.b2, by dsimp only; omega⟩
    · exact ⟨h5.b3, by dsimp only; omega⟩
    · exact ⟨h5.b4, by dsimp only; omega⟩
    · exact ⟨h5.h0, by dsimp only; omega⟩
    · exact ⟨kk.cell _ _ (by simp) hC1, by dsimp only; omega⟩
    · exact ⟨kk.cell _ _ (by simp) t0, by dsimp only; omega⟩
    · exact ⟨kk.cell _ _ (by simp) t1, by dsimp only; omega⟩
    · exact ⟨kk.cell _ _ (by simp) t2, by dsimp only; omega⟩
  · intro b s J HD X w w' L ⟨h1, h2, h3, h4, h5, h6, h7⟩ k hL
    refine ⟨h1, h2, h3, h4, h5, ?_, h7.kp k hL⟩
    have := h7 (⟨HD, 0, none⟩, .int .i64 0) (by simp [backL])
    exact (k.frozC _ _ (by simp) (fun z => by have := hL _ z; dsimp only at this; omega) this.1).trans h6
  · intro e Ok w b s HD X en1 K hcl H ⟨h1, h2, h3, h4, h5, h6, h7⟩ hJ0 hJ _ _ hA hT hN hok hok0 hb
    have hlt : ∀ B, w0.heap.size ≤ B → B ∉ l := fun B h z => by have := hl B z; omega
    have S : BkS e Ok X HD C TB := { lB := by omega, lH := by omega, lC := by omega, lT := by omega, bB := ⟨by omega, by omega, by omega, by omega⟩, bC := ⟨by omega, by omega, by omega, by omega⟩, bT := ⟨by omega, by omega, by omega, by omega⟩, bH := ⟨by omega, by omega, by omega⟩
                                     ok := fun a wr h => by
                                       rcases h with h | h | h | h
                                       · exact hok a wr (by omega) (by omega) (hlt _ (by omega))
                                       · exact hok a wr (by omega) (by omega) (hlt _ (by omega))
                                       · exact hok a wr (by omega) (by omega) (by rw [h]; exact nC)
                                       · exact hok a wr (by omega) (by omega) (by rw [h]; exact nT) }
    have pin : ∀ p, p ∈ backL X HD C e.J TB 1 ++ turnL TB 0 [1, 7, 3] → w.cell? p.1 = some p.2 := fun p hp => (h7 p hp).1
    have Q : Bk e X HD C TB 1 (fun _ => (1, 7, 3)) w 0 := ⟨pin (_, _) (by simp [backL]), pin (_, _) (by simp [backL]), pin (_, _) (by simp [backL]), pin (_, _) (by simp [backL]), pin (_, _) (by simp [backL]), pin (⟨HD, 0, none⟩, .int .i64 0) (by simp [backL]), h6, fun i hi => by
      have : i = 0 := by omega
      subst this
      exact ⟨pin (⟨TB, 0, none⟩, .int .i64 1) (by simp [turnL]), pin (⟨TB, 1, none⟩, .int .i64 7) (by simp [turnL]), pin (⟨TB, 2, none⟩, .int .i64 3) (by simp [turnL])⟩⟩
    intro Ψ0 Ψ1 W c cs hc
    refine callV_w e K hcl en1 (.slice none 0 0) 5 7 3 0 X HD C TB 1 0 (fun _ => (1, 7, 3)) w H (by omega) S Q (by omega) (by decide) rfl rfl rfl (by decide) (by decide) Ψ0 Ψ1 W c cs (fun v w' hp => hc v w' ?_)
    obtain ⟨rfl, en', ev', h8, h9⟩ := hp
    exact ⟨none, 0, 0, rfl, trivial, en', ev', 2, rfl, h8, h9⟩
  · subst hm
    exact hret A O x q cap xe ce w' h1 h2 h3 p0 p1 p2 hs hz

def LR (_ j : Nat) : Int := if j = 0 then 1 else if j = 1 then 3 else if j = 2 then 10 else if j = 3 then 2 else if j = 4 then 15 else 0
def TR (i j : Nat) : Int := if j = 0 then (turns3 i).1 else if j = 1 then (turns3 i).2.1 else (turns3 i).2.2
theorem runR_at (LB C TB : Nat) (w0 : World) (cR : Frame) (csR : List Frame) (hn : 0 < n) (i0 : 0 < wI.heap.size) (hI : wI.heap.size ≤ w0.heap.size) (hl : ∀ B ∈ l, wI.heap.size ≤ B ∧ B < w0.heap.size) (iL : wI.heap.size ≤ LB) (iC : wI.heap.size ≤ C) (iT : wI.heap.size ≤ TB) (hlL : ∀ B ∈ l, B < LB) (nL : LB ∉ l) (nC : C ∉ l) (nT : TB ∉ l)
    (hg : w0.cell? ⟨0, 0, none⟩ = some (.iface 217 (.agg #[.pointer (some ⟨1, 121, none⟩)])))
    (hL : ∀ j, j < 6 → w0.cell? ⟨LB, j, none⟩ = some (.int .i64 (LR 0 j))) (hC0 : w0.cell? ⟨C, 0, none⟩ = some (.int .i64 0)) (hC1 : w0.cell? ⟨C, 1, none⟩ = some (.slice (some ⟨TB, 0, none⟩) 3 3)) (ht : ∀ i, i < 3 → ∀ j, j < 3 → w0.cell? ⟨TB, i * 3 + j, none⟩ = some (.int .i64 (TR i j)))
    (hret : ∀ (A O N g : Nat) (cap : Nat) (xe : Option Addr) (m ce : Nat) (w' : World), w0.heap.size ≤ A → A < w'.heap.size → w0.heap.size ≤ O → w0.heap.size ≤ N → A < N → N ≤ g → Ch2 w' g → w'.cell? ⟨O, 0, none⟩ = some (.int .i64 28) → w'.cell? ⟨O, 3, none⟩ = some (.slice (some ⟨g, 0, none⟩) 2 cap) → Stay [] w0.heap.size w0 w' → w0.heap.size ≤ w'.heap.size →
      At0 Tryz.prog Post (Old wI) (ShL (A :: l)) (n + 1) (G (cR.finish (.tuple #[.agg #[.slice (some ⟨O, 0, none⟩) 1 1, .slice xe m ce], .int .i64 0, .int .i64 0])) csR) w') :
    At0 Tryz.prog Post (Old wI) (ShL l) n (G (Frame.enter Tryz.prog 24 #[.slice (some ⟨LB, 0, none⟩) 1 1, .slice (some ⟨C, 0, none⟩) 1 1] .normal) (cR :: csR)) w0 := by
  have lC : C < w0.heap.size := lt_of_cell hC0
  have lT : TB < w0.heap.size := lt_of_cell (ht 0 (by decide) 0 (by decide))
  have lL : LB < w0.heap.size := lt_of_cell (hL 0 (by decide))
  have hfr : ∀ (a : Addr) (wr : Bool), w0.heap.size ≤ a.block → OkS wI.heap.size l [] a wr := fun a wr h => ok_fr (N := w0.heap.size) (fun B hB => (hl B hB).2) (by omega) h (by simp) wr
  refine run24_at (.slice (some ⟨LB, 0, none⟩) 1 1) (.slice none 0 0) C 141 28 2 0 28 0 (SQR C TB) (fun N x q cap w => ∃ g, x = some ⟨g, 0, none⟩ ∧ q = 2 ∧ N ≤ g ∧ Ch2 w g) (fun m => True) w0 cR csR hn hI hl hC0 _ _ _ hC1 (fun w k => ?_) (fun w J k hJ => ?_) ?_ ?_ ?_ (fun A O N x q cap xe m ce w' h1 h2 h3 h4 h4' hx hm p0 p1 p2 p3 hs hz => ?_)
  · have hc := check_x (Ok := OkS wI.heap.size l []) (main := true) w0.heap.size 1 1 1 1 (some ⟨LB, 0, none⟩) (some ⟨C, 0, none⟩) LR (fun _ => ⟨0, some ⟨TB, 0, none⟩, 3, 3, TR⟩) w k.size (fun i hi => ⟨LB, 0, rfl, fun j hj => by have : i = 0 := (by omega); subst this; have := k.cell _ _ (by simp) (hL j hj); simpa using this⟩)
      (fun i hi => ⟨C, 0, rfl, by have : i = 0 := (by omega); subst this; exact k.cell _ _ (by simp) hC0, by have : i = 0 := (by omega); subst this; exact k.cell _ _ (by simp) hC1, fun i' hi' => ⟨TB, 0, rfl, fun j hj => by have := k.cell _ _ (by simp) (ht i' hi' j hj); simpa using this⟩⟩)
      (fun p hp a ha => by cases hp; exact ok_rdb (by rw [ha]; exact nL)) ⟨fun p hp a ha => by cases hp; exact ok_rdb (by rw [ha]; exact nC), fun i hi _ p hp a ha => by cases hp; exact ok_rdb (by rw [ha]; exact nT)⟩ hfr
    exact hc.mono fun v w' hp => hp
  · have c0 := fun j hj => k.cell _ _ (by simp) (hL j hj)
    have hk1 := k.size
    refine (stack1_x LB LB C J w (by omega) (fun a wr h => ok_fr (N := LB) hlL iL h (by simp) wr) (Nat.le_refl _) (c0 0 (by decide)) (c0 1 (by decide)) (c0 2 (by decide)) (c0 3 (by decide)) (c0 4 (by decide)) (c0 5 (by decide))).mono fun v w' ⟨B, HD, R, h0, h1, h2, h3, h4, h5, h6, r0, r1, r2, r3, r4, r5, r6⟩ => ⟨HD, R, h0, h1, h2, by omega, B, h2, h3, h4, h5, by have := h1.size; omega, by have := h1.size; omega, h6.zh, fun p hp => ?_⟩
    have kk : Kp [] w0 w' := k.callN h1 (by simp) (by simp)
    have hk2 := h1.size
    have tt : ∀ i, i < 3 → ∀ j, j < 3 → w'.cell? ⟨TB, i * 3 + j, none⟩ = some (.int .i64 (TR i j)) := fun i hi j hj => kk.cell _ _ (by simp) (ht i hi j hj)
    simp only [backL, turnL, retL, List.mem_append, List.mem_cons, List.not_mem_nil, or_false] at hp
    rcases hp with ((rfl | rfl | rfl | rfl | rfl | rfl) | (rfl | rfl | rfl | rfl | rfl | rfl | rfl | rfl | rfl)) | (rfl | rfl | rfl | rfl | rfl | rfl | rfl | rfl)
    · exact ⟨h6.b1, by dsimp only; omega⟩
    · exact ⟨h6.b2, by dsimp only; omega⟩
    · exact ⟨h6.b3, by dsimp only; omega⟩
    · exact ⟨h6.b4, by dsimp only; omega⟩
    · exact ⟨h6.h0, by dsimp only; omega⟩
    · exact ⟨kk.cell _ _ (by simp) hC1, by dsimp only; omega⟩
    · exact ⟨tt 0 (by decide) 0 (by decide), by dsimp only; omega⟩
    · exact ⟨tt 0 (by decide) 1 (by decide), by dsimp only; omega⟩
    · exact ⟨tt 0 (by decide) 2 (by decide), by dsimp only; omega⟩
    · exact ⟨tt 1 (by decide) 0 (by decide), by dsimp only; omega⟩
    · exact ⟨tt 1 (by decide) 1 (by decide), by dsimp only; omega⟩
    · exact ⟨tt 1 (by decide) 2 (by decide), by dsimp only; omega⟩
    · exact ⟨tt 2 (by decide) 0 (by decide), by dsimp only; omega⟩
    · exact ⟨tt 2 (by decide) 1 (by decide), by dsimp only; omega⟩
    · exact ⟨tt 2 (by decide) 2 (by decide), by dsimp only; omega⟩
    · exact ⟨r0, by dsimp only; omega⟩
    · exact ⟨r1, by dsimp only; omega⟩
    · exact ⟨r2, by dsimp only; omega⟩
    · exact ⟨r3, by dsimp only; omega⟩
    · exact ⟨r4, by dsimp only; omega⟩
    · exact ⟨r5, by dsimp only; omega⟩
    · exact ⟨r6, by dsimp only; omega⟩
    · exact ⟨kk.cell _ _ (by simp) hg, by dsimp only; omega⟩
  · intro b s J HD X w w' L ⟨B, h1, h2, h3, h4, h5, h5', h6, h7⟩ k hL'
    refine ⟨B, h1, h2, h3, h4, h5, h5', ?_, h7.kp k hL'⟩
    have := h7 (⟨HD, 0, none⟩, .int .i64 0) (by simp [backL])
    exact (k.frozC _ _ (by simp) (fun z => by have := hL' _ z; dsimp only at this; omega) this.1).trans h6
  · rintro N x q cap w w' L C' k hL' hC' ⟨g, h1, h2, h3, h4⟩
    exact ⟨g, h1, h2, h3, h4.kp k (fun z => by have := hL' _ z; omega) (fun y hy z => by have := hC' _ hy; omega)⟩
  · intro e Ok w b s HD X en1 K hcl H ⟨B, h1, h2, h3, h4, h5, h5', h6, h7⟩ hJ0 hJ _ _ hA hT hN hok hok0 hb
    have hlt : ∀ B, w0.heap.size ≤ B → B ∉ l := fun B h z => by have := hl B z; omega
    have S : BkS e Ok B HD C TB := { lB := by omega, lH := by omega, lC := by omega, lT := by omega, bB := ⟨by omega, by omega, by omega, by omega⟩, bC := ⟨by omega, by omega, by omega, by omega⟩, bT := ⟨by omega, by omega, by omega, by omega⟩, bH := ⟨by omega, by omega, by omega⟩
                                     ok := fun a wr h => by
                                       rcases h with h | h | h | h
                                       · exact hok a wr (by omega) (by omega) (hlt _ (by omega))
                                       · exact hok a wr (by omega) (by omega) (hlt _ (by omega))
                                       · exact hok a wr (by omega) (by omega) (by rw [h]; exact nC)
                                       · exact hok a wr (by omega) (by omega) (by rw [h]; exact nT) }
    have pin : ∀ p, p ∈ backL B HD C e.J TB 3 ++ turnL TB 0 [2, 1, 2, 2, 2, 0, 2, 3, 1] ++ retL X B e.J → w.cell? p.1 = some p.2 := fun p hp => (h7 p hp).1
    have Q : Bk e B HD C TB 3 turns3 w 0 := ⟨pin (_, _) (by simp [backL]), pin (_, _) (by simp [backL]), pin (_, _) (by simp [backL]), pin (_, _) (by simp [backL]), pin (_, _) (by simp [backL]), pin (⟨HD, 0, none⟩, .int .i64 0) (by simp [backL]), h6, fun i hi => by
      match i, hi with
      | 0, _ => exact ⟨pin (⟨TB, 0, none⟩, .int .i64 2) (by simp [turnL]), pin (⟨TB, 1, none⟩, .int .i64 1) (by simp [turnL]), pin (⟨TB, 2, none⟩, .int .i64 2) (by simp [turnL])⟩
      | 1, _ => exact ⟨pin (⟨TB, 3, none⟩, .int .i64 2) (by simp [turnL]), pin (⟨TB, 4, none⟩, .int .i64 2) (by simp [turnL]), pin (⟨TB, 5, none⟩, .int .i64 0) (by simp [turnL])⟩
      | 2, _ => exact ⟨pin (⟨TB, 6, none⟩, .int .i64 2) (by simp [turnL]), pin (⟨TB, 7, none⟩, .int .i64 3) (by simp [turnL]), pin (⟨TB, 8, none⟩, .int .i64 1) (by simp [turnL])⟩⟩
    have Y : Rt e X B w := ⟨pin (⟨X, 0, none⟩, _) (by simp [retL]), pin (⟨X, 1, none⟩, .int .i64 0) (by simp [retL]), pin (⟨X, 2, none⟩, .pointer (some ⟨e.J, 0, none⟩)) (by simp [retL]), pin (⟨X, 3, none⟩, .int .i64 3) (by simp [retL]), pin (⟨X, 4, none⟩, .int .i64 10) (by simp [retL]), pin (⟨X, 5, none⟩, .int .i64 2) (by simp [retL]), pin (⟨X, 6, none⟩, .int .i64 15) (by simp [retL])⟩
    have hsz := H.size
    intro Ψ0 Ψ1 W c cs hc
    refine callR_w e K hcl en1 (.slice none 0 0) X B HD C TB w (by omega) (hok0 0) ⟨by omega, by omega, by omega, by omega⟩ (pin (⟨0, 0, none⟩, _) (by simp [retL])) H S Q (by omega) (by omega) (by omega) (by omega) (by omega) Y (fun i => hok _ _ (by dsimp only; omega) (by dsimp only; omega) (hlt _ (by dsimp only; omega))) Ψ0 Ψ1 W c cs (fun v w' hp => hc v w' ?_)
    obtain ⟨g, cap, rfl, g1, g2, g3, en', ev', m, h8, h9⟩ := hp
    exact ⟨_, _, _, rfl, ⟨g, rfl, rfl, by omega, g3⟩, en', ev', m, trivial, h8, h9⟩
  · obtain ⟨g, rfl, rfl, g1, g2⟩ := hx
    exact hret A O N g cap xe m ce w' h1 h2 h3 h4 h4' g1 g2 p0 p3 hs hz
end

end Go.Proofs.YtobagnjnbmgidaaGreatDoor
