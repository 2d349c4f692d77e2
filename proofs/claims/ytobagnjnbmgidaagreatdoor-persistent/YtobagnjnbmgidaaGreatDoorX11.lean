/- The journal. -/
import Derived.Test.YtobagnjnbmgidaaGreatDoorX8
set_option linter.unusedSimpArgs false
set_option linter.unusedVariables false
namespace Go.Proofs.YtobagnjnbmgidaaGreatDoor
open Go.Conc Go.RowKit
variable {main : Bool} {Ok : Addr → Bool → Prop}

/-- An event's cells. -/
abbrev evc (now cl num what nn : Int) : List Value := [.int .i64 now, .int .i64 cl, .int .i64 num, .int .i64 what, .int .i64 nn]

theorem row_ge {w : World} {N m size : Nat} {t : TypeId} {ev : Value} {xs : List Value} (h : w.ownsRow N t size ev m xs) {g : Nat} (hg : g ∈ rowL ev) : N ≤ g ∧ g < w.heap.size := by
  rw [mem_rowL] at hg
  rcases h.2 with ⟨rfl, _⟩ | ⟨g', cap, cur, rfl, h1, h2, _⟩
  · cases hg
  · simp [Value.ownBlock] at hg
    subst hg
    exact ⟨h1, (Array.getElem?_eq_some_iff.1 h2).1⟩
theorem not_row {w : World} {N m size B : Nat} {t : TypeId} {ev : Value} {xs : List Value} (h : w.ownsRow N t size ev m xs) (hB : B < N) : B ∉ rowL ev := fun z => by have := (row_ge h z).1; omega

set_option maxRecDepth 100000 in
set_option maxHeartbeats 4000000 in
theorem tell_x (N cb J T A m : Nat) (now cl num what nn : Int) (ev : Value) (xs : List Value) (w0 : World) (hN : N ≤ w0.heap.size) (l1 : cb < N) (l2 : J < N) (l3 : T < N) (l4 : A < N) (n1' : J ≠ cb) (n2' : J ≠ T) (n3' : J ≠ A)
    (hj : w0.cell? ⟨cb, 2, none⟩ = some (.pointer (some ⟨J, 0, none⟩))) (hn : w0.cell? ⟨cb, 1, none⟩ = some (.int .i64 num)) (ht0 : w0.cell? ⟨T, 0, none⟩ = some (.pointer (some ⟨A, 0, none⟩))) (ht2 : w0.cell? ⟨T, 2, none⟩ = some (.int .i64 cl))
    (ha0 : w0.cell? ⟨A, 0, none⟩ = some (.int .i64 now)) (hJ : w0.cell? ⟨J, 0, none⟩ = some ev) (zJ : w0.frozen? ⟨J, 0, none⟩ = false) (hrow : w0.ownsRow N 55 5 ev m xs) (hm : m < 1000)
    (hok : ∀ a, a = ⟨cb, 2, none⟩ ∨ a = ⟨cb, 1, none⟩ ∨ a = ⟨T, 0, none⟩ ∨ a = ⟨T, 2, none⟩ ∨ a = ⟨A, 0, none⟩ → Ok a false) (okJ : Ok ⟨J, 0, none⟩ false) (okJ' : Ok ⟨J, 0, none⟩ true) (hfr : ∀ a wr, N ≤ a.block → Ok a wr) :
    CallsX Tryz.prog main (DX Ok) 149 #[.pointer (some ⟨cb, 0, none⟩), .pointer (some ⟨T, 0, none⟩), .int .i64 what, .int .i64 nn] w0 fun v w' => v = .tuple #[] ∧ Kp (J :: rowL ev) w0 w' ∧ ∃ ev', w'.cell? ⟨J, 0, none⟩ = some ev' ∧ w'.frozen? ⟨J, 0, none⟩ = false ∧ w'.ownsRow N 55 5 ev' (m + 1) (xs ++ evc now cl num what nn) ∧ ∀ g ∈ rowL ev', g ∈ rowL ev ∨ w0.heap.size ≤ g := by
  intro Ψ F c cs hc
  have k0 : ∀ a, a = ⟨cb, 2, none⟩ ∨ a = ⟨cb, 1, none⟩ ∨ a = ⟨T, 0, none⟩ ∨ a = ⟨T, 2, none⟩ ∨ a = ⟨A, 0, none⟩ → Ok a false := fun a h => hok a h
  have o1 := k0 ⟨cb, 2, none⟩ (by simp)
  have o2 := k0 ⟨cb, 1, none⟩ (by simp)
  have o3 := k0 ⟨T, 0, none⟩ (by simp)
  have o4 := k0 ⟨T, 2, none⟩ (by simp)
  have o5 := k0 ⟨A, 0, none⟩ (by simp)
  clear hok k0
  have q1 := not_row hrow l1
  have q2 := not_row hrow l2
  have q3 := not_row hrow l3
  have q4 := not_row hrow l4
  have okrow : ∀ (ad : Addr) (wr : Bool), some ad.block = ev.ownBlock → Ok ad wr := fun ad wr h => hfr ad wr (row_ge hrow (mem_rowL.2 h.symm)).1
  obtain ⟨inf, z, i1, i2, i3, i4, i5⟩ := inf55
  rw [enter_at _ Tryz.func149 rfl]
  simp only [Tryz.ntmps149, List.size_toArray, List.length_cons, List.length_nil, Nat.reduceAdd, Nat.reduceSub, Array.replicate_succ, Array.replicate_zero, List.push_toArray, List.append_toArray, List.nil_append, List.cons_append]
  have kp : Kp (J :: rowL ev) w0 w0 := Kp.refl _
  refine F.drawB (γ := Nat × Value) (n := 27) mixed [[], [0], [1], [2], [], [4], [5], [6], [7], [8], [9], [], [11], [], [12, 13], [], [15], [16], [17], [], [], [12, 14, 18, 19, 20], [21], [10, 14, 22], [0, 1, 2, 3, 4, 5, 6, 7, 8, 9, 10, 11, 12, 13, 14, 15, 16, 17, 18, 19, 20, 21, 22, 23], [0, 1, 2, 3, 4, 5, 6, 7, 8, 9, 10, 11, 12, 13, 14, 15, 16, 17, 18, 19, 20, 21, 22, 23, 24], [0, 1, 2, 3, 4, 5, 6, 7, 8, 9, 10, 11, 12, 13, 14, 15, 16, 17, 18, 19, 20, 21, 22, 23, 25]] rfl (by kernel_rfl) (fun b g => [(8, sel (b 0) (.pointer (some ⟨cb, 0, none⟩)) (undef)), (9, sel (b 1) (.pointer (some ⟨cb, 0, none⟩)) (undef)), (10, sel (b 2) (.pointer (some ⟨cb, 2, none⟩)) (undef)), (11, sel (b 3) (.pointer (some ⟨J, 0, none⟩)) (undef)), (12, sel (b 4) (.pointer (some ⟨cb, 0, none⟩)) (undef)), (13, sel (b 5) (.pointer (some ⟨cb, 0, none⟩)) (undef)), (14, sel (b 6) (.pointer (some ⟨cb, 2, none⟩)) (undef)), (15, sel (b 7) (.pointer (some ⟨J, 0, none⟩)) (undef)), (16, sel (b 8) (.pointer (some ⟨J, 0, none⟩)) (undef)), (17, sel (b 9) (.pointer (some ⟨J, 0, none⟩)) (undef)), (18, sel (b 10) (ev) (undef)), (19, sel (b 11) (.pointer (some ⟨T, 0, none⟩)) (undef)), (20, sel (b 12) (.int .i64 now) (undef)), (21, sel (b 13) (.pointer (some ⟨T, 0, none⟩)) (undef)), (22, sel (b 14) (.int .i64 cl) (undef)), (23, sel (b 15) (.pointer (some ⟨cb, 0, none⟩)) (undef)), (24, sel (b 16) (.pointer (some ⟨cb, 0, none⟩)) (undef)), (25, sel (b 17) (.pointer (some ⟨cb, 1, none⟩)) (undef)), (26, sel (b 18) (.int .i64 num) (undef)), (27, sel (b 19) (.int .i64 what) (undef)), (28, sel (b 20) (.int .i64 nn) (undef)), (29, sel (b 21) (.agg #[.int .i64 now, .int .i64 cl, .int .i64 num, .int .i64 what, .int .i64 nn]) (undef)), (30, sel (b 22) (.slice (some ⟨g.1, 0, none⟩) 1 1) (undef)), (31, sel (b 23) (g.2) (undef)), (32, sel (b 24) (.pointer (some ⟨J, 0, none⟩)) (undef)), (33, sel (b 25) (.pointer (some ⟨J, 0, none⟩)) (undef))]) (fun b g w => (b 26 = false → ((Kp (J :: rowL ev) w0 w) ∧ (w.cell? ⟨cb, 2, none⟩ = some (.pointer (some ⟨J, 0, none⟩))) ∧ (w.cell? ⟨cb, 1, none⟩ = some (.int .i64 num)) ∧ (w.cell? ⟨T, 0, none⟩ = some (.pointer (some ⟨A, 0, none⟩))) ∧ (w.cell? ⟨T, 2, none⟩ = some (.int .i64 cl)) ∧ (w.cell? ⟨A, 0, none⟩ = some (.int .i64 now)) ∧ (w.cell? ⟨J, 0, none⟩ = some ev) ∧ (w.frozen? ⟨J, 0, none⟩ = false) ∧ (b 23 = false → w.ownsRow N 55 5 ev m xs) ∧ (b 22 = true → b 23 = false → w0.heap.size ≤ g.1 ∧ g.1 < w.heap.size ∧ w.cell? ⟨g.1, 0, none⟩ = some (.int .i64 now) ∧ w.cell? ⟨g.1, 1, none⟩ = some (.int .i64 cl) ∧ w.cell? ⟨g.1, 2, none⟩ = some (.int .i64 num) ∧ w.cell? ⟨g.1, 3, none⟩ = some (.int .i64 what) ∧ w.cell? ⟨g.1, 4, none⟩ = some (.int .i64 nn)) ∧ (b 23 = true → w.ownsRow N 55 5 g.2 (m + 1) (xs ++ evc now cl num what nn) ∧ ∀ x ∈ rowL g.2, x ∈ rowL ev ∨ w0.heap.size ≤ x))) ∧ (b 26 = true → ( Kp (J :: rowL ev) w0 w ∧ ∃ ev', w.cell? ⟨J, 0, none⟩ = some ev' ∧ w.frozen? ⟨J, 0, none⟩ = false ∧ w.ownsRow N 55 5 ev' (m + 1) (xs ++ evc now cl num what nn) ∧ ∀ g ∈ rowL ev', g ∈ rowL ev ∨ w0.heap.size ≤ g))) ((0, undef)) (by simp only [pu, Nat.reduceAdd, Nat.reduceEqDiff, reduceIte]) (⟨fun _ => ⟨kp, hj, hn, ht0, ht2, ha0, hJ, zJ, fun _ => hrow, fun h => (by cases h), fun h => (by cases h)⟩, fun h => by cases h⟩) (all_cons ?_ (all_cons ?_ (all_cons ?_ (all_cons ?_ (all_cons ?_ (all_cons ?_ (all_cons ?_ (all_cons ?_ (all_cons ?_ (all_cons ?_ (all_cons ?_ (all_cons ?_ (all_cons ?_ (all_cons ?_ (all_cons ?_ (all_cons ?_ (all_cons ?_ (all_cons ?_ (all_cons ?_ (all_cons ?_ (all_cons ?_ (all_cons ?_ (all_cons ?_ (all_cons ?_ (all_cons ?_ (all_cons ?_ (all_cons ?_ (all_nil)))))))))))))))))))))))))))) ?_
  · intro b g w hI hcl hbi hdp rest hre hkk
    obtain ⟨hwf, hwt⟩ := hI
    replace hbi : b 0 = false := hbi
    have nb1 := nbf (hcl 1 0 rfl) hbi
    have nb24 := nbf (hcl 24 0 rfl) hbi
    have nb25 := nbf (hcl 25 0 rfl) hbi
    have nb26 := nbf (hcl 26 0 rfl) hbi
    obtain ⟨kp, hj, hn, ht0, ht2, ha0, hJ, zJ, hro, hnb, hrr⟩ := hwf nb26
    clear hwf hwt
    simp only [nb1, nb24, nb25, nb26, hbi, pu, Nat.reduceAdd, Nat.reduceEqDiff, reduceIte]
    refine F.oq rfl rfl rfl (fun _ => by simp [go_sem]) fun d K hK => ?_; go_simp; refine hK _ ?_; clear hK K d; try walk_nrm
    have hk2 := hkk g _ ⟨fun _ => ⟨kp, hj, hn, ht0, ht2, ha0, hJ, zJ, hro, hnb, hrr⟩, fun h => no nb26 h⟩
    simp only [nb1, nb24, nb25, nb26, hbi, pu, Nat.reduceAdd, Nat.reduceEqDiff, reduceIte] at hk2
    exact hk2
  · intro b g w hI hcl hbi hdp rest hre hkk
    obtain ⟨hwf, hwt⟩ := hI
    replace hbi : b 1 = false := hbi
    have d0 := hdp 0 rfl
    have nb2 := nbf (hcl 2 1 rfl) hbi
    have nb24 := nbf (hcl 24 1 rfl) hbi
    have nb25 := nbf (hcl 25 1 rfl) hbi
    have nb26 := nbf (hcl 26 1 rfl) hbi
    obtain ⟨kp, hj, hn, ht0, ht2, ha0, hJ, zJ, hro, hnb, hrr⟩ := hwf nb26
    clear hwf hwt
    simp only [d0, nb2, nb24, nb25, nb26, hbi, pu, Nat.reduceAdd, Nat.reduceEqDiff, reduceIte]
    refine F.oq rfl rfl rfl (fun _ => by simp [go_sem]) fun d K hK => ?_; go_simp; refine hK _ ?_; clear hK K d; try walk_nrm
    have hk2 := hkk g _ ⟨fun _ => ⟨kp, hj, hn, ht0, ht2, ha0, hJ, zJ, hro, hnb, hrr⟩, fun h => no nb26 h⟩
    simp only [d0, nb2, nb24, nb25, nb26, hbi, pu, Nat.reduceAdd, Nat.reduceEqDiff, reduceIte] at hk2
    exact hk2
  · intro b g w hI hcl hbi hdp rest hre hkk
    obtain ⟨hwf, hwt⟩ := hI
    replace hbi : b 2 = false := hbi
    have d1 := hdp 1 rfl
    have d0 := hcl 1 0 rfl d1
    have nb3 := nbf (hcl 3 2 rfl) hbi
    have nb24 := nbf (hcl 24 2 rfl) hbi
    have nb25 := nbf (hcl 25 2 rfl) hbi
    have nb26 := nbf (hcl 26 2 rfl) hbi
    obtain ⟨kp, hj, hn, ht0, ht2, ha0, hJ, zJ, hro, hnb, hrr⟩ := hwf nb26
    clear hwf hwt
    simp only [d1, d0, nb3, nb24, nb25, nb26, hbi, pu, Nat.reduceAdd, Nat.reduceEqDiff, reduceIte]
    refine F.oq rfl rfl rfl (fun _ => by simp [go_sem]) fun d K hK => ?_; go_simp; refine hK _ ?_; clear hK K d; try walk_nrm
    have hk2 := hkk g _ ⟨fun _ => ⟨kp, hj, hn, ht0, ht2, ha0, hJ, zJ, hro, hnb, hrr⟩, fun h => no nb26 h⟩
    simp only [d1, d0, nb3, nb24, nb25, nb26, hbi, pu, Nat.reduceAdd, Nat.reduceEqDiff, reduceIte] at hk2
    exact hk2
  · intro b g w hI hcl hbi hdp rest hre hkk
    obtain ⟨hwf, hwt⟩ := hI
    replace hbi : b 3 = false := hbi
    have d2 := hdp 2 rfl
    have d1 := hcl 2 1 rfl d2
    have d0 := hcl 1 0 rfl d1
    have nb24 := nbf (hcl 24 3 rfl) hbi
    have nb25 := nbf (hcl 25 3 rfl) hbi
    have nb26 := nbf (hcl 26 3 rfl) hbi
    obtain ⟨kp, hj, hn, ht0, ht2, ha0, hJ, zJ, hro, hnb, hrr⟩ := hwf nb26
    clear hwf hwt
    simp only [d2, d1, d0, nb24, nb25, nb26, hbi, pu, Nat.reduceAdd, Nat.reduceEqDiff, reduceIte]
    refine F.ol rfl rfl rfl fun d K hK => ?_
    go_simp
    refine hK _ (fun e hm => ?_) ?_
    · simp [go_sem, *] at hm
      subst hm
      exact evr (w := w) (by assumption) (by first | assumption | (apply hfr <;> dsimp only <;> omega) | (apply hok; simp; done))
    clear hK K d
    try walk_nrm
    have hk2 := hkk g _ ⟨fun _ => ⟨kp, hj, hn, ht0, ht2, ha0, hJ, zJ, hro, hnb, hrr⟩, fun h => no nb26 h⟩
    simp only [d2, d1, d0, nb24, nb25, nb26, hbi, pu, Nat.reduceAdd, Nat.reduceEqDiff, reduceIte] at hk2
    exact hk2
  · intro b g w hI hcl hbi hdp rest hre hkk
    obtain ⟨hwf, hwt⟩ := hI
    replace hbi : b 4 = false := hbi
    have nb5 := nbf (hcl 5 4 rfl) hbi
    have nb24 := nbf (hcl 24 4 rfl) hbi
    have nb25 := nbf (hcl 25 4 rfl) hbi
    have nb26 := nbf (hcl 26 4 rfl) hbi
    obtain ⟨kp, hj, hn, ht0, ht2, ha0, hJ, zJ, hro, hnb, hrr⟩ := hwf nb26
    clear hwf hwt
    simp only [nb5, nb24, nb25, nb26, hbi, pu, Nat.reduceAdd, Nat.reduceEqDiff, reduceIte]
    refine F.oq rfl rfl rfl (fun _ => by simp [go_sem]) fun d K hK => ?_; go_simp; refine hK _ ?_; clear hK K d; try walk_nrm
    have hk2 := hkk g _ ⟨fun _ => ⟨kp, hj, hn, ht0, ht2, ha0, hJ, zJ, hro, hnb, hrr⟩, fun h => no nb26 h⟩
    simp only [nb5, nb24, nb25, nb26, hbi, pu, Nat.reduceAdd, Nat.reduceEqDiff, reduceIte] at hk2
    exact hk2
  · intro b g w hI hcl hbi hdp rest hre hkk
    obtain ⟨hwf, hwt⟩ := hI
    replace hbi : b 5 = false := hbi
    have d4 := hdp 4 rfl
    have nb6 := nbf (hcl 6 5 rfl) hbi
    have nb24 := nbf (hcl 24 5 rfl) hbi
    have nb25 := nbf (hcl 25 5 rfl) hbi
    have nb26 := nbf (hcl 26 5 rfl) hbi
    obtain ⟨kp, hj, hn, ht0, ht2, ha0, hJ, zJ, hro, hnb, hrr⟩ := hwf nb26
    clear hwf hwt
    simp only [d4, nb6, nb24, nb25, nb26, hbi, pu, Nat.reduceAdd, Nat.reduceEqDiff, reduceIte]
    refine F.oq rfl rfl rfl (fun _ => by simp [go_sem]) fun d K hK => ?_; go_simp; refine hK _ ?_; clear hK K d; try walk_nrm
    have hk2 := hkk g _ ⟨fun _ => ⟨kp, hj, hn, ht0, ht2, ha0, hJ, zJ, hro, hnb, hrr⟩, fun h => no nb26 h⟩
    simp only [d4, nb6, nb24, nb25, nb26, hbi, pu, Nat.reduceAdd, Nat.reduceEqDiff, reduceIte] at hk2
    exact hk2
  · intro b g w hI hcl hbi hdp rest hre hkk
    obtain ⟨hwf, hwt⟩ := hI
    replace hbi : b 6 = false := hbi
    have d5 := hdp 5 rfl
    have d4 := hcl 5 4 rfl d5
    have nb7 := nbf (hcl 7 6 rfl) hbi
    have nb24 := nbf (hcl 24 6 rfl) hbi
    have nb25 := nbf (hcl 25 6 rfl) hbi
    have nb26 := nbf (hcl 26 6 rfl) hbi
    obtain ⟨kp, hj, hn, ht0, ht2, ha0, hJ, zJ, hro, hnb, hrr⟩ := hwf nb26
    clear hwf hwt
    simp only [d5, d4, nb7, nb24, nb25, nb26, hbi, pu, Nat.reduceAdd, Nat.reduceEqDiff, reduceIte]
    refine F.oq rfl rfl rfl (fun _ => by simp [go_sem]) fun d K hK => ?_; go_simp; refine hK _ ?_; clear hK K d; try walk_nrm
    have hk2 := hkk g _ ⟨fun _ => ⟨kp, hj, hn, ht0, ht2, ha0, hJ, zJ, hro, hnb, hrr⟩, fun h => no nb26 h⟩
    simp only [d5, d4, nb7, nb24, nb25, nb26, hbi, pu, Nat.reduceAdd, Nat.reduceEqDiff, reduceIte] at hk2
    exact hk2
  · intro b g w hI hcl hbi hdp rest hre hkk
    obtain ⟨hwf, hwt⟩ := hI
    replace hbi : b 7 = false := hbi
    have d6 := hdp 6 rfl
    have d5 := hcl 6 5 rfl d6
    have d4 := hcl 5 4 rfl d5
    have nb8 := nbf (hcl 8 7 rfl) hbi
    have nb24 := nbf (hcl 24 7 rfl) hbi
    have nb25 := nbf (hcl 25 7 rfl) hbi
    have nb26 := nbf (hcl 26 7 rfl) hbi
    obtain ⟨kp, hj, hn, ht0, ht2, ha0, hJ, zJ, hro, hnb, hrr⟩ := hwf nb26
    clear hwf hwt
    simp only [d6, d5, d4, nb8, nb24, nb25, nb26, hbi, pu, Nat.reduceAdd, Nat.reduceEqDiff, reduceIte]
    refine F.ol rfl rfl rfl fun d K hK => ?_
    go_simp
    refine hK _ (fun e hm => ?_) ?_
    · simp [go_sem, *] at hm
      subst hm
      exact evr (w := w) (by assumption) (by first | assumption | (apply hfr <;> dsimp only <;> omega) | (apply hok; simp; done))
    clear hK K d
    try walk_nrm
    have hk2 := hkk g _ ⟨fun _ => ⟨kp, hj, hn, ht0, ht2, ha0, hJ, zJ, hro, hnb, hrr⟩, fun h => no nb26 h⟩
    simp only [d6, d5, d4, nb8, nb24, nb25, nb26, hbi, pu, Nat.reduceAdd, Nat.reduceEqDiff, reduceIte] at hk2
    exact hk2
  · intro b g w hI hcl hbi hdp rest hre hkk
    obtain ⟨hwf, hwt⟩ := hI
    replace hbi : b 8 = false := hbi
    have d7 := hdp 7 rfl
    have d6 := hcl 7 6 rfl d7
    have d5 := hcl 6 5 rfl d6
    have d4 := hcl 5 4 rfl d5
    have nb9 := nbf (hcl 9 8 rfl) hbi
    have nb24 := nbf (hcl 24 8 rfl) hbi
    have nb25 := nbf (hcl 25 8 rfl) hbi
    have nb26 := nbf (hcl 26 8 rfl) hbi
    obtain ⟨kp, hj, hn, ht0, ht2, ha0, hJ, zJ, hro, hnb, hrr⟩ := hwf nb26
    clear hwf hwt
    simp only [d7, d6, d5, d4, nb9, nb24, nb25, nb26, hbi, pu, Nat.reduceAdd, Nat.reduceEqDiff, reduceIte]
    refine F.oq rfl rfl rfl (fun _ => by simp [go_sem]) fun d K hK => ?_; go_simp; refine hK _ ?_; clear hK K d; try walk_nrm
    have hk2 := hkk g _ ⟨fun _ => ⟨kp, hj, hn, ht0, ht2, ha0, hJ, zJ, hro, hnb, hrr⟩, fun h => no nb26 h⟩
    simp only [d7, d6, d5, d4, nb9, nb24, nb25, nb26, hbi, pu, Nat.reduceAdd, Nat.reduceEqDiff, reduceIte] at hk2
    exact hk2
  · intro b g w hI hcl hbi hdp rest hre hkk
    obtain ⟨hwf, hwt⟩ := hI
    replace hbi : b 9 = false := hbi
    have d8 := hdp 8 rfl
    have d7 := hcl 8 7 rfl d8
    have d6 := hcl 7 6 rfl d7
    have d5 := hcl 6 5 rfl d6
    have d4 := hcl 5 4 rfl d5
    have nb10 := nbf (hcl 10 9 rfl) hbi
    have nb24 := nbf (hcl 24 9 rfl) hbi
    have nb25 := nbf (hcl 25 9 rfl) hbi
    have nb26 := nbf (hcl 26 9 rfl) hbi
    obtain ⟨kp, hj, hn, ht0, ht2, ha0, hJ, zJ, hro, hnb, hrr⟩ := hwf nb26
    clear hwf hwt
    simp only [d8, d7, d6, d5, d4, nb10, nb24, nb25, nb26, hbi, pu, Nat.reduceAdd, Nat.reduceEqDiff, reduceIte]
    refine F.oq rfl rfl rfl (fun _ => by simp [go_sem]) fun d K hK => ?_; go_simp; refine hK _ ?_; clear hK K d; try walk_nrm
    have hk2 := hkk g _ ⟨fun _ => ⟨kp, hj, hn, ht0, ht2, ha0, hJ, zJ, hro, hnb, hrr⟩, fun h => no nb26 h⟩
    simp only [d8, d7, d6, d5, d4, nb10, nb24, nb25, nb26, hbi, pu, Nat.reduceAdd, Nat.reduceEqDiff, reduceIte] at hk2
    exact hk2
  · intro b g w hI hcl hbi hdp rest hre hkk
    obtain ⟨hwf, hwt⟩ := hI
    replace hbi : b 10 = false := hbi
    have d9 := hdp 9 rfl
    have d8 := hcl 9 8 rfl d9
    have d7 := hcl 8 7 rfl d8
    have d6 := hcl 7 6 rfl d7
    have d5 := hcl 6 5 rfl d6
    have d4 := hcl 5 4 rfl d5
    have nb23 := nbf (hcl 23 10 rfl) hbi
    have nb24 := nbf (hcl 24 10 rfl) hbi
    have nb25 := nbf (hcl 25 10 rfl) hbi
    have nb26 := nbf (hcl 26 10 rfl) hbi
    obtain ⟨kp, hj, hn, ht0, ht2, ha0, hJ, zJ, hro, hnb, hrr⟩ := hwf nb26
    clear hwf hwt
    simp only [d9, d8, d7, d6, d5, d4, nb23, nb24, nb25, nb26, hbi, pu, Nat.reduceAdd, Nat.reduceEqDiff, reduceIte]
    refine F.ol rfl rfl rfl fun d K hK => ?_
    go_simp
    refine hK _ (fun e hm => ?_) ?_
    · simp [go_sem, *] at hm
      subst hm
      exact evr (w := w) (by assumption) (by first | assumption | (apply hfr <;> dsimp only <;> omega) | (apply hok; simp; done))
    clear hK K d
    try walk_nrm
    have hk2 := hkk g _ ⟨fun _ => ⟨kp, hj, hn, ht0, ht2, ha0, hJ, zJ, hro, hnb, hrr⟩, fun h => no nb26 h⟩
    simp only [d9, d8, d7, d6, d5, d4, nb23, nb24, nb25, nb26, hbi, pu, Nat.reduceAdd, Nat.reduceEqDiff, reduceIte] at hk2
    exact hk2
  · intro b g w hI hcl hbi hdp rest hre hkk
    obtain ⟨hwf, hwt⟩ := hI
    replace hbi : b 11 = false := hbi
    have nb12 := nbf (hcl 12 11 rfl) hbi
    have nb24 := nbf (hcl 24 11 rfl) hbi
    have nb25 := nbf (hcl 25 11 rfl) hbi
    have nb26 := nbf (hcl 26 11 rfl) hbi
    obtain ⟨kp, hj, hn, ht0, ht2, ha0, hJ, zJ, hro, hnb, hrr⟩ := hwf nb26
    clear hwf hwt
    simp only [nb12, nb24, nb25, nb26, hbi, pu, Nat.reduceAdd, Nat.reduceEqDiff, reduceIte]
    refine F.oq rfl rfl rfl (fun _ => by simp [go_sem]) fun d K hK => ?_; go_simp; refine hK _ ?_; clear hK K d; try walk_nrm
    have hk2 := hkk g _ ⟨fun _ => ⟨kp, hj, hn, ht0, ht2, ha0, hJ, zJ, hro, hnb, hrr⟩, fun h => no nb26 h⟩
    simp only [nb12, nb24, nb25, nb26, hbi, pu, Nat.reduceAdd, Nat.reduceEqDiff, reduceIte] at hk2
    exact hk2
  · intro b g w hI hcl hbi hdp rest hre hkk
    obtain ⟨hwf, hwt⟩ := hI
    replace hbi : b 12 = false := hbi
    have d11 := hdp 11 rfl
    have nb14 := nbf (hcl 14 12 rfl) hbi
    have nb21 := nbf (hcl 21 12 rfl) hbi
    have nb24 := nbf (hcl 24 12 rfl) hbi
    have nb25 := nbf (hcl 25 12 rfl) hbi
    have nb26 := nbf (hcl 26 12 rfl) hbi
    obtain ⟨kp, hj, hn, ht0, ht2, ha0, hJ, zJ, hro, hnb, hrr⟩ := hwf nb26
    clear hwf hwt
    simp only [d11, nb14, nb21, nb24, nb25, nb26, hbi, pu, Nat.reduceAdd, Nat.reduceEqDiff, reduceIte]
    refine F.enter rfl rfl (by decide) (fun _ => run_call_body rfl Tryz.func53 (by rfl) (by rfl)) (fun _ => events_call_body rfl Tryz.func53 (by rfl) (by rfl) _) ?_
    walk_nrm
    refine now_x T A now w ht0 ha0 o3 o5 Ψ F _ _ (fun v w' hp => ?_)
    obtain ⟨rfl, rfl⟩ := hp
    rw [Frame.finish_at]
    try walk_nrm
    have hk2 := hkk g _ ⟨fun _ => ⟨kp, hj, hn, ht0, ht2, ha0, hJ, zJ, hro, hnb, hrr⟩, fun h => no nb26 h⟩
    simp only [d11, nb14, nb21, nb24, nb25, nb26, hbi, pu, Nat.reduceAdd, Nat.reduceEqDiff, reduceIte] at hk2
    exact hk2
  · intro b g w hI hcl hbi hdp rest hre hkk
    obtain ⟨hwf, hwt⟩ := hI
    replace hbi : b 13 = false := hbi
    have nb14 := nbf (hcl 14 13 rfl) hbi
    have nb24 := nbf (hcl 24 13 rfl) hbi
    have nb25 := nbf (hcl 25 13 rfl) hbi
    have nb26 := nbf (hcl 26 13 rfl) hbi
    obtain ⟨kp, hj, hn, ht0, ht2, ha0, hJ, zJ, hro, hnb, hrr⟩ := hwf nb26
    clear hwf hwt
    simp only [nb14, nb24, nb25, nb26, hbi, pu, Nat.reduceAdd, Nat.reduceEqDiff, reduceIte]
    refine F.oq rfl rfl rfl (fun _ => by simp [go_sem]) fun d K hK => ?_; go_simp; refine hK _ ?_; clear hK K d; try walk_nrm
    have hk2 := hkk g _ ⟨fun _ => ⟨kp, hj, hn, ht0, ht2, ha0, hJ, zJ, hro, hnb, hrr⟩, fun h => no nb26 h⟩
    simp only [nb14, nb24, nb25, nb26, hbi, pu, Nat.reduceAdd, Nat.reduceEqDiff, reduceIte] at hk2
    exact hk2
  · intro b g w hI hcl hbi hdp rest hre hkk
    obtain ⟨hwf, hwt⟩ := hI
    replace hbi : b 14 = false := hbi
    have d12 := hdp 12 rfl
    have d13 := hdp 13 rfl
    have d11 := hcl 12 11 rfl d12
    have nb21 := nbf (hcl 21 14 rfl) hbi
    have nb23 := nbf (hcl 23 14 rfl) hbi
    have nb24 := nbf (hcl 24 14 rfl) hbi
    have nb25 := nbf (hcl 25 14 rfl) hbi
    have nb26 := nbf (hcl 26 14 rfl) hbi
    obtain ⟨kp, hj, hn, ht0, ht2, ha0, hJ, zJ, hro, hnb, hrr⟩ := hwf nb26
    clear hwf hwt
    simp only [d12, d13, d11, nb21, nb23, nb24, nb25, nb26, hbi, pu, Nat.reduceAdd, Nat.reduceEqDiff, reduceIte]
    refine F.enter rfl rfl (by decide) (fun _ => run_call_body rfl Tryz.func148 (by rfl) (by rfl)) (fun _ => events_call_body rfl Tryz.func148 (by rfl) (by rfl) _) ?_
    walk_nrm
    refine client_x T cl w ht2 o4 Ψ F _ _ (fun v w' hp => ?_)
    obtain ⟨rfl, rfl⟩ := hp
    rw [Frame.finish_at]
    try walk_nrm
    have hk2 := hkk g _ ⟨fun _ => ⟨kp, hj, hn, ht0, ht2, ha0, hJ, zJ, hro, hnb, hrr⟩, fun h => no nb26 h⟩
    simp only [d12, d13, d11, nb21, nb23, nb24, nb25, nb26, hbi, pu, Nat.reduceAdd, Nat.reduceEqDiff, reduceIte] at hk2
    exact hk2
  · intro b g w hI hcl hbi hdp rest hre hkk
    obtain ⟨hwf, hwt⟩ := hI
    replace hbi : b 15 = false := hbi
    have nb16 := nbf (hcl 16 15 rfl) hbi
    have nb24 := nbf (hcl 24 15 rfl) hbi
    have nb25 := nbf (hcl 25 15 rfl) hbi
    have nb26 := nbf (hcl 26 15 rfl) hbi
    obtain ⟨kp, hj, hn, ht0, ht2, ha0, hJ, zJ, hro, hnb, hrr⟩ := hwf nb26
    clear hwf hwt
    simp only [nb16, nb24, nb25, nb26, hbi, pu, Nat.reduceAdd, Nat.reduceEqDiff, reduceIte]
    refine F.oq rfl rfl rfl (fun _ => by simp [go_sem]) fun d K hK => ?_; go_simp; refine hK _ ?_; clear hK K d; try walk_nrm
    have hk2 := hkk g _ ⟨fun _ => ⟨kp, hj, hn, ht0, ht2, ha0, hJ, zJ, hro, hnb, hrr⟩, fun h => no nb26 h⟩
    simp only [nb16, nb24, nb25, nb26, hbi, pu, Nat.reduceAdd, Nat.reduceEqDiff, reduceIte] at hk2
    exact hk2
  · intro b g w hI hcl hbi hdp rest hre hkk
    obtain ⟨hwf, hwt⟩ := hI
    replace hbi : b 16 = false := hbi
    have d15 := hdp 15 rfl
    have nb17 := nbf (hcl 17 16 rfl) hbi
    have nb24 := nbf (hcl 24 16 rfl) hbi
    have nb25 := nbf (hcl 25 16 rfl) hbi
    have nb26 := nbf (hcl 26 16 rfl) hbi
    obtain ⟨kp, hj, hn, ht0, ht2, ha0, hJ, zJ, hro, hnb, hrr⟩ := hwf nb26
    clear hwf hwt
    simp only [d15, nb17, nb24, nb25, nb26, hbi, pu, Nat.reduceAdd, Nat.reduceEqDiff, reduceIte]
    refine F.oq rfl rfl rfl (fun _ => by simp [go_sem]) fun d K hK => ?_; go_simp; refine hK _ ?_; clear hK K d; try walk_nrm
    have hk2 := hkk g _ ⟨fun _ => ⟨kp, hj, hn, ht0, ht2, ha0, hJ, zJ, hro, hnb, hrr⟩, fun h => no nb26 h⟩
    simp only [d15, nb17, nb24, nb25, nb26, hbi, pu, Nat.reduceAdd, Nat.reduceEqDiff, reduceIte] at hk2
    exact hk2
  · intro b g w hI hcl hbi hdp rest hre hkk
    obtain ⟨hwf, hwt⟩ := hI
    replace hbi : b 17 = false := hbi
    have d16 := hdp 16 rfl
    have d15 := hcl 16 15 rfl d16
    have nb18 := nbf (hcl 18 17 rfl) hbi
    have nb24 := nbf (hcl 24 17 rfl) hbi
    have nb25 := nbf (hcl 25 17 rfl) hbi
    have nb26 := nbf (hcl 26 17 rfl) hbi
    obtain ⟨kp, hj, hn, ht0, ht2, ha0, hJ, zJ, hro, hnb, hrr⟩ := hwf nb26
    clear hwf hwt
    simp only [d16, d15, nb18, nb24, nb25, nb26, hbi, pu, Nat.reduceAdd, Nat.reduceEqDiff, reduceIte]
    refine F.oq rfl rfl rfl (fun _ => by simp [go_sem]) fun d K hK => ?_; go_simp; refine hK _ ?_; clear hK K d; try walk_nrm
    have hk2 := hkk g _ ⟨fun _ => ⟨kp, hj, hn, ht0, ht2, ha0, hJ, zJ, hro, hnb, hrr⟩, fun h => no nb26 h⟩
    simp only [d16, d15, nb18, nb24, nb25, nb26, hbi, pu, Nat.reduceAdd, Nat.reduceEqDiff, reduceIte] at hk2
    exact hk2
  · intro b g w hI hcl hbi hdp rest hre hkk
    obtain ⟨hwf, hwt⟩ := hI
    replace hbi : b 18 = false := hbi
    have d17 := hdp 17 rfl
    have d16 := hcl 17 16 rfl d17
    have d15 := hcl 16 15 rfl d16
    have nb21 := nbf (hcl 21 18 rfl) hbi
    have nb24 := nbf (hcl 24 18 rfl) hbi
    have nb25 := nbf (hcl 25 18 rfl) hbi
    have nb26 := nbf (hcl 26 18 rfl) hbi
    obtain ⟨kp, hj, hn, ht0, ht2, ha0, hJ, zJ, hro, hnb, hrr⟩ := hwf nb26
    clear hwf hwt
    simp only [d17, d16, d15, nb21, nb24, nb25, nb26, hbi, pu, Nat.reduceAdd, Nat.reduceEqDiff, reduceIte]
    refine F.ol rfl rfl rfl fun d K hK => ?_
    go_simp
    refine hK _ (fun e hm => ?_) ?_
    · simp [go_sem, *] at hm
      subst hm
      exact evr (w := w) (by assumption) (by first | assumption | (apply hfr <;> dsimp only <;> omega) | (apply hok; simp; done))
    clear hK K d
    try walk_nrm
    have hk2 := hkk g _ ⟨fun _ => ⟨kp, hj, hn, ht0, ht2, ha0, hJ, zJ, hro, hnb, hrr⟩, fun h => no nb26 h⟩
    simp only [d17, d16, d15, nb21, nb24, nb25, nb26, hbi, pu, Nat.reduceAdd, Nat.reduceEqDiff, reduceIte] at hk2
    exact hk2
  · intro b g w hI hcl hbi hdp rest hre hkk
    obtain ⟨hwf, hwt⟩ := hI
    replace hbi : b 19 = false := hbi
    have nb21 := nbf (hcl 21 19 rfl) hbi
    have nb24 := nbf (hcl 24 19 rfl) hbi
    have nb25 := nbf (hcl 25 19 rfl) hbi
    have nb26 := nbf (hcl 26 19 rfl) hbi
    obtain ⟨kp, hj, hn, ht0, ht2, ha0, hJ, zJ, hro, hnb, hrr⟩ := hwf nb26
    clear hwf hwt
    simp only [nb21, nb24, nb25, nb26, hbi, pu, Nat.reduceAdd, Nat.reduceEqDiff, reduceIte]
    refine F.oq rfl rfl rfl (fun _ => by simp [go_sem]) fun d K hK => ?_; go_simp; refine hK _ ?_; clear hK K d; try walk_nrm
    have hk2 := hkk g _ ⟨fun _ => ⟨kp, hj, hn, ht0, ht2, ha0, hJ, zJ, hro, hnb, hrr⟩, fun h => no nb26 h⟩
    simp only [nb21, nb24, nb25, nb26, hbi, pu, Nat.reduceAdd, Nat.reduceEqDiff, reduceIte] at hk2
    exact hk2
  · intro b g w hI hcl hbi hdp rest hre hkk
    obtain ⟨hwf, hwt⟩ := hI
    replace hbi : b 20 = false := hbi
    have nb21 := nbf (hcl 21 20 rfl) hbi
    have nb24 := nbf (hcl 24 20 rfl) hbi
    have nb25 := nbf (hcl 25 20 rfl) hbi
    have nb26 := nbf (hcl 26 20 rfl) hbi
    obtain ⟨kp, hj, hn, ht0, ht2, ha0, hJ, zJ, hro, hnb, hrr⟩ := hwf nb26
    clear hwf hwt
    simp only [nb21, nb24, nb25, nb26, hbi, pu, Nat.reduceAdd, Nat.reduceEqDiff, reduceIte]
    refine F.oq rfl rfl rfl (fun _ => by simp [go_sem]) fun d K hK => ?_; go_simp; refine hK _ ?_; clear hK K d; try walk_nrm
    have hk2 := hkk g _ ⟨fun _ => ⟨kp, hj, hn, ht0, ht2, ha0, hJ, zJ, hro, hnb, hrr⟩, fun h => no nb26 h⟩
    simp only [nb21, nb24, nb25, nb26, hbi, pu, Nat.reduceAdd, Nat.reduceEqDiff, reduceIte] at hk2
    exact hk2
  · intro b g w hI hcl hbi hdp rest hre hkk
    obtain ⟨hwf, hwt⟩ := hI
    replace hbi : b 21 = false := hbi
    have d12 := hdp 12 rfl
    have d14 := hdp 14 rfl
    have d18 := hdp 18 rfl
    have d19 := hdp 19 rfl
    have d20 := hdp 20 rfl
    have d17 := hcl 18 17 rfl d18
    have d16 := hcl 17 16 rfl d17
    have d15 := hcl 16 15 rfl d16
    have d13 := hcl 14 13 rfl d14
    have d11 := hcl 12 11 rfl d12
    have nb22 := nbf (hcl 22 21 rfl) hbi
    have nb24 := nbf (hcl 24 21 rfl) hbi
    have nb25 := nbf (hcl 25 21 rfl) hbi
    have nb26 := nbf (hcl 26 21 rfl) hbi
    obtain ⟨kp, hj, hn, ht0, ht2, ha0, hJ, zJ, hro, hnb, hrr⟩ := hwf nb26
    clear hwf hwt
    simp only [d12, d14, d18, d19, d20, d17, d16, d15, d13, d11, nb22, nb24, nb25, nb26, hbi, pu, Nat.reduceAdd, Nat.reduceEqDiff, reduceIte]
    refine F.oq rfl rfl rfl (fun _ => by simp [go_sem]) fun d K hK => ?_; go_simp; refine hK _ ?_; clear hK K d; try walk_nrm
    have hk2 := hkk g _ ⟨fun _ => ⟨kp, hj, hn, ht0, ht2, ha0, hJ, zJ, hro, hnb, hrr⟩, fun h => no nb26 h⟩
    simp only [d12, d14, d18, d19, d20, d17, d16, d15, d13, d11, nb22, nb24, nb25, nb26, hbi, pu, Nat.reduceAdd, Nat.reduceEqDiff, reduceIte] at hk2
    exact hk2
  · intro b g w hI hcl hbi hdp rest hre hkk
    obtain ⟨hwf, hwt⟩ := hI
    replace hbi : b 22 = false := hbi
    have d21 := hdp 21 rfl
    have d12 := hcl 21 12 rfl d21
    have d14 := hcl 21 14 rfl d21
    have d18 := hcl 21 18 rfl d21
    have d19 := hcl 21 19 rfl d21
    have d20 := hcl 21 20 rfl d21
    have d17 := hcl 18 17 rfl d18
    have d16 := hcl 17 16 rfl d17
    have d15 := hcl 16 15 rfl d16
    have d13 := hcl 14 13 rfl d14
    have d11 := hcl 12 11 rfl d12
    have nb23 := nbf (hcl 23 22 rfl) hbi
    have nb24 := nbf (hcl 24 22 rfl) hbi
    have nb25 := nbf (hcl 25 22 rfl) hbi
    have nb26 := nbf (hcl 26 22 rfl) hbi
    obtain ⟨kp, hj, hn, ht0, ht2, ha0, hJ, zJ, hro, hnb, hrr⟩ := hwf nb26
    clear hwf hwt
    simp only [d21, d12, d14, d18, d19, d20, d17, d16, d15, d13, d11, nb23, nb24, nb25, nb26, hbi, pu, Nat.reduceAdd, Nat.reduceEqDiff, reduceIte]
    have hge := kp.size
    refine F.op rfl rfl (by decide) (fun d K hK => ?_)
    go_simp
    rw [alloc_at']
    refine hK _ _ ⟨DX.alloc _ _ (fun e he => ?_), ?_⟩
    · have hm := mem_listed he
      simp [go_sem] at hm
    clear hK K d
    try walk_nrm
    generalize ew1 : World.alloc w _ = w1
    generalize hn1 : (World.heap w).size = n1
    have sz1 := sz_al ew1 hn1
    replace zJ := fz_al zJ hJ ew1
    replace hj := cl_al hj ew1
    replace hn := cl_al hn ew1
    replace ht0 := cl_al ht0 ew1
    replace ht2 := cl_al ht2 ew1
    replace ha0 := cl_al ha0 ew1
    replace hJ := cl_al hJ ew1
    have he0 := cl_new (i := 0) ew1 hn1 rfl
    have ze0 := fz_new ew1 hn1 0
    have he1 := cl_new (i := 1) ew1 hn1 rfl
    have ze1 := fz_new ew1 hn1 1
    have he2 := cl_new (i := 2) ew1 hn1 rfl
    have ze2 := fz_new ew1 hn1 2
    have he3 := cl_new (i := 3) ew1 hn1 rfl
    have ze3 := fz_new ew1 hn1 3
    have he4 := cl_new (i := 4) ew1 hn1 rfl
    have ze4 := fz_new ew1 hn1 4
    try simp only [List.getElem_toArray, List.getElem_cons_zero, List.getElem_cons_succ] at he0 he1 he2 he3 he4
    replace kp := kp.alN ew1
    have hk2 := hkk (n1, g.2) _ ⟨fun _ => ⟨kp, hj, hn, ht0, ht2, ha0, hJ, zJ, fun h => ownsRow_al (hro h) ew1, fun _ _ => ⟨by omega, by omega, he0, he1, he2, he3, he4⟩, fun h => no nb23 h⟩, fun h => no nb26 h⟩
    simp only [d21, d12, d14, d18, d19, d20, d17, d16, d15, d13, d11, nb23, nb24, nb25, nb26, hbi, pu, Nat.reduceAdd, Nat.reduceEqDiff, reduceIte] at hk2
    exact hk2
  · intro b g w hI hcl hbi hdp rest hre hkk
    obtain ⟨hwf, hwt⟩ := hI
    replace hbi : b 23 = false := hbi
    have d10 := hdp 10 rfl
    have d14 := hdp 14 rfl
    have d22 := hdp 22 rfl
    have d21 := hcl 22 21 rfl d22
    have d12 := hcl 21 12 rfl d21
    have d18 := hcl 21 18 rfl d21
    have d19 := hcl 21 19 rfl d21
    have d20 := hcl 21 20 rfl d21
    have d17 := hcl 18 17 rfl d18
    have d16 := hcl 17 16 rfl d17
    have d15 := hcl 16 15 rfl d16
    have d13 := hcl 14 13 rfl d14
    have d11 := hcl 12 11 rfl d12
    have d9 := hcl 10 9 rfl d10
    have d8 := hcl 9 8 rfl d9
    have d7 := hcl 8 7 rfl d8
    have d6 := hcl 7 6 rfl d7
    have d5 := hcl 6 5 rfl d6
    have d4 := hcl 5 4 rfl d5
    have nb24 := nbf (hcl 24 23 rfl) hbi
    have nb25 := nbf (hcl 25 23 rfl) hbi
    have nb26 := nbf (hcl 26 23 rfl) hbi
    obtain ⟨kp, hj, hn, ht0, ht2, ha0, hJ, zJ, hro, hnb, hrr⟩ := hwf nb26
    clear hwf hwt
    simp only [d10, d14, d22, d21, d12, d18, d19, d20, d17, d16, d15, d13, d11, d9, d8, d7, d6, d5, d4, nb24, nb25, nb26, hbi, pu, Nat.reduceAdd, Nat.reduceEqDiff, reduceIte]
    obtain ⟨f1, f2, f3, f4, f5, f6, f7⟩ := hnb d22 hbi
    have hge := kp.size
    refine F.append rfl rfl (by decide) (.tmp 18) (.tmp 30) 33 55 rfl inf z N 5 40 und33 i1 i2 i3 i4 i5 (by decide) (v := ev) (n := m) (nb := g.1) (xs := xs) (news := [.int .i64 now, .int .i64 cl, .int .i64 num, .int .i64 what, .int .i64 nn]) rfl rfl (hro hbi) rfl ?_ (by simp [Value.oneCell']) (by simp [maxLen]; omega) (by omega) (by omega) f2 okrow (fun ad h => hfr ad false (by omega)) ?_
    · intro j u hu
      match j, hu with
      | 0, hu => simp at hu; subst hu; exact f3
      | 1, hu => simp at hu; subst hu; exact f4
      | 2, hu => simp at hu; subst hu; exact f5
      | 3, hu => simp at hu; subst hu; exact f6
      | 4, hu => simp at hu; subst hu; exact f7
      | j + 5, hu => simp at hu
    intro v' w' hr hg hbk
    try walk_nrm
    have kg := Kp.grown hg
    have hnR : ∀ x, x ∉ rowL ev → ∀ i, (⟨x, i, none⟩ : Addr).block ∉ rowL ev := fun x h i => h
    have hk2 := hkk (g.1, v') _ ⟨fun _ => ⟨kp.callM kg (fun x hx => .inl (List.mem_cons_of_mem _ hx)), kg.cell _ _ q1 hj, kg.cell _ _ q1 hn, kg.cell _ _ q3 ht0, kg.cell _ _ q3 ht2, kg.cell _ _ q4 ha0, kg.cell _ _ q2 hJ, (kg.froz _ _ q2 hJ).trans zJ, fun h => (by simp [tick] at h), fun _ h => (by simp [tick] at h), fun _ => ⟨hr, fun x hx => (by rw [mem_rowL] at hx ⊢; rcases hbk with y | y; exact .inl (y ▸ hx); right; rw [y] at hx; cases hx; exact hge)⟩⟩, fun h => no nb26 h⟩
    simp only [d10, d14, d22, d21, d12, d18, d19, d20, d17, d16, d15, d13, d11, d9, d8, d7, d6, d5, d4, nb24, nb25, nb26, hbi, pu, Nat.reduceAdd, Nat.reduceEqDiff, reduceIte] at hk2
    exact hk2
  · intro b g w hI hcl hbi hdp rest hre hkk
    obtain ⟨hwf, hwt⟩ := hI
    replace hbi : b 24 = false := hbi
    have d0 := hdp 0 rfl
    have d1 := hdp 1 rfl
    have d2 := hdp 2 rfl
    have d3 := hdp 3 rfl
    have d4 := hdp 4 rfl
    have d5 := hdp 5 rfl
    have d6 := hdp 6 rfl
    have d7 := hdp 7 rfl
    have d8 := hdp 8 rfl
    have d9 := hdp 9 rfl
    have d10 := hdp 10 rfl
    have d11 := hdp 11 rfl
    have d12 := hdp 12 rfl
    have d13 := hdp 13 rfl
    have d14 := hdp 14 rfl
    have d15 := hdp 15 rfl
    have d16 := hdp 16 rfl
    have d17 := hdp 17 rfl
    have d18 := hdp 18 rfl
    have d19 := hdp 19 rfl
    have d20 := hdp 20 rfl
    have d21 := hdp 21 rfl
    have d22 := hdp 22 rfl
    have d23 := hdp 23 rfl
    have nb25 := nbf (hcl 25 24 rfl) hbi
    have nb26 := nbf (hcl 26 25 rfl) nb25
    obtain ⟨kp, hj, hn, ht0, ht2, ha0, hJ, zJ, hro, hnb, hrr⟩ := hwf nb26
    clear hwf hwt
    simp only [d0, d1, d2, d3, d4, d5, d6, d7, d8, d9, d10, d11, d12, d13, d14, d15, d16, d17, d18, d19, d20, d21, d22, d23, nb25, nb26, hbi, pu, Nat.reduceAdd, Nat.reduceEqDiff, reduceIte]
    refine F.oq rfl rfl rfl (fun _ => by simp [go_sem]) fun d K hK => ?_; go_simp; refine hK _ ?_; clear hK K d; try walk_nrm
    have hk2 := hkk g _ ⟨fun _ => ⟨kp, hj, hn, ht0, ht2, ha0, hJ, zJ, hro, hnb, hrr⟩, fun h => no nb26 h⟩
    simp only [d0, d1, d2, d3, d4, d5, d6, d7, d8, d9, d10, d11, d12, d13, d14, d15, d16, d17, d18, d19, d20, d21, d22, d23, nb25, nb26, hbi, pu, Nat.reduceAdd, Nat.reduceEqDiff, reduceIte] at hk2
    exact hk2
  · intro b g w hI hcl hbi hdp rest hre hkk
    obtain ⟨hwf, hwt⟩ := hI
    replace hbi : b 25 = false := hbi
    have d0 := hdp 0 rfl
    have d1 := hdp 1 rfl
    have d2 := hdp 2 rfl
    have d3 := hdp 3 rfl
    have d4 := hdp 4 rfl
    have d5 := hdp 5 rfl
    have d6 := hdp 6 rfl
    have d7 := hdp 7 rfl
    have d8 := hdp 8 rfl
    have d9 := hdp 9 rfl
    have d10 := hdp 10 rfl
    have d11 := hdp 11 rfl
    have d12 := hdp 12 rfl
    have d13 := hdp 13 rfl
    have d14 := hdp 14 rfl
    have d15 := hdp 15 rfl
    have d16 := hdp 16 rfl
    have d17 := hdp 17 rfl
    have d18 := hdp 18 rfl
    have d19 := hdp 19 rfl
    have d20 := hdp 20 rfl
    have d21 := hdp 21 rfl
    have d22 := hdp 22 rfl
    have d23 := hdp 23 rfl
    have d24 := hdp 24 rfl
    have nb26 := nbf (hcl 26 25 rfl) hbi
    obtain ⟨kp, hj, hn, ht0, ht2, ha0, hJ, zJ, hro, hnb, hrr⟩ := hwf nb26
    clear hwf hwt
    simp only [d0, d1, d2, d3, d4, d5, d6, d7, d8, d9, d10, d11, d12, d13, d14, d15, d16, d17, d18, d19, d20, d21, d22, d23, d24, nb26, hbi, pu, Nat.reduceAdd, Nat.reduceEqDiff, reduceIte]
    refine F.oq rfl rfl rfl (fun _ => by simp [go_sem]) fun d K hK => ?_; go_simp; refine hK _ ?_; clear hK K d; try walk_nrm
    have hk2 := hkk g _ ⟨fun _ => ⟨kp, hj, hn, ht0, ht2, ha0, hJ, zJ, hro, hnb, hrr⟩, fun h => no nb26 h⟩
    simp only [d0, d1, d2, d3, d4, d5, d6, d7, d8, d9, d10, d11, d12, d13, d14, d15, d16, d17, d18, d19, d20, d21, d22, d23, d24, nb26, hbi, pu, Nat.reduceAdd, Nat.reduceEqDiff, reduceIte] at hk2
    exact hk2
  · intro b g w hI hcl hbi hdp rest hre hkk
    obtain ⟨hwf, hwt⟩ := hI
    replace hbi : b 26 = false := hbi
    have d0 := hdp 0 rfl
    have d1 := hdp 1 rfl
    have d2 := hdp 2 rfl
    have d3 := hdp 3 rfl
    have d4 := hdp 4 rfl
    have d5 := hdp 5 rfl
    have d6 := hdp 6 rfl
    have d7 := hdp 7 rfl
    have d8 := hdp 8 rfl
    have d9 := hdp 9 rfl
    have d10 := hdp 10 rfl
    have d11 := hdp 11 rfl
    have d12 := hdp 12 rfl
    have d13 := hdp 13 rfl
    have d14 := hdp 14 rfl
    have d15 := hdp 15 rfl
    have d16 := hdp 16 rfl
    have d17 := hdp 17 rfl
    have d18 := hdp 18 rfl
    have d19 := hdp 19 rfl
    have d20 := hdp 20 rfl
    have d21 := hdp 21 rfl
    have d22 := hdp 22 rfl
    have d23 := hdp 23 rfl
    have d25 := hdp 25 rfl
    have d24 := hcl 25 24 rfl d25
    obtain ⟨kp, hj, hn, ht0, ht2, ha0, hJ, zJ, hro, hnb, hrr⟩ := hwf hbi
    clear hwf hwt
    simp only [d0, d1, d2, d3, d4, d5, d6, d7, d8, d9, d10, d11, d12, d13, d14, d15, d16, d17, d18, d19, d20, d21, d22, d23, d25, d24, hbi, pu, Nat.reduceAdd, Nat.reduceEqDiff, reduceIte]
    obtain ⟨r1, r2⟩ := hrr d23
    obtain ⟨gg, cap, hgv⟩ : ∃ gg cap, g.2 = .slice (some ⟨gg, 0, none⟩) (m + 1) cap := by
      rcases r1.2 with ⟨_, z⟩ | ⟨g', cap, cur, e, _⟩
      · omega
      · exact ⟨g', cap, e⟩
    have hq : J ∉ rowL g.2 := fun h => by have := (r2 _ h); rcases this with y | y; exact q2 y; omega
    simp only [hgv]
    refine F.op rfl rfl (by decide) (fun d K hK => ?_)
    go_simp
    rw [setCell_at']
    refine hK _ _ ⟨DX.set _ (by (first | assumption | (apply hfr <;> dsimp only <;> omega) | (apply hok; simp; done))) (fun e he => ?_), ?_⟩
    · have hm := mem_listed he
      simp [go_sem, storedEv, evst_slice, evst_ptr, evst_iface, evst_nil, evst_bool, *] at hm
      subst hm
      exact .inl ⟨_, rfl, rfl, by (first | assumption | (apply hfr <;> dsimp only <;> omega) | (apply hok; simp; done)), by show _ < (World.setCell _ _ _).heap.size; simp [World.setCell]; first | omega | exact lt_of_cell (by assumption)⟩
    clear hK K d
    try walk_nrm
    generalize ew1 : World.setCell w _ _ = w1
    have sz1 := sz_st ew1
    replace zJ := fz_st zJ ew1
    replace hj := cl_st hj ew1 (by first | (intro e; simp at e; done) | (intro e; simp at e; omega))
    replace hn := cl_st hn ew1 (by first | (intro e; simp at e; done) | (intro e; simp at e; omega))
    replace ht0 := cl_st ht0 ew1 (by first | (intro e; simp at e; done) | (intro e; simp at e; omega))
    replace ht2 := cl_st ht2 ew1 (by first | (intro e; simp at e; done) | (intro e; simp at e; omega))
    replace ha0 := cl_st ha0 ew1 (by first | (intro e; simp at e; done) | (intro e; simp at e; omega))
    replace hJ := cl_st' hJ ew1
    replace kp := kp.stN ew1 (by first | (left; simp; done) | (right; left; simp; done) | (right; right; dsimp only; omega))
    simp only [← hgv]
    have hk2 := hkk g _ ⟨fun h => by simp [tick] at h, fun _ => ⟨kp, _, hJ, zJ, ownsRow_st (hgv ▸ r1) ew1 (hgv ▸ hq), hgv ▸ r2⟩⟩
    simp only [d0, d1, d2, d3, d4, d5, d6, d7, d8, d9, d10, d11, d12, d13, d14, d15, d16, d17, d18, d19, d20, d21, d22, d23, d25, d24, hbi, pu, Nat.reduceAdd, Nat.reduceEqDiff, reduceIte] at hk2
    exact hk2
  intro b g w hI hall
  obtain ⟨hwf, hwt⟩ := hI
  simp only [hall 0 (by decide), hall 1 (by decide), hall 2 (by decide), hall 3 (by decide), hall 4 (by decide), hall 5 (by decide), hall 6 (by decide), hall 7 (by decide), hall 8 (by decide), hall 9 (by decide), hall 10 (by decide), hall 11 (by decide), hall 12 (by decide), hall 13 (by decide), hall 14 (by decide), hall 15 (by decide), hall 16 (by decide), hall 17 (by decide), hall 18 (by decide), hall 19 (by decide), hall 20 (by decide), hall 21 (by decide), hall 22 (by decide), hall 23 (by decide), hall 24 (by decide), hall 25 (by decide), hall 26 (by decide), pu, Nat.reduceAdd, Nat.reduceEqDiff, reduceIte]
  refine F.re ?_
  refine F.ctl (fun _ => stepG_end) ?_
  refine F.leave rfl rfl Tryz.func149 (resultsC_none (by rfl) _) ?_
  obtain ⟨k1, ev', k2⟩ := hwt (hall 26 (by decide))
  exact hc _ _ ⟨rfl, k1, ev', k2⟩

end Go.Proofs.YtobagnjnbmgidaaGreatDoor
