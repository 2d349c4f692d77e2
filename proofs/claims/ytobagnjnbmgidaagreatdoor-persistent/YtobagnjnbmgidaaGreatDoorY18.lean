/- The law of a Retry alone: the last attempt fails. -/
import Derived.Test.YtobagnjnbmgidaaGreatDoorY17
set_option linter.unusedSimpArgs false
set_option linter.unusedVariables false
namespace Go.Proofs.YtobagnjnbmgidaaGreatDoor
open Go.Conc Go.RowKit Go.Extern
open Go.ConcN (sumTo upd sumTo_upd upd_ne upd_same)

section
variable {wI : World} {l : List Nat} {nL nC nO : Nat} {ta : Option Addr} {nt cap : Nat} {T : Nat → Nat → Int} {a cc d st tmv kv nv : Int} {x : Option Addr} {q cp : Nat} {kd nn : Int} {Post : Value → World → Prop}

set_option maxRecDepth 100000 in
set_option maxHeartbeats 8000000 in
theorem law_g (N3 nU : Nat) (va vc : Value) (tv pv kn tk : Int) {y5 y6 y7 y13 y14 y15 y16 y17 y18 y19 y20 y21 y22 y23 y24 y25 y26 y27 y28 y29 y30 y31 y32 y33 y34 y35 y36 y37 y38 y39 y40 y41 y42 y43 y44 y45 y46 y47 y48 y49 y50 y51 y52 y53 y54 y55 y56 y57 y58 y59 y60 y61 y62 y63 y64 y65 y66 y67 y68 y69 y70 y71 y72 y73 y74 y75 y76 y77 y78 y79 y80 y81 y82 y83 y84 y85 y86 y87 y88 y89 y90 y91 y92 y93 y94 y95 y96 y97 y98 y99 y100 y101 y102 y103 y104 y105 y106 y107 y108 y109 y110 y111 y112 y113 y114 y115 y116 y117 y118 y119 y120 y121 y122 y123 y124 y125 y126 y127 y128 y129 y130 y131 y132 y133 y134 y135 y136 y137 y138 y139 y140 y141 y142 y143 y144 y145 y146 y147 y148 y149 y150 y151 y152 y153 y154 y155 y156 y157 y158 y159 y160 y161 y162 y163 y164 y165 y166 y167 : Value} (w0 : World) (H : Law wI w0 l nL nC nO ta nt cap T a cc d st tv (kdO 2) (nnO 2 nn) x q cp 2 nn) (hpost : ∀ w', Old wI w' → Post (.bool true) w') (hka : kn + 1 ≤ a ∧ a ≤ kn + 1) (hkw : IntKind.i64.wrap (kn + 1) = kn + 1)
    (u0 : w0.cell? ⟨nU, 0, none⟩ = some (.int .i64 2)) (u1 : w0.cell? ⟨nU, 1, none⟩ = some (.int .i64 nn)) :
    At0 Tryz.prog Post (Old wI) (ShL l) N3 (G ((base 5).at ⟨(List.toArray ((va) :: (vc) :: (.pointer (some ⟨nL, 0, none⟩)) :: (.pointer (some ⟨nC, 0, none⟩)) :: (.bool false) :: y5 :: y6 :: y7 :: (.pointer (some ⟨nO, 0, none⟩)) :: (.int .i64 tv) :: (.int .i64 pv) :: (.int .i64 kn) :: (.pointer (some ⟨nU, 0, none⟩)) :: y13 :: y14 :: y15 :: y16 :: y17 :: y18 :: y19 :: y20 :: y21 :: y22 :: y23 :: y24 :: y25 :: y26 :: y27 :: y28 :: y29 :: y30 :: y31 :: y32 :: y33 :: y34 :: y35 :: y36 :: y37 :: y38 :: y39 :: y40 :: y41 :: y42 :: y43 :: y44 :: y45 :: y46 :: y47 :: y48 :: y49 :: y50 :: y51 :: y52 :: y53 :: y54 :: y55 :: y56 :: y57 :: y58 :: y59 :: y60 :: y61 :: y62 :: y63 :: y64 :: y65 :: y66 :: y67 :: y68 :: y69 :: y70 :: y71 :: y72 :: y73 :: y74 :: y75 :: y76 :: y77 :: y78 :: y79 :: y80 :: y81 :: y82 :: y83 :: y84 :: y85 :: y86 :: y87 :: y88 :: y89 :: y90 :: y91 :: y92 :: y93 :: y94 :: y95 :: y96 :: y97 :: y98 :: y99 :: y100 :: y101 :: y102 :: y103 :: y104 :: y105 :: y106 :: y107 :: y108 :: y109 :: y110 :: y111 :: y112 :: y113 :: y114 :: y115 :: y116 :: y117 :: y118 :: y119 :: y120 :: y121 :: y122 :: y123 :: y124 :: y125 :: y126 :: y127 :: y128 :: y129 :: y130 :: y131 :: y132 :: y133 :: y134 :: y135 :: y136 :: y137 :: y138 :: y139 :: y140 :: y141 :: y142 :: y143 :: y144 :: y145 :: y146 :: y147 :: y148 :: y149 :: y150 :: y151 :: y152 :: y153 :: y154 :: y155 :: y156 :: y157 :: y158 :: y159 :: y160 :: y161 :: y162 :: y163 :: y164 :: y165 :: y166 :: y167 :: [])), []⟩ [.code (dropSeq 2 (blkIn (fstSeq (dropSeq 1 (loopIn (dropSeq 1 (fstSeq (dropSeq 7 (Tryz.f5.body.getD .skip))))))))), .inBlock 1, .code (dropSeq 2 (loopIn (dropSeq 1 (fstSeq (dropSeq 7 (Tryz.f5.body.getD .skip)))))), .inLoop (loopIn (dropSeq 1 (fstSeq (dropSeq 7 (Tryz.f5.body.getD .skip))))), .inBlock 0, .code (dropSeq 8 (Tryz.f5.body.getD .skip))]) []) w0 := by
  have F := fut0 (P := Tryz.prog) (Post := Post) (wI := wI) (l := l) N3
  obtain ⟨hl1, hl3, hl4, hc0, hc1, ho0, ho1, ho2, ho3, tat, bt, ch, hsz, hlB⟩ := id H
  have hok : ∀ (b o : Nat), o ≠ 5 → o ≠ 6 → OkS wI.heap.size l [] ⟨b, o, none⟩ false := fun b o h5 h6 => ok_rd h5 h6
  have k1 := hok nL 1 (by decide) (by decide)
  have k3 := hok nL 3 (by decide) (by decide)
  have k4 := hok nL 4 (by decide) (by decide)
  have k5 := hok nC 0 (by decide) (by decide)
  have k6 := hok nC 1 (by decide) (by decide)
  have k7 := hok nO 0 (by decide) (by decide)
  have k8 := hok nO 1 (by decide) (by decide)
  have k9 := hok nO 2 (by decide) (by decide)
  have k10 := hok nO 3 (by decide) (by decide)
  have hfr : ∀ (b : Addr) (wr : Bool), w0.heap.size ≤ b.block → OkS wI.heap.size l [] b wr := fun b wr h => ok_fr (N := w0.heap.size) (fun B hB => (hlB B hB).2) hsz h (by simp) wr
  have k11 := hok nU 0 (by decide) (by decide)
  have k12 := hok nU 1 (by decide) (by decide)
  replace ho1 : w0.cell? ⟨nO, 1, none⟩ = some (.int .i64 2) := ho1
  obtain ⟨gc, rfl, hq, hgl, hch⟩ := ch (.inl rfl)
  replace hq : q = 2 := hq
  subst hq
  have hg0 : w0.cell? ⟨gc, 0, none⟩ = some (.int .i64 7) := hch 0 _ rfl
  have hg5 : w0.cell? ⟨gc, 5, none⟩ = some (.int .i64 nn) := hch 5 _ rfl
  have kg0 : OkS wI.heap.size l [] ⟨gc, 0, none⟩ false := ok_rdb hgl
  have kg5 : OkS wI.heap.size l [] ⟨gc, 5, none⟩ false := ok_rdb hgl
  clear hch ch tat bt hl3 hl4 hc0 hc1 ho2 k3 k4 k5 k6 k9
  unfold blkIn fstSeq dropSeq loopIn
  refine F.sq ?_
  refine F.sr ?_
  simp only [rg, Nat.reduceAdd]
  refine F.oq rfl rfl rfl (by simp [go_sem]) fun d K h => ?_; go_simp; refine h _ ?_; clear h K d; try walk_nrm
  refine F.ol rfl rfl rfl fun d K h => ?_; go_simp; refine h _ (fun e m => ?_) ?_; simp [go_sem, *] at m; subst m; exact evr (w := w0) (by assumption) (by first | assumption | (apply hfr <;> dsimp only <;> omega) | (apply hok; simp)); clear h K d; try walk_nrm
  refine F.oq rfl rfl rfl (by simp [go_sem]) fun d K h => ?_; go_simp; refine h _ ?_; clear h K d; try walk_nrm
  refine F.re ?_
  refine F.cf rfl ?_
  refine F.sk ?_
  refine F.sq ?_
  refine F.sr ?_
  simp only [rg, Nat.reduceAdd]
  iterate 3 (refine F.oq rfl rfl rfl (by simp [go_sem]) fun d K h => ?_; go_simp; refine h _ ?_; clear h K d; try walk_nrm)
  refine F.ol rfl rfl rfl fun d K h => ?_; go_simp; refine h _ (fun e m => ?_) ?_; simp [go_sem, *] at m; subst m; exact evr (w := w0) (by assumption) (by first | assumption | (apply hfr <;> dsimp only <;> omega) | (apply hok; simp)); clear h K d; try walk_nrm
  have hka1 : (kn + 1 == a) = true := by simp; omega
  refine F.oq rfl rfl rfl (by simp [go_sem]) fun d K h => ?_; go_simp; refine h _ ?_; clear h K d; try walk_nrm
  refine F.re ?_
  refine F.ct rfl ?_
  refine F.sq ?_
  clear hl1 k1 hka hka1 hkw
  refine F.drawB (γ := Unit) (n := 34) mixed [[], [0], [], [1, 2], [3], [4], [4, 5], [4, 6], [4, 7], [4, 8], [9], [9, 10], [9, 11], [9, 12], [9, 13], [9, 14], [15], [15, 16], [15, 17], [15, 18], [15, 19], [15, 20], [15, 21], [15, 22], [23], [23, 24], [23, 25], [23, 26], [23, 27], [23], [23, 29], [23, 28, 30], [23, 31], [0, 1, 2, 3, 4, 5, 6, 7, 8, 9, 10, 11, 12, 13, 14, 15, 16, 17, 18, 19, 20, 21, 22, 23, 24, 25, 26, 27, 28, 29, 30, 31, 32]] rfl (by kernel_rfl) (fun b g => [(122, sel (b 0) (.pointer (some ⟨nO, 0, none⟩)) (y122)), (123, sel (b 1) (.int .i64 tv) (y123)), (124, sel (b 2) (.int .i64 tv) (y124)), (125, sel (b 3) (.bool true) (y125)), (126, sel (b 4) (.bool true) (y126)), (127, sel (b 5) (.pointer (some ⟨nO, 1, none⟩)) (y127)), (128, sel (b 6) (.int .i64 2) (y128)), (129, sel (b 7) (.bool true) (y129)), (130, sel (b 8) (.bool true) (y130)), (131, sel (b 9) (.bool true) (y131)), (132, sel (b 10) (.pointer (some ⟨nO, 3, none⟩)) (y132)), (133, sel (b 11) (.slice (some ⟨gc, 0, none⟩) 2 cp) (y133)), (134, sel (b 12) (.int .i64 2) (y134)), (135, sel (b 13) (.bool true) (y135)), (136, sel (b 14) (.bool true) (y136)), (137, sel (b 15) (.bool true) (y137)), (138, sel (b 16) (.pointer (some ⟨nO, 3, none⟩)) (y138)), (139, sel (b 17) (.slice (some ⟨gc, 0, none⟩) 2 cp) (y139)), (140, sel (b 18) (.pointer (some ⟨gc, 0, none⟩)) (y140)), (141, sel (b 19) (.pointer (some ⟨gc, 0, none⟩)) (y141)), (142, sel (b 20) (.int .i64 7) (y142)), (143, sel (b 21) (.bool true) (y143)), (144, sel (b 22) (.bool true) (y144)), (145, sel (b 23) (.bool true) (y145)), (146, sel (b 24) (.pointer (some ⟨nO, 3, none⟩)) (y146)), (147, sel (b 25) (.slice (some ⟨gc, 0, none⟩) 2 cp) (y147)), (148, sel (b 26) (.pointer (some ⟨gc, 3, none⟩)) (y148)), (149, sel (b 27) (.pointer (some ⟨gc, 5, none⟩)) (y149)), (150, sel (b 28) (.int .i64 nn) (y150)), (151, sel (b 29) (.pointer (some ⟨nU, 1, none⟩)) (y151)), (152, sel (b 30) (.int .i64 nn) (y152)), (153, sel (b 31) (.bool true) (y153)), (154, sel (b 32) (.bool true) (y154)), (4, sel (b 33) (.bool true) (.bool false))]) (fun b g w => (b 33 = false → w = w0) ∧ (b 33 = true → ( w = w0))) (()) (by simp only [pu, Nat.reduceAdd, Nat.reduceEqDiff, reduceIte]) (⟨fun _ => rfl, fun h => by cases h⟩) (all_cons ?_ (all_cons ?_ (all_cons ?_ (all_cons ?_ (all_cons ?_ (all_cons ?_ (all_cons ?_ (all_cons ?_ (all_cons ?_ (all_cons ?_ (all_cons ?_ (all_cons ?_ (all_cons ?_ (all_cons ?_ (all_cons ?_ (all_cons ?_ (all_cons ?_ (all_cons ?_ (all_cons ?_ (all_cons ?_ (all_cons ?_ (all_cons ?_ (all_cons ?_ (all_cons ?_ (all_cons ?_ (all_cons ?_ (all_cons ?_ (all_cons ?_ (all_cons ?_ (all_cons ?_ (all_cons ?_ (all_cons ?_ (all_cons ?_ (all_cons ?_ (all_nil))))))))))))))))))))))))))))))))))) ?_
  · intro b g w hI hcl hbi hdp rest hre hkk
    obtain ⟨hwf, hwt⟩ := hI
    replace hbi : b 0 = false := hbi
    have nb1 := nbf (hcl 1 0 rfl) hbi
    have nb33 := nbf (hcl 33 0 rfl) hbi
    have ewc := (hwf nb33).symm
    subst ewc
    simp only [nb1, nb33, hbi, pu, Nat.reduceAdd, Nat.reduceEqDiff, reduceIte]
    refine F.oq rfl rfl rfl (by simp [go_sem]) fun d K h => ?_; go_simp; refine h _ ?_; clear h K d; try walk_nrm
    have hk2 := hkk g _ ⟨fun _ => rfl, fun h => no nb33 h⟩
    simp only [nb1, nb33, hbi, pu, Nat.reduceAdd, Nat.reduceEqDiff, reduceIte] at hk2
    exact hk2
  · intro b g w hI hcl hbi hdp rest hre hkk
    obtain ⟨hwf, hwt⟩ := hI
    replace hbi : b 1 = false := hbi
    have d0 := hdp 0 rfl
    have nb3 := nbf (hcl 3 1 rfl) hbi
    have nb33 := nbf (hcl 33 1 rfl) hbi
    have ewc := (hwf nb33).symm
    subst ewc
    simp only [d0, nb3, nb33, hbi, pu, Nat.reduceAdd, Nat.reduceEqDiff, reduceIte]
    refine F.ol rfl rfl rfl fun d K h => ?_; go_simp; refine h _ (fun e m => ?_) ?_; simp [go_sem, *] at m; subst m; exact evr (w := w0) (by assumption) (by first | assumption | (apply hfr <;> dsimp only <;> omega) | (apply hok; simp)); clear h K d; try walk_nrm
    have hk2 := hkk g _ ⟨fun _ => rfl, fun h => no nb33 h⟩
    simp only [d0, nb3, nb33, hbi, pu, Nat.reduceAdd, Nat.reduceEqDiff, reduceIte] at hk2
    exact hk2
  · intro b g w hI hcl hbi hdp rest hre hkk
    obtain ⟨hwf, hwt⟩ := hI
    replace hbi : b 2 = false := hbi
    have nb3 := nbf (hcl 3 2 rfl) hbi
    have nb33 := nbf (hcl 33 2 rfl) hbi
    have ewc := (hwf nb33).symm
    subst ewc
    simp only [nb3, nb33, hbi, pu, Nat.reduceAdd, Nat.reduceEqDiff, reduceIte]
    refine F.oq rfl rfl rfl (by simp [go_sem]) fun d K h => ?_; go_simp; refine h _ ?_; clear h K d; try walk_nrm
    have hk2 := hkk g _ ⟨fun _ => rfl, fun h => no nb33 h⟩
    simp only [nb3, nb33, hbi, pu, Nat.reduceAdd, Nat.reduceEqDiff, reduceIte] at hk2
    exact hk2
  · intro b g w hI hcl hbi hdp rest hre hkk
    obtain ⟨hwf, hwt⟩ := hI
    replace hbi : b 3 = false := hbi
    have d1 := hdp 1 rfl
    have d2 := hdp 2 rfl
    have d0 := hcl 1 0 rfl d1
    have nb4 := nbf (hcl 4 3 rfl) hbi
    have nb33 := nbf (hcl 33 3 rfl) hbi
    have ewc := (hwf nb33).symm
    subst ewc
    simp only [d1, d2, d0, nb4, nb33, hbi, pu, Nat.reduceAdd, Nat.reduceEqDiff, reduceIte]
    refine F.oq rfl rfl rfl (by simp [go_sem]) fun d K h => ?_; go_simp; refine h _ ?_; clear h K d; try walk_nrm
    have hk2 := hkk g _ ⟨fun _ => rfl, fun h => no nb33 h⟩
    simp only [d1, d2, d0, nb4, nb33, hbi, pu, Nat.reduceAdd, Nat.reduceEqDiff, reduceIte] at hk2
    exact hk2
  · intro b g w hI hcl hbi hdp rest hre hkk
    obtain ⟨hwf, hwt⟩ := hI
    replace hbi : b 4 = false := hbi
    have d3 := hdp 3 rfl
    have d1 := hcl 3 1 rfl d3
    have d2 := hcl 3 2 rfl d3
    have d0 := hcl 1 0 rfl d1
    have nb5 := nbf (hcl 5 4 rfl) hbi
    have nb6 := nbf (hcl 6 4 rfl) hbi
    have nb7 := nbf (hcl 7 4 rfl) hbi
    have nb8 := nbf (hcl 8 4 rfl) hbi
    have nb9 := nbf (hcl 9 4 rfl) hbi
    have nb33 := nbf (hcl 33 4 rfl) hbi
    have ewc := (hwf nb33).symm
    subst ewc
    simp only [d3, d1, d2, d0, nb5, nb6, nb7, nb8, nb9, nb33, hbi, pu, Nat.reduceAdd, Nat.reduceEqDiff, reduceIte]
    refine F.oq rfl rfl rfl (by simp [go_sem]) fun d K h => ?_; go_simp; refine h _ ?_; clear h K d; try walk_nrm
    have hk2 := hkk g _ ⟨fun _ => rfl, fun h => no nb33 h⟩
    simp only [d3, d1, d2, d0, nb5, nb6, nb7, nb8, nb9, nb33, hbi, pu, Nat.reduceAdd, Nat.reduceEqDiff, reduceIte] at hk2
    exact hk2
  · intro b g w hI hcl hbi hdp rest hre hkk
    obtain ⟨hwf, hwt⟩ := hI
    replace hbi : b 5 = false := hbi
    have d4 := hdp 4 rfl
    have d3 := hcl 4 3 rfl d4
    have d1 := hcl 3 1 rfl d3
    have d2 := hcl 3 2 rfl d3
    have d0 := hcl 1 0 rfl d1
    have nb6 := nbf (hcl 6 5 rfl) hbi
    have nb33 := nbf (hcl 33 5 rfl) hbi
    have ewc := (hwf nb33).symm
    subst ewc
    simp only [d4, d3, d1, d2, d0, nb6, nb33, hbi, pu, Nat.reduceAdd, Nat.reduceEqDiff, reduceIte]
    refine F.oq rfl rfl rfl (by simp [go_sem]) fun d K h => ?_; go_simp; refine h _ ?_; clear h K d; try walk_nrm
    have hk2 := hkk g _ ⟨fun _ => rfl, fun h => no nb33 h⟩
    simp only [d4, d3, d1, d2, d0, nb6, nb33, hbi, pu, Nat.reduceAdd, Nat.reduceEqDiff, reduceIte] at hk2
    exact hk2
  · intro b g w hI hcl hbi hdp rest hre hkk
    obtain ⟨hwf, hwt⟩ := hI
    replace hbi : b 6 = false := hbi
    have d4 := hdp 4 rfl
    have d5 := hdp 5 rfl
    have d3 := hcl 4 3 rfl d4
    have d1 := hcl 3 1 rfl d3
    have d2 := hcl 3 2 rfl d3
    have d0 := hcl 1 0 rfl d1
    have nb7 := nbf (hcl 7 6 rfl) hbi
    have nb33 := nbf (hcl 33 6 rfl) hbi
    have ewc := (hwf nb33).symm
    subst ewc
    simp only [d4, d5, d3, d1, d2, d0, nb7, nb33, hbi, pu, Nat.reduceAdd, Nat.reduceEqDiff, reduceIte]
    refine F.ol rfl rfl rfl fun d K h => ?_; go_simp; refine h _ (fun e m => ?_) ?_; simp [go_sem, *] at m; subst m; exact evr (w := w0) (by assumption) (by first | assumption | (apply hfr <;> dsimp only <;> omega) | (apply hok; simp)); clear h K d; try walk_nrm
    have hk2 := hkk g _ ⟨fun _ => rfl, fun h => no nb33 h⟩
    simp only [d4, d5, d3, d1, d2, d0, nb7, nb33, hbi, pu, Nat.reduceAdd, Nat.reduceEqDiff, reduceIte] at hk2
    exact hk2
  · intro b g w hI hcl hbi hdp rest hre hkk
    obtain ⟨hwf, hwt⟩ := hI
    replace hbi : b 7 = false := hbi
    have d4 := hdp 4 rfl
    have d6 := hdp 6 rfl
    have d5 := hcl 6 5 rfl d6
    have d3 := hcl 4 3 rfl d4
    have d1 := hcl 3 1 rfl d3
    have d2 := hcl 3 2 rfl d3
    have d0 := hcl 1 0 rfl d1
    have nb8 := nbf (hcl 8 7 rfl) hbi
    have nb33 := nbf (hcl 33 7 rfl) hbi
    have ewc := (hwf nb33).symm
    subst ewc
    simp only [d4, d6, d5, d3, d1, d2, d0, nb8, nb33, hbi, pu, Nat.reduceAdd, Nat.reduceEqDiff, reduceIte]
    refine F.oq rfl rfl rfl (by simp [go_sem]) fun d K h => ?_; go_simp; refine h _ ?_; clear h K d; try walk_nrm
    have hk2 := hkk g _ ⟨fun _ => rfl, fun h => no nb33 h⟩
    simp only [d4, d6, d5, d3, d1, d2, d0, nb8, nb33, hbi, pu, Nat.reduceAdd, Nat.reduceEqDiff, reduceIte] at hk2
    exact hk2
  · intro b g w hI hcl hbi hdp rest hre hkk
    obtain ⟨hwf, hwt⟩ := hI
    replace hbi : b 8 = false := hbi
    have d4 := hdp 4 rfl
    have d7 := hdp 7 rfl
    have d6 := hcl 7 6 rfl d7
    have d5 := hcl 6 5 rfl d6
    have d3 := hcl 4 3 rfl d4
    have d1 := hcl 3 1 rfl d3
    have d2 := hcl 3 2 rfl d3
    have d0 := hcl 1 0 rfl d1
    have nb9 := nbf (hcl 9 8 rfl) hbi
    have nb33 := nbf (hcl 33 8 rfl) hbi
    have ewc := (hwf nb33).symm
    subst ewc
    simp only [d4, d7, d6, d5, d3, d1, d2, d0, nb9, nb33, hbi, pu, Nat.reduceAdd, Nat.reduceEqDiff, reduceIte]
    refine F.oq rfl rfl rfl (by simp [go_sem]) fun d K h => ?_; go_simp; refine h _ ?_; clear h K d; try walk_nrm
    have hk2 := hkk g _ ⟨fun _ => rfl, fun h => no nb33 h⟩
    simp only [d4, d7, d6, d5, d3, d1, d2, d0, nb9, nb33, hbi, pu, Nat.reduceAdd, Nat.reduceEqDiff, reduceIte] at hk2
    exact hk2
  · intro b g w hI hcl hbi hdp rest hre hkk
    obtain ⟨hwf, hwt⟩ := hI
    replace hbi : b 9 = false := hbi
    have d4 := hdp 4 rfl
    have d8 := hdp 8 rfl
    have d7 := hcl 8 7 rfl d8
    have d6 := hcl 7 6 rfl d7
    have d5 := hcl 6 5 rfl d6
    have d3 := hcl 4 3 rfl d4
    have d1 := hcl 3 1 rfl d3
    have d2 := hcl 3 2 rfl d3
    have d0 := hcl 1 0 rfl d1
    have nb10 := nbf (hcl 10 9 rfl) hbi
    have nb11 := nbf (hcl 11 9 rfl) hbi
    have nb12 := nbf (hcl 12 9 rfl) hbi
    have nb13 := nbf (hcl 13 9 rfl) hbi
    have nb14 := nbf (hcl 14 9 rfl) hbi
    have nb15 := nbf (hcl 15 9 rfl) hbi
    have nb33 := nbf (hcl 33 9 rfl) hbi
    have ewc := (hwf nb33).symm
    subst ewc
    simp only [d4, d8, d7, d6, d5, d3, d1, d2, d0, nb10, nb11, nb12, nb13, nb14, nb15, nb33, hbi, pu, Nat.reduceAdd, Nat.reduceEqDiff, reduceIte]
    refine F.oq rfl rfl rfl (by simp [go_sem]) fun d K h => ?_; go_simp; refine h _ ?_; clear h K d; try walk_nrm
    have hk2 := hkk g _ ⟨fun _ => rfl, fun h => no nb33 h⟩
    simp only [d4, d8, d7, d6, d5, d3, d1, d2, d0, nb10, nb11, nb12, nb13, nb14, nb15, nb33, hbi, pu, Nat.reduceAdd, Nat.reduceEqDiff, reduceIte] at hk2
    exact hk2
  · intro b g w hI hcl hbi hdp rest hre hkk
    obtain ⟨hwf, hwt⟩ := hI
    replace hbi : b 10 = false := hbi
    have d9 := hdp 9 rfl
    have d4 := hcl 9 4 rfl d9
    have d8 := hcl 9 8 rfl d9
    have d7 := hcl 8 7 rfl d8
    have d6 := hcl 7 6 rfl d7
    have d5 := hcl 6 5 rfl d6
    have d3 := hcl 4 3 rfl d4
    have d1 := hcl 3 1 rfl d3
    have d2 := hcl 3 2 rfl d3
    have d0 := hcl 1 0 rfl d1
    have nb11 := nbf (hcl 11 10 rfl) hbi
    have nb33 := nbf (hcl 33 10 rfl) hbi
    have ewc := (hwf nb33).symm
    subst ewc
    simp only [d9, d4, d8, d7, d6, d5, d3, d1, d2, d0, nb11, nb33, hbi, pu, Nat.reduceAdd, Nat.reduceEqDiff, reduceIte]
    refine F.oq rfl rfl rfl (by simp [go_sem]) fun d K h => ?_; go_simp; refine h _ ?_; clear h K d; try walk_nrm
    have hk2 := hkk g _ ⟨fun _ => rfl, fun h => no nb33 h⟩
    simp only [d9, d4, d8, d7, d6, d5, d3, d1, d2, d0, nb11, nb33, hbi, pu, Nat.reduceAdd, Nat.reduceEqDiff, reduceIte] at hk2
    exact hk2
  · intro b g w hI hcl hbi hdp rest hre hkk
    obtain ⟨hwf, hwt⟩ := hI
    replace hbi : b 11 = false := hbi
    have d9 := hdp 9 rfl
    have d10 := hdp 10 rfl
    have d4 := hcl 9 4 rfl d9
    have d8 := hcl 9 8 rfl d9
    have d7 := hcl 8 7 rfl d8
    have d6 := hcl 7 6 rfl d7
    have d5 := hcl 6 5 rfl d6
    have d3 := hcl 4 3 rfl d4
    have d1 := hcl 3 1 rfl d3
    have d2 := hcl 3 2 rfl d3
    have d0 := hcl 1 0 rfl d1
    have nb12 := nbf (hcl 12 11 rfl) hbi
    have nb33 := nbf (hcl 33 11 rfl) hbi
    have ewc := (hwf nb33).symm
    subst ewc
    simp only [d9, d10, d4, d8, d7, d6, d5, d3, d1, d2, d0, nb12, nb33, hbi, pu, Nat.reduceAdd, Nat.reduceEqDiff, reduceIte]
    refine F.ol rfl rfl rfl fun d K h => ?_; go_simp; refine h _ (fun e m => ?_) ?_; simp [go_sem, *] at m; subst m; exact evr (w := w0) (by assumption) (by first | assumption | (apply hfr <;> dsimp only <;> omega) | (apply hok; simp)); clear h K d; try walk_nrm
    have hk2 := hkk g _ ⟨fun _ => rfl, fun h => no nb33 h⟩
    simp only [d9, d10, d4, d8, d7, d6, d5, d3, d1, d2, d0, nb12, nb33, hbi, pu, Nat.reduceAdd, Nat.reduceEqDiff, reduceIte] at hk2
    exact hk2
  · intro b g w hI hcl hbi hdp rest hre hkk
    obtain ⟨hwf, hwt⟩ := hI
    replace hbi : b 12 = false := hbi
    have d9 := hdp 9 rfl
    have d11 := hdp 11 rfl
    have d10 := hcl 11 10 rfl d11
    have d4 := hcl 9 4 rfl d9
    have d8 := hcl 9 8 rfl d9
    have d7 := hcl 8 7 rfl d8
    have d6 := hcl 7 6 rfl d7
    have d5 := hcl 6 5 rfl d6
    have d3 := hcl 4 3 rfl d4
    have d1 := hcl 3 1 rfl d3
    have d2 := hcl 3 2 rfl d3
    have d0 := hcl 1 0 rfl d1
    have nb13 := nbf (hcl 13 12 rfl) hbi
    have nb33 := nbf (hcl 33 12 rfl) hbi
    have ewc := (hwf nb33).symm
    subst ewc
    simp only [d9, d11, d10, d4, d8, d7, d6, d5, d3, d1, d2, d0, nb13, nb33, hbi, pu, Nat.reduceAdd, Nat.reduceEqDiff, reduceIte]
    refine F.oq rfl rfl rfl (by simp [go_sem]) fun d K h => ?_; go_simp; refine h _ ?_; clear h K d; try walk_nrm
    have hk2 := hkk g _ ⟨fun _ => rfl, fun h => no nb33 h⟩
    simp only [d9, d11, d10, d4, d8, d7, d6, d5, d3, d1, d2, d0, nb13, nb33, hbi, pu, Nat.reduceAdd, Nat.reduceEqDiff, reduceIte] at hk2
    exact hk2
  · intro b g w hI hcl hbi hdp rest hre hkk
    obtain ⟨hwf, hwt⟩ := hI
    replace hbi : b 13 = false := hbi
    have d9 := hdp 9 rfl
    have d12 := hdp 12 rfl
    have d11 := hcl 12 11 rfl d12
    have d10 := hcl 11 10 rfl d11
    have d4 := hcl 9 4 rfl d9
    have d8 := hcl 9 8 rfl d9
    have d7 := hcl 8 7 rfl d8
    have d6 := hcl 7 6 rfl d7
    have d5 := hcl 6 5 rfl d6
    have d3 := hcl 4 3 rfl d4
    have d1 := hcl 3 1 rfl d3
    have d2 := hcl 3 2 rfl d3
    have d0 := hcl 1 0 rfl d1
    have nb14 := nbf (hcl 14 13 rfl) hbi
    have nb33 := nbf (hcl 33 13 rfl) hbi
    have ewc := (hwf nb33).symm
    subst ewc
    simp only [d9, d12, d11, d10, d4, d8, d7, d6, d5, d3, d1, d2, d0, nb14, nb33, hbi, pu, Nat.reduceAdd, Nat.reduceEqDiff, reduceIte]
    refine F.oq rfl rfl rfl (by simp [go_sem]) fun d K h => ?_; go_simp; refine h _ ?_; clear h K d; try walk_nrm
    have hk2 := hkk g _ ⟨fun _ => rfl, fun h => no nb33 h⟩
    simp only [d9, d12, d11, d10, d4, d8, d7, d6, d5, d3, d1, d2, d0, nb14, nb33, hbi, pu, Nat.reduceAdd, Nat.reduceEqDiff, reduceIte] at hk2
    exact hk2
  · intro b g w hI hcl hbi hdp rest hre hkk
    obtain ⟨hwf, hwt⟩ := hI
    replace hbi : b 14 = false := hbi
    have d9 := hdp 9 rfl
    have d13 := hdp 13 rfl
    have d12 := hcl 13 12 rfl d13
    have d11 := hcl 12 11 rfl d12
    have d10 := hcl 11 10 rfl d11
    have d4 := hcl 9 4 rfl d9
    have d8 := hcl 9 8 rfl d9
    have d7 := hcl 8 7 rfl d8
    have d6 := hcl 7 6 rfl d7
    have d5 := hcl 6 5 rfl d6
    have d3 := hcl 4 3 rfl d4
    have d1 := hcl 3 1 rfl d3
    have d2 := hcl 3 2 rfl d3
    have d0 := hcl 1 0 rfl d1
    have nb15 := nbf (hcl 15 14 rfl) hbi
    have nb33 := nbf (hcl 33 14 rfl) hbi
    have ewc := (hwf nb33).symm
    subst ewc
    simp only [d9, d13, d12, d11, d10, d4, d8, d7, d6, d5, d3, d1, d2, d0, nb15, nb33, hbi, pu, Nat.reduceAdd, Nat.reduceEqDiff, reduceIte]
    refine F.oq rfl rfl rfl (by simp [go_sem]) fun d K h => ?_; go_simp; refine h _ ?_; clear h K d; try walk_nrm
    have hk2 := hkk g _ ⟨fun _ => rfl, fun h => no nb33 h⟩
    simp only [d9, d13, d12, d11, d10, d4, d8, d7, d6, d5, d3, d1, d2, d0, nb15, nb33, hbi, pu, Nat.reduceAdd, Nat.reduceEqDiff, reduceIte] at hk2
    exact hk2
  · intro b g w hI hcl hbi hdp rest hre hkk
    obtain ⟨hwf, hwt⟩ := hI
    replace hbi : b 15 = false := hbi
    have d9 := hdp 9 rfl
    have d14 := hdp 14 rfl
    have d13 := hcl 14 13 rfl d14
    have d12 := hcl 13 12 rfl d13
    have d11 := hcl 12 11 rfl d12
    have d10 := hcl 11 10 rfl d11
    have d4 := hcl 9 4 rfl d9
    have d8 := hcl 9 8 rfl d9
    have d7 := hcl 8 7 rfl d8
    have d6 := hcl 7 6 rfl d7
    have d5 := hcl 6 5 rfl d6
    have d3 := hcl 4 3 rfl d4
    have d1 := hcl 3 1 rfl d3
    have d2 := hcl 3 2 rfl d3
    have d0 := hcl 1 0 rfl d1
    have nb16 := nbf (hcl 16 15 rfl) hbi
    have nb17 := nbf (hcl 17 15 rfl) hbi
    have nb18 := nbf (hcl 18 15 rfl) hbi
    have nb19 := nbf (hcl 19 15 rfl) hbi
    have nb20 := nbf (hcl 20 15 rfl) hbi
    have nb21 := nbf (hcl 21 15 rfl) hbi
    have nb22 := nbf (hcl 22 15 rfl) hbi
    have nb23 := nbf (hcl 23 15 rfl) hbi
    have nb33 := nbf (hcl 33 15 rfl) hbi
    have ewc := (hwf nb33).symm
    subst ewc
    simp only [d9, d14, d13, d12, d11, d10, d4, d8, d7, d6, d5, d3, d1, d2, d0, nb16, nb17, nb18, nb19, nb20, nb21, nb22, nb23, nb33, hbi, pu, Nat.reduceAdd, Nat.reduceEqDiff, reduceIte]
    refine F.oq rfl rfl rfl (by simp [go_sem]) fun d K h => ?_; go_simp; refine h _ ?_; clear h K d; try walk_nrm
    have hk2 := hkk g _ ⟨fun _ => rfl, fun h => no nb33 h⟩
    simp only [d9, d14, d13, d12, d11, d10, d4, d8, d7, d6, d5, d3, d1, d2, d0, nb16, nb17, nb18, nb19, nb20, nb21, nb22, nb23, nb33, hbi, pu, Nat.reduceAdd, Nat.reduceEqDiff, reduceIte] at hk2
    exact hk2
  · intro b g w hI hcl hbi hdp rest hre hkk
    obtain ⟨hwf, hwt⟩ := hI
    replace hbi : b 16 = false := hbi
    have d15 := hdp 15 rfl
    have d9 := hcl 15 9 rfl d15
    have d14 := hcl 15 14 rfl d15
    have d13 := hcl 14 13 rfl d14
    have d12 := hcl 13 12 rfl d13
    have d11 := hcl 12 11 rfl d12
    have d10 := hcl 11 10 rfl d11
    have d4 := hcl 9 4 rfl d9
    have d8 := hcl 9 8 rfl d9
    have d7 := hcl 8 7 rfl d8
    have d6 := hcl 7 6 rfl d7
    have d5 := hcl 6 5 rfl d6
    have d3 := hcl 4 3 rfl d4
    have d1 := hcl 3 1 rfl d3
    have d2 := hcl 3 2 rfl d3
    have d0 := hcl 1 0 rfl d1
    have nb17 := nbf (hcl 17 16 rfl) hbi
    have nb33 := nbf (hcl 33 16 rfl) hbi
    have ewc := (hwf nb33).symm
    subst ewc
    simp only [d15, d9, d14, d13, d12, d11, d10, d4, d8, d7, d6, d5, d3, d1, d2, d0, nb17, nb33, hbi, pu, Nat.reduceAdd, Nat.reduceEqDiff, reduceIte]
    refine F.oq rfl rfl rfl (by simp [go_sem]) fun d K h => ?_; go_simp; refine h _ ?_; clear h K d; try walk_nrm
    have hk2 := hkk g _ ⟨fun _ => rfl, fun h => no nb33 h⟩
    simp only [d15, d9, d14, d13, d12, d11, d10, d4, d8, d7, d6, d5, d3, d1, d2, d0, nb17, nb33, hbi, pu, Nat.reduceAdd, Nat.reduceEqDiff, reduceIte] at hk2
    exact hk2
  · intro b g w hI hcl hbi hdp rest hre hkk
    obtain ⟨hwf, hwt⟩ := hI
    replace hbi : b 17 = false := hbi
    have d15 := hdp 15 rfl
    have d16 := hdp 16 rfl
    have d9 := hcl 15 9 rfl d15
    have d14 := hcl 15 14 rfl d15
    have d13 := hcl 14 13 rfl d14
    have d12 := hcl 13 12 rfl d13
    have d11 := hcl 12 11 rfl d12
    have d10 := hcl 11 10 rfl d11
    have d4 := hcl 9 4 rfl d9
    have d8 := hcl 9 8 rfl d9
    have d7 := hcl 8 7 rfl d8
    have d6 := hcl 7 6 rfl d7
    have d5 := hcl 6 5 rfl d6
    have d3 := hcl 4 3 rfl d4
    have d1 := hcl 3 1 rfl d3
    have d2 := hcl 3 2 rfl d3
    have d0 := hcl 1 0 rfl d1
    have nb18 := nbf (hcl 18 17 rfl) hbi
    have nb33 := nbf (hcl 33 17 rfl) hbi
    have ewc := (hwf nb33).symm
    subst ewc
    simp only [d15, d16, d9, d14, d13, d12, d11, d10, d4, d8, d7, d6, d5, d3, d1, d2, d0, nb18, nb33, hbi, pu, Nat.reduceAdd, Nat.reduceEqDiff, reduceIte]
    refine F.ol rfl rfl rfl fun d K h => ?_; go_simp; refine h _ (fun e m => ?_) ?_; simp [go_sem, *] at m; subst m; exact evr (w := w0) (by assumption) (by first | assumption | (apply hfr <;> dsimp only <;> omega) | (apply hok; simp)); clear h K d; try walk_nrm
    have hk2 := hkk g _ ⟨fun _ => rfl, fun h => no nb33 h⟩
    simp only [d15, d16, d9, d14, d13, d12, d11, d10, d4, d8, d7, d6, d5, d3, d1, d2, d0, nb18, nb33, hbi, pu, Nat.reduceAdd, Nat.reduceEqDiff, reduceIte] at hk2
    exact hk2
  · intro b g w hI hcl hbi hdp rest hre hkk
    obtain ⟨hwf, hwt⟩ := hI
    replace hbi : b 18 = false := hbi
    have d15 := hdp 15 rfl
    have d17 := hdp 17 rfl
    have d16 := hcl 17 16 rfl d17
    have d9 := hcl 15 9 rfl d15
    have d14 := hcl 15 14 rfl d15
    have d13 := hcl 14 13 rfl d14
    have d12 := hcl 13 12 rfl d13
    have d11 := hcl 12 11 rfl d12
    have d10 := hcl 11 10 rfl d11
    have d4 := hcl 9 4 rfl d9
    have d8 := hcl 9 8 rfl d9
    have d7 := hcl 8 7 rfl d8
    have d6 := hcl 7 6 rfl d7
    have d5 := hcl 6 5 rfl d6
    have d3 := hcl 4 3 rfl d4
    have d1 := hcl 3 1 rfl d3
    have d2 := hcl 3 2 rfl d3
    have d0 := hcl 1 0 rfl d1
    have nb19 := nbf (hcl 19 18 rfl) hbi
    have nb33 := nbf (hcl 33 18 rfl) hbi
    have ewc := (hwf nb33).symm
    subst ewc
    simp only [d15, d17, d16, d9, d14, d13, d12, d11, d10, d4, d8, d7, d6, d5, d3, d1, d2, d0, nb19, nb33, hbi, pu, Nat.reduceAdd, Nat.reduceEqDiff, reduceIte]
    refine F.oq rfl rfl rfl (by simp [go_sem]) fun d K h => ?_; go_simp; refine h _ ?_; clear h K d; try walk_nrm
    have hk2 := hkk g _ ⟨fun _ => rfl, fun h => no nb33 h⟩
    simp only [d15, d17, d16, d9, d14, d13, d12, d11, d10, d4, d8, d7, d6, d5, d3, d1, d2, d0, nb19, nb33, hbi, pu, Nat.reduceAdd, Nat.reduceEqDiff, reduceIte] at hk2
    exact hk2
  · intro b g w hI hcl hbi hdp rest hre hkk
    obtain ⟨hwf, hwt⟩ := hI
    replace hbi : b 19 = false := hbi
    have d15 := hdp 15 rfl
    have d18 := hdp 18 rfl
    have d17 := hcl 18 17 rfl d18
    have d16 := hcl 17 16 rfl d17
    have d9 := hcl 15 9 rfl d15
    have d14 := hcl 15 14 rfl d15
    have d13 := hcl 14 13 rfl d14
    have d12 := hcl 13 12 rfl d13
    have d11 := hcl 12 11 rfl d12
    have d10 := hcl 11 10 rfl d11
    have d4 := hcl 9 4 rfl d9
    have d8 := hcl 9 8 rfl d9
    have d7 := hcl 8 7 rfl d8
    have d6 := hcl 7 6 rfl d7
    have d5 := hcl 6 5 rfl d6
    have d3 := hcl 4 3 rfl d4
    have d1 := hcl 3 1 rfl d3
    have d2 := hcl 3 2 rfl d3
    have d0 := hcl 1 0 rfl d1
    have nb20 := nbf (hcl 20 19 rfl) hbi
    have nb33 := nbf (hcl 33 19 rfl) hbi
    have ewc := (hwf nb33).symm
    subst ewc
    simp only [d15, d18, d17, d16, d9, d14, d13, d12, d11, d10, d4, d8, d7, d6, d5, d3, d1, d2, d0, nb20, nb33, hbi, pu, Nat.reduceAdd, Nat.reduceEqDiff, reduceIte]
    refine F.oq rfl rfl rfl (by simp [go_sem]) fun d K h => ?_; go_simp; refine h _ ?_; clear h K d; try walk_nrm
    have hk2 := hkk g _ ⟨fun _ => rfl, fun h => no nb33 h⟩
    simp only [d15, d18, d17, d16, d9, d14, d13, d12, d11, d10, d4, d8, d7, d6, d5, d3, d1, d2, d0, nb20, nb33, hbi, pu, Nat.reduceAdd, Nat.reduceEqDiff, reduceIte] at hk2
    exact hk2
  · intro b g w hI hcl hbi hdp rest hre hkk
    obtain ⟨hwf, hwt⟩ := hI
    replace hbi : b 20 = false := hbi
    have d15 := hdp 15 rfl
    have d19 := hdp 19 rfl
    have d18 := hcl 19 18 rfl d19
    have d17 := hcl 18 17 rfl d18
    have d16 := hcl 17 16 rfl d17
    have d9 := hcl 15 9 rfl d15
    have d14 := hcl 15 14 rfl d15
    have d13 := hcl 14 13 rfl d14
    have d12 := hcl 13 12 rfl d13
    have d11 := hcl 12 11 rfl d12
    have d10 := hcl 11 10 rfl d11
    have d4 := hcl 9 4 rfl d9
    have d8 := hcl 9 8 rfl d9
    have d7 := hcl 8 7 rfl d8
    have d6 := hcl 7 6 rfl d7
    have d5 := hcl 6 5 rfl d6
    have d3 := hcl 4 3 rfl d4
    have d1 := hcl 3 1 rfl d3
    have d2 := hcl 3 2 rfl d3
    have d0 := hcl 1 0 rfl d1
    have nb21 := nbf (hcl 21 20 rfl) hbi
    have nb33 := nbf (hcl 33 20 rfl) hbi
    have ewc := (hwf nb33).symm
    subst ewc
    simp only [d15, d19, d18, d17, d16, d9, d14, d13, d12, d11, d10, d4, d8, d7, d6, d5, d3, d1, d2, d0, nb21, nb33, hbi, pu, Nat.reduceAdd, Nat.reduceEqDiff, reduceIte]
    refine F.ol rfl rfl rfl fun d K h => ?_; go_simp; refine h _ (fun e m => ?_) ?_; simp [go_sem, *] at m; subst m; exact evr (w := w0) (by assumption) (by first | assumption | (apply hfr <;> dsimp only <;> omega) | (apply hok; simp)); clear h K d; try walk_nrm
    have hk2 := hkk g _ ⟨fun _ => rfl, fun h => no nb33 h⟩
    simp only [d15, d19, d18, d17, d16, d9, d14, d13, d12, d11, d10, d4, d8, d7, d6, d5, d3, d1, d2, d0, nb21, nb33, hbi, pu, Nat.reduceAdd, Nat.reduceEqDiff, reduceIte] at hk2
    exact hk2
  · intro b g w hI hcl hbi hdp rest hre hkk
    obtain ⟨hwf, hwt⟩ := hI
    replace hbi : b 21 = false := hbi
    have d15 := hdp 15 rfl
    have d20 := hdp 20 rfl
    have d19 := hcl 20 19 rfl d20
    have d18 := hcl 19 18 rfl d19
    have d17 := hcl 18 17 rfl d18
    have d16 := hcl 17 16 rfl d17
    have d9 := hcl 15 9 rfl d15
    have d14 := hcl 15 14 rfl d15
    have d13 := hcl 14 13 rfl d14
    have d12 := hcl 13 12 rfl d13
    have d11 := hcl 12 11 rfl d12
    have d10 := hcl 11 10 rfl d11
    have d4 := hcl 9 4 rfl d9
    have d8 := hcl 9 8 rfl d9
    have d7 := hcl 8 7 rfl d8
    have d6 := hcl 7 6 rfl d7
    have d5 := hcl 6 5 rfl d6
    have d3 := hcl 4 3 rfl d4
    have d1 := hcl 3 1 rfl d3
    have d2 := hcl 3 2 rfl d3
    have d0 := hcl 1 0 rfl d1
    have nb22 := nbf (hcl 22 21 rfl) hbi
    have nb33 := nbf (hcl 33 21 rfl) hbi
    have ewc := (hwf nb33).symm
    subst ewc
    simp only [d15, d20, d19, d18, d17, d16, d9, d14, d13, d12, d11, d10, d4, d8, d7, d6, d5, d3, d1, d2, d0, nb22, nb33, hbi, pu, Nat.reduceAdd, Nat.reduceEqDiff, reduceIte]
    refine F.oq rfl rfl rfl (by simp [go_sem]) fun d K h => ?_; go_simp; refine h _ ?_; clear h K d; try walk_nrm
    have hk2 := hkk g _ ⟨fun _ => rfl, fun h => no nb33 h⟩
    simp only [d15, d20, d19, d18, d17, d16, d9, d14, d13, d12, d11, d10, d4, d8, d7, d6, d5, d3, d1, d2, d0, nb22, nb33, hbi, pu, Nat.reduceAdd, Nat.reduceEqDiff, reduceIte] at hk2
    exact hk2
  · intro b g w hI hcl hbi hdp rest hre hkk
    obtain ⟨hwf, hwt⟩ := hI
    replace hbi : b 22 = false := hbi
    have d15 := hdp 15 rfl
    have d21 := hdp 21 rfl
    have d20 := hcl 21 20 rfl d21
    have d19 := hcl 20 19 rfl d20
    have d18 := hcl 19 18 rfl d19
    have d17 := hcl 18 17 rfl d18
    have d16 := hcl 17 16 rfl d17
    have d9 := hcl 15 9 rfl d15
    have d14 := hcl 15 14 rfl d15
    have d13 := hcl 14 13 rfl d14
    have d12 := hcl 13 12 rfl d13
    have d11 := hcl 12 11 rfl d12
    have d10 := hcl 11 10 rfl d11
    have d4 := hcl 9 4 rfl d9
    have d8 := hcl 9 8 rfl d9
    have d7 := hcl 8 7 rfl d8
    have d6 := hcl 7 6 rfl d7
    have d5 := hcl 6 5 rfl d6
    have d3 := hcl 4 3 rfl d4
    have d1 := hcl 3 1 rfl d3
    have d2 := hcl 3 2 rfl d3
    have d0 := hcl 1 0 rfl d1
    have nb23 := nbf (hcl 23 22 rfl) hbi
    have nb33 := nbf (hcl 33 22 rfl) hbi
    have ewc := (hwf nb33).symm
    subst ewc
    simp only [d15, d21, d20, d19, d18, d17, d16, d9, d14, d13, d12, d11, d10, d4, d8, d7, d6, d5, d3, d1, d2, d0, nb23, nb33, hbi, pu, Nat.reduceAdd, Nat.reduceEqDiff, reduceIte]
    refine F.oq rfl rfl rfl (by simp [go_sem]) fun d K h => ?_; go_simp; refine h _ ?_; clear h K d; try walk_nrm
    have hk2 := hkk g _ ⟨fun _ => rfl, fun h => no nb33 h⟩
    simp only [d15, d21, d20, d19, d18, d17, d16, d9, d14, d13, d12, d11, d10, d4, d8, d7, d6, d5, d3, d1, d2, d0, nb23, nb33, hbi, pu, Nat.reduceAdd, Nat.reduceEqDiff, reduceIte] at hk2
    exact hk2
  · intro b g w hI hcl hbi hdp rest hre hkk
    obtain ⟨hwf, hwt⟩ := hI
    replace hbi : b 23 = false := hbi
    have d15 := hdp 15 rfl
    have d22 := hdp 22 rfl
    have d21 := hcl 22 21 rfl d22
    have d20 := hcl 21 20 rfl d21
    have d19 := hcl 20 19 rfl d20
    have d18 := hcl 19 18 rfl d19
    have d17 := hcl 18 17 rfl d18
    have d16 := hcl 17 16 rfl d17
    have d9 := hcl 15 9 rfl d15
    have d14 := hcl 15 14 rfl d15
    have d13 := hcl 14 13 rfl d14
    have d12 := hcl 13 12 rfl d13
    have d11 := hcl 12 11 rfl d12
    have d10 := hcl 11 10 rfl d11
    have d4 := hcl 9 4 rfl d9
    have d8 := hcl 9 8 rfl d9
    have d7 := hcl 8 7 rfl d8
    have d6 := hcl 7 6 rfl d7
    have d5 := hcl 6 5 rfl d6
    have d3 := hcl 4 3 rfl d4
    have d1 := hcl 3 1 rfl d3
    have d2 := hcl 3 2 rfl d3
    have d0 := hcl 1 0 rfl d1
    have nb24 := nbf (hcl 24 23 rfl) hbi
    have nb25 := nbf (hcl 25 23 rfl) hbi
    have nb26 := nbf (hcl 26 23 rfl) hbi
    have nb27 := nbf (hcl 27 23 rfl) hbi
    have nb28 := nbf (hcl 28 23 rfl) hbi
    have nb29 := nbf (hcl 29 23 rfl) hbi
    have nb30 := nbf (hcl 30 23 rfl) hbi
    have nb31 := nbf (hcl 31 23 rfl) hbi
    have nb32 := nbf (hcl 32 23 rfl) hbi
    have nb33 := nbf (hcl 33 23 rfl) hbi
    have ewc := (hwf nb33).symm
    subst ewc
    simp only [d15, d22, d21, d20, d19, d18, d17, d16, d9, d14, d13, d12, d11, d10, d4, d8, d7, d6, d5, d3, d1, d2, d0, nb24, nb25, nb26, nb27, nb28, nb29, nb30, nb31, nb32, nb33, hbi, pu, Nat.reduceAdd, Nat.reduceEqDiff, reduceIte]
    refine F.oq rfl rfl rfl (by simp [go_sem]) fun d K h => ?_; go_simp; refine h _ ?_; clear h K d; try walk_nrm
    have hk2 := hkk g _ ⟨fun _ => rfl, fun h => no nb33 h⟩
    simp only [d15, d22, d21, d20, d19, d18, d17, d16, d9, d14, d13, d12, d11, d10, d4, d8, d7, d6, d5, d3, d1, d2, d0, nb24, nb25, nb26, nb27, nb28, nb29, nb30, nb31, nb32, nb33, hbi, pu, Nat.reduceAdd, Nat.reduceEqDiff, reduceIte] at hk2
    exact hk2
  · intro b g w hI hcl hbi hdp rest hre hkk
    obtain ⟨hwf, hwt⟩ := hI
    replace hbi : b 24 = false := hbi
    have d23 := hdp 23 rfl
    have d15 := hcl 23 15 rfl d23
    have d22 := hcl 23 22 rfl d23
    have d21 := hcl 22 21 rfl d22
    have d20 := hcl 21 20 rfl d21
    have d19 := hcl 20 19 rfl d20
    have d18 := hcl 19 18 rfl d19
    have d17 := hcl 18 17 rfl d18
    have d16 := hcl 17 16 rfl d17
    have d9 := hcl 15 9 rfl d15
    have d14 := hcl 15 14 rfl d15
    have d13 := hcl 14 13 rfl d14
    have d12 := hcl 13 12 rfl d13
    have d11 := hcl 12 11 rfl d12
    have d10 := hcl 11 10 rfl d11
    have d4 := hcl 9 4 rfl d9
    have d8 := hcl 9 8 rfl d9
    have d7 := hcl 8 7 rfl d8
    have d6 := hcl 7 6 rfl d7
    have d5 := hcl 6 5 rfl d6
    have d3 := hcl 4 3 rfl d4
    have d1 := hcl 3 1 rfl d3
    have d2 := hcl 3 2 rfl d3
    have d0 := hcl 1 0 rfl d1
    have nb25 := nbf (hcl 25 24 rfl) hbi
    have nb33 := nbf (hcl 33 24 rfl) hbi
    have ewc := (hwf nb33).symm
    subst ewc
    simp only [d23, d15, d22, d21, d20, d19, d18, d17, d16, d9, d14, d13, d12, d11, d10, d4, d8, d7, d6, d5, d3, d1, d2, d0, nb25, nb33, hbi, pu, Nat.reduceAdd, Nat.reduceEqDiff, reduceIte]
    refine F.oq rfl rfl rfl (by simp [go_sem]) fun d K h => ?_; go_simp; refine h _ ?_; clear h K d; try walk_nrm
    have hk2 := hkk g _ ⟨fun _ => rfl, fun h => no nb33 h⟩
    simp only [d23, d15, d22, d21, d20, d19, d18, d17, d16, d9, d14, d13, d12, d11, d10, d4, d8, d7, d6, d5, d3, d1, d2, d0, nb25, nb33, hbi, pu, Nat.reduceAdd, Nat.reduceEqDiff, reduceIte] at hk2
    exact hk2
  · intro b g w hI hcl hbi hdp rest hre hkk
    obtain ⟨hwf, hwt⟩ := hI
    replace hbi : b 25 = false := hbi
    have d23 := hdp 23 rfl
    have d24 := hdp 24 rfl
    have d15 := hcl 23 15 rfl d23
    have d22 := hcl 23 22 rfl d23
    have d21 := hcl 22 21 rfl d22
    have d20 := hcl 21 20 rfl d21
    have d19 := hcl 20 19 rfl d20
    have d18 := hcl 19 18 rfl d19
    have d17 := hcl 18 17 rfl d18
    have d16 := hcl 17 16 rfl d17
    have d9 := hcl 15 9 rfl d15
    have d14 := hcl 15 14 rfl d15
    have d13 := hcl 14 13 rfl d14
    have d12 := hcl 13 12 rfl d13
    have d11 := hcl 12 11 rfl d12
    have d10 := hcl 11 10 rfl d11
    have d4 := hcl 9 4 rfl d9
    have d8 := hcl 9 8 rfl d9
    have d7 := hcl 8 7 rfl d8
    have d6 := hcl 7 6 rfl d7
    have d5 := hcl 6 5 rfl d6
    have d3 := hcl 4 3 rfl d4
    have d1 := hcl 3 1 rfl d3
    have d2 := hcl 3 2 rfl d3
    have d0 := hcl 1 0 rfl d1
    have nb26 := nbf (hcl 26 25 rfl) hbi
    have nb33 := nbf (hcl 33 25 rfl) hbi
    have ewc := (hwf nb33).symm
    subst ewc
    simp only [d23, d24, d15, d22, d21, d20, d19, d18, d17, d16, d9, d14, d13, d12, d11, d10, d4, d8, d7, d6, d5, d3, d1, d2, d0, nb26, nb33, hbi, pu, Nat.reduceAdd, Nat.reduceEqDiff, reduceIte]
    refine F.ol rfl rfl rfl fun d K h => ?_; go_simp; refine h _ (fun e m => ?_) ?_; simp [go_sem, *] at m; subst m; exact evr (w := w0) (by assumption) (by first | assumption | (apply hfr <;> dsimp only <;> omega) | (apply hok; simp)); clear h K d; try walk_nrm
    have hk2 := hkk g _ ⟨fun _ => rfl, fun h => no nb33 h⟩
    simp only [d23, d24, d15, d22, d21, d20, d19, d18, d17, d16, d9, d14, d13, d12, d11, d10, d4, d8, d7, d6, d5, d3, d1, d2, d0, nb26, nb33, hbi, pu, Nat.reduceAdd, Nat.reduceEqDiff, reduceIte] at hk2
    exact hk2
  · intro b g w hI hcl hbi hdp rest hre hkk
    obtain ⟨hwf, hwt⟩ := hI
    replace hbi : b 26 = false := hbi
    have d23 := hdp 23 rfl
    have d25 := hdp 25 rfl
    have d24 := hcl 25 24 rfl d25
    have d15 := hcl 23 15 rfl d23
    have d22 := hcl 23 22 rfl d23
    have d21 := hcl 22 21 rfl d22
    have d20 := hcl 21 20 rfl d21
    have d19 := hcl 20 19 rfl d20
    have d18 := hcl 19 18 rfl d19
    have d17 := hcl 18 17 rfl d18
    have d16 := hcl 17 16 rfl d17
    have d9 := hcl 15 9 rfl d15
    have d14 := hcl 15 14 rfl d15
    have d13 := hcl 14 13 rfl d14
    have d12 := hcl 13 12 rfl d13
    have d11 := hcl 12 11 rfl d12
    have d10 := hcl 11 10 rfl d11
    have d4 := hcl 9 4 rfl d9
    have d8 := hcl 9 8 rfl d9
    have d7 := hcl 8 7 rfl d8
    have d6 := hcl 7 6 rfl d7
    have d5 := hcl 6 5 rfl d6
    have d3 := hcl 4 3 rfl d4
    have d1 := hcl 3 1 rfl d3
    have d2 := hcl 3 2 rfl d3
    have d0 := hcl 1 0 rfl d1
    have nb27 := nbf (hcl 27 26 rfl) hbi
    have nb33 := nbf (hcl 33 26 rfl) hbi
    have ewc := (hwf nb33).symm
    subst ewc
    simp only [d23, d25, d24, d15, d22, d21, d20, d19, d18, d17, d16, d9, d14, d13, d12, d11, d10, d4, d8, d7, d6, d5, d3, d1, d2, d0, nb27, nb33, hbi, pu, Nat.reduceAdd, Nat.reduceEqDiff, reduceIte]
    refine F.oq rfl rfl rfl (by simp [go_sem]) fun d K h => ?_; go_simp; refine h _ ?_; clear h K d; try walk_nrm
    have hk2 := hkk g _ ⟨fun _ => rfl, fun h => no nb33 h⟩
    simp only [d23, d25, d24, d15, d22, d21, d20, d19, d18, d17, d16, d9, d14, d13, d12, d11, d10, d4, d8, d7, d6, d5, d3, d1, d2, d0, nb27, nb33, hbi, pu, Nat.reduceAdd, Nat.reduceEqDiff, reduceIte] at hk2
    exact hk2
  · intro b g w hI hcl hbi hdp rest hre hkk
    obtain ⟨hwf, hwt⟩ := hI
    replace hbi : b 27 = false := hbi
    have d23 := hdp 23 rfl
    have d26 := hdp 26 rfl
    have d25 := hcl 26 25 rfl d26
    have d24 := hcl 25 24 rfl d25
    have d15 := hcl 23 15 rfl d23
    have d22 := hcl 23 22 rfl d23
    have d21 := hcl 22 21 rfl d22
    have d20 := hcl 21 20 rfl d21
    have d19 := hcl 20 19 rfl d20
    have d18 := hcl 19 18 rfl d19
    have d17 := hcl 18 17 rfl d18
    have d16 := hcl 17 16 rfl d17
    have d9 := hcl 15 9 rfl d15
    have d14 := hcl 15 14 rfl d15
    have d13 := hcl 14 13 rfl d14
    have d12 := hcl 13 12 rfl d13
    have d11 := hcl 12 11 rfl d12
    have d10 := hcl 11 10 rfl d11
    have d4 := hcl 9 4 rfl d9
    have d8 := hcl 9 8 rfl d9
    have d7 := hcl 8 7 rfl d8
    have d6 := hcl 7 6 rfl d7
    have d5 := hcl 6 5 rfl d6
    have d3 := hcl 4 3 rfl d4
    have d1 := hcl 3 1 rfl d3
    have d2 := hcl 3 2 rfl d3
    have d0 := hcl 1 0 rfl d1
    have nb28 := nbf (hcl 28 27 rfl) hbi
    have nb33 := nbf (hcl 33 27 rfl) hbi
    have ewc := (hwf nb33).symm
    subst ewc
    simp only [d23, d26, d25, d24, d15, d22, d21, d20, d19, d18, d17, d16, d9, d14, d13, d12, d11, d10, d4, d8, d7, d6, d5, d3, d1, d2, d0, nb28, nb33, hbi, pu, Nat.reduceAdd, Nat.reduceEqDiff, reduceIte]
    refine F.oq rfl rfl rfl (by simp [go_sem]) fun d K h => ?_; go_simp; refine h _ ?_; clear h K d; try walk_nrm
    have hk2 := hkk g _ ⟨fun _ => rfl, fun h => no nb33 h⟩
    simp only [d23, d26, d25, d24, d15, d22, d21, d20, d19, d18, d17, d16, d9, d14, d13, d12, d11, d10, d4, d8, d7, d6, d5, d3, d1, d2, d0, nb28, nb33, hbi, pu, Nat.reduceAdd, Nat.reduceEqDiff, reduceIte] at hk2
    exact hk2
  · intro b g w hI hcl hbi hdp rest hre hkk
    obtain ⟨hwf, hwt⟩ := hI
    replace hbi : b 28 = false := hbi
    have d23 := hdp 23 rfl
    have d27 := hdp 27 rfl
    have d26 := hcl 27 26 rfl d27
    have d25 := hcl 26 25 rfl d26
    have d24 := hcl 25 24 rfl d25
    have d15 := hcl 23 15 rfl d23
    have d22 := hcl 23 22 rfl d23
    have d21 := hcl 22 21 rfl d22
    have d20 := hcl 21 20 rfl d21
    have d19 := hcl 20 19 rfl d20
    have d18 := hcl 19 18 rfl d19
    have d17 := hcl 18 17 rfl d18
    have d16 := hcl 17 16 rfl d17
    have d9 := hcl 15 9 rfl d15
    have d14 := hcl 15 14 rfl d15
    have d13 := hcl 14 13 rfl d14
    have d12 := hcl 13 12 rfl d13
    have d11 := hcl 12 11 rfl d12
    have d10 := hcl 11 10 rfl d11
    have d4 := hcl 9 4 rfl d9
    have d8 := hcl 9 8 rfl d9
    have d7 := hcl 8 7 rfl d8
    have d6 := hcl 7 6 rfl d7
    have d5 := hcl 6 5 rfl d6
    have d3 := hcl 4 3 rfl d4
    have d1 := hcl 3 1 rfl d3
    have d2 := hcl 3 2 rfl d3
    have d0 := hcl 1 0 rfl d1
    have nb31 := nbf (hcl 31 28 rfl) hbi
    have nb33 := nbf (hcl 33 28 rfl) hbi
    have ewc := (hwf nb33).symm
    subst ewc
    simp only [d23, d27, d26, d25, d24, d15, d22, d21, d20, d19, d18, d17, d16, d9, d14, d13, d12, d11, d10, d4, d8, d7, d6, d5, d3, d1, d2, d0, nb31, nb33, hbi, pu, Nat.reduceAdd, Nat.reduceEqDiff, reduceIte]
    refine F.ol rfl rfl rfl fun d K h => ?_; go_simp; refine h _ (fun e m => ?_) ?_; simp [go_sem, *] at m; subst m; exact evr (w := w0) (by assumption) (by first | assumption | (apply hfr <;> dsimp only <;> omega) | (apply hok; simp)); clear h K d; try walk_nrm
    have hk2 := hkk g _ ⟨fun _ => rfl, fun h => no nb33 h⟩
    simp only [d23, d27, d26, d25, d24, d15, d22, d21, d20, d19, d18, d17, d16, d9, d14, d13, d12, d11, d10, d4, d8, d7, d6, d5, d3, d1, d2, d0, nb31, nb33, hbi, pu, Nat.reduceAdd, Nat.reduceEqDiff, reduceIte] at hk2
    exact hk2
  · intro b g w hI hcl hbi hdp rest hre hkk
    obtain ⟨hwf, hwt⟩ := hI
    replace hbi : b 29 = false := hbi
    have d23 := hdp 23 rfl
    have d15 := hcl 23 15 rfl d23
    have d22 := hcl 23 22 rfl d23
    have d21 := hcl 22 21 rfl d22
    have d20 := hcl 21 20 rfl d21
    have d19 := hcl 20 19 rfl d20
    have d18 := hcl 19 18 rfl d19
    have d17 := hcl 18 17 rfl d18
    have d16 := hcl 17 16 rfl d17
    have d9 := hcl 15 9 rfl d15
    have d14 := hcl 15 14 rfl d15
    have d13 := hcl 14 13 rfl d14
    have d12 := hcl 13 12 rfl d13
    have d11 := hcl 12 11 rfl d12
    have d10 := hcl 11 10 rfl d11
    have d4 := hcl 9 4 rfl d9
    have d8 := hcl 9 8 rfl d9
    have d7 := hcl 8 7 rfl d8
    have d6 := hcl 7 6 rfl d7
    have d5 := hcl 6 5 rfl d6
    have d3 := hcl 4 3 rfl d4
    have d1 := hcl 3 1 rfl d3
    have d2 := hcl 3 2 rfl d3
    have d0 := hcl 1 0 rfl d1
    have nb30 := nbf (hcl 30 29 rfl) hbi
    have nb33 := nbf (hcl 33 29 rfl) hbi
    have ewc := (hwf nb33).symm
    subst ewc
    simp only [d23, d15, d22, d21, d20, d19, d18, d17, d16, d9, d14, d13, d12, d11, d10, d4, d8, d7, d6, d5, d3, d1, d2, d0, nb30, nb33, hbi, pu, Nat.reduceAdd, Nat.reduceEqDiff, reduceIte]
    refine F.oq rfl rfl rfl (by simp [go_sem]) fun d K h => ?_; go_simp; refine h _ ?_; clear h K d; try walk_nrm
    have hk2 := hkk g _ ⟨fun _ => rfl, fun h => no nb33 h⟩
    simp only [d23, d15, d22, d21, d20, d19, d18, d17, d16, d9, d14, d13, d12, d11, d10, d4, d8, d7, d6, d5, d3, d1, d2, d0, nb30, nb33, hbi, pu, Nat.reduceAdd, Nat.reduceEqDiff, reduceIte] at hk2
    exact hk2
  · intro b g w hI hcl hbi hdp rest hre hkk
    obtain ⟨hwf, hwt⟩ := hI
    replace hbi : b 30 = false := hbi
    have d23 := hdp 23 rfl
    have d29 := hdp 29 rfl
    have d15 := hcl 23 15 rfl d23
    have d22 := hcl 23 22 rfl d23
    have d21 := hcl 22 21 rfl d22
    have d20 := hcl 21 20 rfl d21
    have d19 := hcl 20 19 rfl d20
    have d18 := hcl 19 18 rfl d19
    have d17 := hcl 18 17 rfl d18
    have d16 := hcl 17 16 rfl d17
    have d9 := hcl 15 9 rfl d15
    have d14 := hcl 15 14 rfl d15
    have d13 := hcl 14 13 rfl d14
    have d12 := hcl 13 12 rfl d13
    have d11 := hcl 12 11 rfl d12
    have d10 := hcl 11 10 rfl d11
    have d4 := hcl 9 4 rfl d9
    have d8 := hcl 9 8 rfl d9
    have d7 := hcl 8 7 rfl d8
    have d6 := hcl 7 6 rfl d7
    have d5 := hcl 6 5 rfl d6
    have d3 := hcl 4 3 rfl d4
    have d1 := hcl 3 1 rfl d3
    have d2 := hcl 3 2 rfl d3
    have d0 := hcl 1 0 rfl d1
    have nb31 := nbf (hcl 31 30 rfl) hbi
    have nb33 := nbf (hcl 33 30 rfl) hbi
    have ewc := (hwf nb33).symm
    subst ewc
    simp only [d23, d29, d15, d22, d21, d20, d19, d18, d17, d16, d9, d14, d13, d12, d11, d10, d4, d8, d7, d6, d5, d3, d1, d2, d0, nb31, nb33, hbi, pu, Nat.reduceAdd, Nat.reduceEqDiff, reduceIte]
    refine F.ol rfl rfl rfl fun d K h => ?_; go_simp; refine h _ (fun e m => ?_) ?_; simp [go_sem, *] at m; subst m; exact evr (w := w0) (by assumption) (by first | assumption | (apply hfr <;> dsimp only <;> omega) | (apply hok; simp)); clear h K d; try walk_nrm
    have hk2 := hkk g _ ⟨fun _ => rfl, fun h => no nb33 h⟩
    simp only [d23, d29, d15, d22, d21, d20, d19, d18, d17, d16, d9, d14, d13, d12, d11, d10, d4, d8, d7, d6, d5, d3, d1, d2, d0, nb31, nb33, hbi, pu, Nat.reduceAdd, Nat.reduceEqDiff, reduceIte] at hk2
    exact hk2
  · intro b g w hI hcl hbi hdp rest hre hkk
    obtain ⟨hwf, hwt⟩ := hI
    replace hbi : b 31 = false := hbi
    have d23 := hdp 23 rfl
    have d28 := hdp 28 rfl
    have d30 := hdp 30 rfl
    have d29 := hcl 30 29 rfl d30
    have d27 := hcl 28 27 rfl d28
    have d26 := hcl 27 26 rfl d27
    have d25 := hcl 26 25 rfl d26
    have d24 := hcl 25 24 rfl d25
    have d15 := hcl 23 15 rfl d23
    have d22 := hcl 23 22 rfl d23
    have d21 := hcl 22 21 rfl d22
    have d20 := hcl 21 20 rfl d21
    have d19 := hcl 20 19 rfl d20
    have d18 := hcl 19 18 rfl d19
    have d17 := hcl 18 17 rfl d18
    have d16 := hcl 17 16 rfl d17
    have d9 := hcl 15 9 rfl d15
    have d14 := hcl 15 14 rfl d15
    have d13 := hcl 14 13 rfl d14
    have d12 := hcl 13 12 rfl d13
    have d11 := hcl 12 11 rfl d12
    have d10 := hcl 11 10 rfl d11
    have d4 := hcl 9 4 rfl d9
    have d8 := hcl 9 8 rfl d9
    have d7 := hcl 8 7 rfl d8
    have d6 := hcl 7 6 rfl d7
    have d5 := hcl 6 5 rfl d6
    have d3 := hcl 4 3 rfl d4
    have d1 := hcl 3 1 rfl d3
    have d2 := hcl 3 2 rfl d3
    have d0 := hcl 1 0 rfl d1
    have nb32 := nbf (hcl 32 31 rfl) hbi
    have nb33 := nbf (hcl 33 31 rfl) hbi
    have ewc := (hwf nb33).symm
    subst ewc
    simp only [d23, d28, d30, d29, d27, d26, d25, d24, d15, d22, d21, d20, d19, d18, d17, d16, d9, d14, d13, d12, d11, d10, d4, d8, d7, d6, d5, d3, d1, d2, d0, nb32, nb33, hbi, pu, Nat.reduceAdd, Nat.reduceEqDiff, reduceIte]
    refine F.oq rfl rfl rfl (by simp [go_sem]) fun d K h => ?_; go_simp; refine h _ ?_; clear h K d; try walk_nrm
    have hk2 := hkk g _ ⟨fun _ => rfl, fun h => no nb33 h⟩
    simp only [d23, d28, d30, d29, d27, d26, d25, d24, d15, d22, d21, d20, d19, d18, d17, d16, d9, d14, d13, d12, d11, d10, d4, d8, d7, d6, d5, d3, d1, d2, d0, nb32, nb33, hbi, pu, Nat.reduceAdd, Nat.reduceEqDiff, reduceIte] at hk2
    exact hk2
  · intro b g w hI hcl hbi hdp rest hre hkk
    obtain ⟨hwf, hwt⟩ := hI
    replace hbi : b 32 = false := hbi
    have d23 := hdp 23 rfl
    have d31 := hdp 31 rfl
    have d28 := hcl 31 28 rfl d31
    have d30 := hcl 31 30 rfl d31
    have d29 := hcl 30 29 rfl d30
    have d27 := hcl 28 27 rfl d28
    have d26 := hcl 27 26 rfl d27
    have d25 := hcl 26 25 rfl d26
    have d24 := hcl 25 24 rfl d25
    have d15 := hcl 23 15 rfl d23
    have d22 := hcl 23 22 rfl d23
    have d21 := hcl 22 21 rfl d22
    have d20 := hcl 21 20 rfl d21
    have d19 := hcl 20 19 rfl d20
    have d18 := hcl 19 18 rfl d19
    have d17 := hcl 18 17 rfl d18
    have d16 := hcl 17 16 rfl d17
    have d9 := hcl 15 9 rfl d15
    have d14 := hcl 15 14 rfl d15
    have d13 := hcl 14 13 rfl d14
    have d12 := hcl 13 12 rfl d13
    have d11 := hcl 12 11 rfl d12
    have d10 := hcl 11 10 rfl d11
    have d4 := hcl 9 4 rfl d9
    have d8 := hcl 9 8 rfl d9
    have d7 := hcl 8 7 rfl d8
    have d6 := hcl 7 6 rfl d7
    have d5 := hcl 6 5 rfl d6
    have d3 := hcl 4 3 rfl d4
    have d1 := hcl 3 1 rfl d3
    have d2 := hcl 3 2 rfl d3
    have d0 := hcl 1 0 rfl d1
    have nb33 := nbf (hcl 33 32 rfl) hbi
    have ewc := (hwf nb33).symm
    subst ewc
    simp only [d23, d31, d28, d30, d29, d27, d26, d25, d24, d15, d22, d21, d20, d19, d18, d17, d16, d9, d14, d13, d12, d11, d10, d4, d8, d7, d6, d5, d3, d1, d2, d0, nb33, hbi, pu, Nat.reduceAdd, Nat.reduceEqDiff, reduceIte]
    refine F.oq rfl rfl rfl (by simp [go_sem]) fun d K h => ?_; go_simp; refine h _ ?_; clear h K d; try walk_nrm
    have hk2 := hkk g _ ⟨fun _ => rfl, fun h => no nb33 h⟩
    simp only [d23, d31, d28, d30, d29, d27, d26, d25, d24, d15, d22, d21, d20, d19, d18, d17, d16, d9, d14, d13, d12, d11, d10, d4, d8, d7, d6, d5, d3, d1, d2, d0, nb33, hbi, pu, Nat.reduceAdd, Nat.reduceEqDiff, reduceIte] at hk2
    exact hk2
  · intro b g w hI hcl hbi hdp rest hre hkk
    obtain ⟨hwf, hwt⟩ := hI
    replace hbi : b 33 = false := hbi
    have d0 := hdp 0 rfl
    have d1 := hdp 1 rfl
    have d2 := hdp 2 rfl
    have d3 := hdp 3 rfl
    have d4 := hdp 4 rfl
    have d5 := hdp 5 rfl
    have d6 := hdp 6 rfl
    have d7 := hdp 7 rfl
    have d8 := hdp 8 rfl
    have d9 := hdp 9 rfl
    have d10 := hdp 10 rfl
    have d11 := hdp 11 rfl
    have d12 := hdp 12 rfl
    have d13 := hdp 13 rfl
    have d14 := hdp 14 rfl
    have d15 := hdp 15 rfl
    have d16 := hdp 16 rfl
    have d17 := hdp 17 rfl
    have d18 := hdp 18 rfl
    have d19 := hdp 19 rfl
    have d20 := hdp 20 rfl
    have d21 := hdp 21 rfl
    have d22 := hdp 22 rfl
    have d23 := hdp 23 rfl
    have d24 := hdp 24 rfl
    have d25 := hdp 25 rfl
    have d26 := hdp 26 rfl
    have d27 := hdp 27 rfl
    have d28 := hdp 28 rfl
    have d29 := hdp 29 rfl
    have d30 := hdp 30 rfl
    have d31 := hdp 31 rfl
    have d32 := hdp 32 rfl
    have ewc := (hwf hbi).symm
    subst ewc
    simp only [d0, d1, d2, d3, d4, d5, d6, d7, d8, d9, d10, d11, d12, d13, d14, d15, d16, d17, d18, d19, d20, d21, d22, d23, d24, d25, d26, d27, d28, d29, d30, d31, d32, hbi, pu, Nat.reduceAdd, Nat.reduceEqDiff, reduceIte]
    refine F.oq rfl rfl rfl (by simp [go_sem]) fun d K h => ?_; go_simp; refine h _ ?_; clear h K d; try walk_nrm
    have hk2 := hkk g _ ⟨fun h => by simp [tick] at h, fun _ => rfl⟩
    simp only [d0, d1, d2, d3, d4, d5, d6, d7, d8, d9, d10, d11, d12, d13, d14, d15, d16, d17, d18, d19, d20, d21, d22, d23, d24, d25, d26, d27, d28, d29, d30, d31, d32, hbi, pu, Nat.reduceAdd, Nat.reduceEqDiff, reduceIte] at hk2
    exact hk2
  intro b g w hI hall
  obtain ⟨hwf, hwt⟩ := hI
  simp only [hall 0 (by decide), hall 1 (by decide), hall 2 (by decide), hall 3 (by decide), hall 4 (by decide), hall 5 (by decide), hall 6 (by decide), hall 7 (by decide), hall 8 (by decide), hall 9 (by decide), hall 10 (by decide), hall 11 (by decide), hall 12 (by decide), hall 13 (by decide), hall 14 (by decide), hall 15 (by decide), hall 16 (by decide), hall 17 (by decide), hall 18 (by decide), hall 19 (by decide), hall 20 (by decide), hall 21 (by decide), hall 22 (by decide), hall 23 (by decide), hall 24 (by decide), hall 25 (by decide), hall 26 (by decide), hall 27 (by decide), hall 28 (by decide), hall 29 (by decide), hall 30 (by decide), hall 31 (by decide), hall 32 (by decide), hall 33 (by decide), pu, Nat.reduceAdd, Nat.reduceEqDiff, reduceIte]
  have ewf := (hwt (hall 33 (by decide))).symm
  subst ewf
  refine F.re ?_
  refine F.ctl (fun _ => stepG_ret') ?_
  exact law_says hpost (resultsC_tmp (t := 4) (by rfl) _) rfl
end

end Go.Proofs.YtobagnjnbmgidaaGreatDoor
