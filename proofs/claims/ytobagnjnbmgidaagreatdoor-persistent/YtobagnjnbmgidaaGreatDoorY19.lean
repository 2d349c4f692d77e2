/- The law of a Retry alone: the loop. -/
import Derived.Test.YtobagnjnbmgidaaGreatDoorY18
import Derived.Test.YtobagnjnbmgidaaGreatDoorY16
set_option linter.unusedSimpArgs false
set_option linter.unusedVariables false
namespace Go.Proofs.YtobagnjnbmgidaaGreatDoor
open Go.Conc Go.RowKit Go.Extern
open Go.ConcN (sumTo upd sumTo_upd upd_ne upd_same)

section
variable {wI : World} {l : List Nat} {nL nC nO : Nat} {ta : Option Addr} {nt cap : Nat} {T : Nat → Nat → Int} {a cc d st tmv kv nv : Int} {x : Option Addr} {q cp : Nat} {kd nn : Int} {Post : Value → World → Prop}

set_option maxRecDepth 100000 in
set_option maxHeartbeats 8000000 in
theorem law_next (N3 nU : Nat) (va vc : Value) (tv pv kn tk : Int) {y5 y6 y7 y13 y14 y15 y16 y17 y18 y19 y20 y21 y22 y23 y24 y25 y26 y27 y28 y29 y30 y31 y32 y33 y34 y35 y36 y37 y38 y39 y40 y41 y42 y43 y44 y45 y46 y47 y48 y49 y50 y51 y52 y53 y54 y55 y56 y57 y58 y59 y60 y61 y62 y63 y64 y65 y66 y67 y68 y69 y70 y71 y72 y73 y74 y75 y76 y77 y78 y79 y80 y81 y82 y83 y84 y85 y86 y87 y88 y89 y90 y91 y92 y93 y94 y95 y96 y97 y98 y99 y100 y101 y102 y103 y104 y105 y106 y107 y108 y109 y110 y111 y112 y113 y114 y115 y116 y117 y118 y119 y120 y121 y122 y123 y124 y125 y126 y127 y128 y129 y130 y131 y132 y133 y134 y135 y136 y137 y138 y139 y140 y141 y142 y143 y144 y145 y146 y147 y148 y149 y150 y151 y152 y153 y154 y155 y156 y157 y158 y159 y160 y161 y162 y163 y164 y165 y166 y167 : Value} (w0 : World) (H : Law wI w0 l nL nC nO ta nt cap T a cc d st tmv kv nv x q cp kd nn) (hka : kn + 1 < a) (hkw : IntKind.i64.wrap (kn + 1) = kn + 1) (hp : 0 ≤ pv ∧ pv ≤ 90000) (hd : 0 ≤ d ∧ d ≤ 10000) (hcc : 0 ≤ cc ∧ cc ≤ 9) (htv : 0 ≤ tv ∧ tv ≤ 1000000)
    (u0 : w0.cell? ⟨nU, 0, none⟩ = some (.int .i64 2))
    (hnext : ∀ pc, pc = min pv d → ∀ {y5 y6 y7 y12 y13 y14 y15 y16 y17 y18 y19 y20 y21 y22 y23 y24 y25 y26 y27 y28 y29 y30 y31 y32 y33 y34 y35 y36 y37 y38 y39 y40 y41 y42 y43 y44 y45 y46 y47 y48 y49 y50 y51 y52 y53 y54 y55 y56 y57 y58 y59 y60 y61 y62 y63 y64 y65 y66 y67 y68 y69 y70 y71 y72 y73 y74 y75 y76 y77 y78 y79 y80 y81 y82 y83 y84 y85 y86 y87 y88 y89 y90 y91 y92 y93 y94 y95 y96 y97 y98 y99 y100 y101 y102 y103 y104 y105 y106 y107 y108 y109 y110 y111 y112 y113 y114 y115 y116 y117 y118 y119 y120 y121 y122 y123 y124 y125 y126 y127 y128 y129 y130 y131 y132 y133 y134 y135 y136 y137 y138 y139 y140 y141 y142 y143 y144 y145 y146 y147 y148 y149 y150 y151 y152 y153 y154 y155 y156 y157 y158 y159 y160 y161 y162 y163 y164 y165 y166 y167 : Value}, At0 Tryz.prog Post (Old wI) (ShL l) N3 (G ((base 5).at ⟨(List.toArray ((va) :: (vc) :: (.pointer (some ⟨nL, 0, none⟩)) :: (.pointer (some ⟨nC, 0, none⟩)) :: (.bool false) :: y5 :: y6 :: y7 :: (.pointer (some ⟨nO, 0, none⟩)) :: (.int .i64 (tv + pc)) :: (.int .i64 (pc * cc)) :: (.int .i64 (kn + 1)) :: y12 :: y13 :: y14 :: y15 :: y16 :: y17 :: y18 :: y19 :: y20 :: y21 :: y22 :: y23 :: y24 :: y25 :: y26 :: y27 :: y28 :: y29 :: y30 :: y31 :: y32 :: y33 :: y34 :: y35 :: y36 :: y37 :: y38 :: y39 :: y40 :: y41 :: y42 :: y43 :: y44 :: y45 :: y46 :: y47 :: y48 :: y49 :: y50 :: y51 :: y52 :: y53 :: y54 :: y55 :: y56 :: y57 :: y58 :: y59 :: y60 :: y61 :: y62 :: y63 :: y64 :: y65 :: y66 :: y67 :: y68 :: y69 :: y70 :: y71 :: y72 :: y73 :: y74 :: y75 :: y76 :: y77 :: y78 :: y79 :: y80 :: y81 :: y82 :: y83 :: y84 :: y85 :: y86 :: y87 :: y88 :: y89 :: y90 :: y91 :: y92 :: y93 :: y94 :: y95 :: y96 :: y97 :: y98 :: y99 :: y100 :: y101 :: y102 :: y103 :: y104 :: y105 :: y106 :: y107 :: y108 :: y109 :: y110 :: y111 :: y112 :: y113 :: y114 :: y115 :: y116 :: y117 :: y118 :: y119 :: y120 :: y121 :: y122 :: y123 :: y124 :: y125 :: y126 :: y127 :: y128 :: y129 :: y130 :: y131 :: y132 :: y133 :: y134 :: y135 :: y136 :: y137 :: y138 :: y139 :: y140 :: y141 :: y142 :: y143 :: y144 :: y145 :: y146 :: y147 :: y148 :: y149 :: y150 :: y151 :: y152 :: y153 :: y154 :: y155 :: y156 :: y157 :: y158 :: y159 :: y160 :: y161 :: y162 :: y163 :: y164 :: y165 :: y166 :: y167 :: [])), []⟩ [.code (loopIn (dropSeq 1 (fstSeq (dropSeq 7 (Tryz.f5.body.getD .skip))))), .inLoop (loopIn (dropSeq 1 (fstSeq (dropSeq 7 (Tryz.f5.body.getD .skip))))), .inBlock 0, .code (dropSeq 8 (Tryz.f5.body.getD .skip))]) []) w0) :
    At0 Tryz.prog Post (Old wI) (ShL l) N3 (G ((base 5).at ⟨(List.toArray ((va) :: (vc) :: (.pointer (some ⟨nL, 0, none⟩)) :: (.pointer (some ⟨nC, 0, none⟩)) :: (.bool false) :: y5 :: y6 :: y7 :: (.pointer (some ⟨nO, 0, none⟩)) :: (.int .i64 tv) :: (.int .i64 pv) :: (.int .i64 kn) :: (.pointer (some ⟨nU, 0, none⟩)) :: y13 :: y14 :: y15 :: y16 :: y17 :: y18 :: y19 :: y20 :: y21 :: y22 :: y23 :: y24 :: y25 :: y26 :: y27 :: y28 :: y29 :: y30 :: y31 :: y32 :: y33 :: y34 :: y35 :: y36 :: y37 :: y38 :: y39 :: y40 :: y41 :: y42 :: y43 :: y44 :: y45 :: y46 :: y47 :: y48 :: y49 :: y50 :: y51 :: y52 :: y53 :: y54 :: y55 :: y56 :: y57 :: y58 :: y59 :: y60 :: y61 :: y62 :: y63 :: y64 :: y65 :: y66 :: y67 :: y68 :: y69 :: y70 :: y71 :: y72 :: y73 :: y74 :: y75 :: y76 :: y77 :: y78 :: y79 :: y80 :: y81 :: y82 :: y83 :: y84 :: y85 :: y86 :: y87 :: y88 :: y89 :: y90 :: y91 :: y92 :: y93 :: y94 :: y95 :: y96 :: y97 :: y98 :: y99 :: y100 :: y101 :: y102 :: y103 :: y104 :: y105 :: y106 :: y107 :: y108 :: y109 :: y110 :: y111 :: y112 :: y113 :: y114 :: y115 :: y116 :: y117 :: y118 :: y119 :: y120 :: y121 :: y122 :: y123 :: y124 :: y125 :: y126 :: y127 :: y128 :: y129 :: y130 :: y131 :: y132 :: y133 :: y134 :: y135 :: y136 :: y137 :: y138 :: y139 :: y140 :: y141 :: y142 :: y143 :: y144 :: y145 :: y146 :: y147 :: y148 :: y149 :: y150 :: y151 :: y152 :: y153 :: y154 :: y155 :: y156 :: y157 :: y158 :: y159 :: y160 :: y161 :: y162 :: y163 :: y164 :: y165 :: y166 :: y167 :: [])), []⟩ [.code (dropSeq 2 (blkIn (fstSeq (dropSeq 1 (loopIn (dropSeq 1 (fstSeq (dropSeq 7 (Tryz.f5.body.getD .skip))))))))), .inBlock 1, .code (dropSeq 2 (loopIn (dropSeq 1 (fstSeq (dropSeq 7 (Tryz.f5.body.getD .skip)))))), .inLoop (loopIn (dropSeq 1 (fstSeq (dropSeq 7 (Tryz.f5.body.getD .skip))))), .inBlock 0, .code (dropSeq 8 (Tryz.f5.body.getD .skip))]) []) w0 := by
  have F := fut0 (P := Tryz.prog) (Post := Post) (wI := wI) (l := l) N3
  obtain ⟨hl1, hl3, hl4, hc0, hc1, ho0, ho1, ho2, ho3, tat, bt, ch, hsz, hlB⟩ := id H
  have hok : ∀ (b o : Nat), o ≠ 5 → o ≠ 6 → OkS wI.heap.size l [] ⟨b, o, none⟩ false := fun b o h5 h6 => ok_rd h5 h6
  have k1 := hok nL 1 (by decide) (by decide)
  have k3 := hok nL 3 (by decide) (by decide)
  have k4 := hok nL 4 (by decide) (by decide)
  have k5 := hok nC 0 (by decide) (by decide)
  have k6 := hok nC 1 (by decide) (by decide)
  have k7 := hok nO 0 (by decide) (by decide)
  have k8 := hok nO 1 (by decide) (by decide)
  have k9 := hok nO 2 (by decide) (by decide)
  have k10 := hok nO 3 (by decide) (by decide)
  have hfr : ∀ (b : Addr) (wr : Bool), w0.heap.size ≤ b.block → OkS wI.heap.size l [] b wr := fun b wr h => ok_fr (N := w0.heap.size) (fun B hB => (hlB B hB).2) hsz h (by simp) wr
  have k11 := hok nU 0 (by decide) (by decide)
  have hka1 : (kn + 1 == a) = false := by simp; omega
  clear ch tat bt ho0 ho1 ho2 ho3 k7 k8 k9 k10
  have hmul : ∀ p : Int, 0 ≤ p → p ≤ 10000 → IntKind.i64.wrap (p * cc) = p * cc := fun p h1 h2 => IntWalk.i64_in _ (by
    have h3 : 0 ≤ p * cc := Int.mul_nonneg h1 hcc.1
    have h4 : p * cc ≤ p * 9 := Int.mul_le_mul_of_nonneg_left hcc.2 h1
    omega)
  unfold blkIn fstSeq dropSeq loopIn
  by_cases hpd : d < pv
  · have hw1 : IntKind.i64.wrap (tv + d) = tv + d := IntWalk.i64_in _ (by omega)
    have hw2 := hmul d hd.1 hd.2
    refine F.sq ?_
    refine F.sr ?_
    simp only [rg, Nat.reduceAdd]
    refine F.oq rfl rfl rfl (by simp [go_sem]) fun d K h => ?_; go_simp; refine h _ ?_; clear h K d; try walk_nrm
    refine F.ol rfl rfl rfl fun d K h => ?_; go_simp; refine h _ (fun e m => ?_) ?_; simp [go_sem, *] at m; subst m; exact evr (w := w0) (by assumption) (by first | assumption | (apply hfr <;> dsimp only <;> omega) | (apply hok; simp)); clear h K d; try walk_nrm
    refine F.oq rfl rfl rfl (by simp [go_sem]) fun d K h => ?_; go_simp; refine h _ ?_; clear h K d; try walk_nrm
    refine F.re ?_
    refine F.cf rfl ?_
    refine F.sk ?_
    refine F.sq ?_
    refine F.sr ?_
    simp only [rg, Nat.reduceAdd]
    iterate 3 (refine F.oq rfl rfl rfl (by simp [go_sem]) fun d K h => ?_; go_simp; refine h _ ?_; clear h K d; try walk_nrm)
    refine F.ol rfl rfl rfl fun d K h => ?_; go_simp; refine h _ (fun e m => ?_) ?_; simp [go_sem, *] at m; subst m; exact evr (w := w0) (by assumption) (by first | assumption | (apply hfr <;> dsimp only <;> omega) | (apply hok; simp)); clear h K d; try walk_nrm
    refine F.oq rfl rfl rfl (by simp [go_sem]) fun d K h => ?_; go_simp; refine h _ ?_; clear h K d; try walk_nrm
    refine F.re ?_
    refine F.cf rfl ?_
    refine F.sk ?_
    refine F.sq ?_
    refine F.sr ?_
    simp only [rg, Nat.reduceAdd]
    iterate 2 (refine F.oq rfl rfl rfl (by simp [go_sem]) fun d K h => ?_; go_simp; refine h _ ?_; clear h K d; try walk_nrm)
    refine F.ol rfl rfl rfl fun d K h => ?_; go_simp; refine h _ (fun e m => ?_) ?_; simp [go_sem, *] at m; subst m; exact evr (w := w0) (by assumption) (by first | assumption | (apply hfr <;> dsimp only <;> omega) | (apply hok; simp)); clear h K d; try walk_nrm
    refine F.oq rfl rfl rfl (by simp [go_sem]) fun d K h => ?_; go_simp; refine h _ ?_; clear h K d; try walk_nrm
    refine F.re ?_
    refine F.ct rfl ?_
    refine F.rr ?_
    simp only [rg, Nat.reduceAdd]
    refine F.oq rfl rfl rfl (by simp [go_sem]) fun d K h => ?_; go_simp; refine h _ ?_; clear h K d; try walk_nrm
    refine F.ol rfl rfl rfl fun d K h => ?_; go_simp; refine h _ (fun e m => ?_) ?_; simp [go_sem, *] at m; subst m; exact evr (w := w0) (by assumption) (by first | assumption | (apply hfr <;> dsimp only <;> omega) | (apply hok; simp)); clear h K d; try walk_nrm
    refine F.oq rfl rfl rfl (by simp [go_sem]) fun d K h => ?_; go_simp; refine h _ ?_; clear h K d; try walk_nrm
    refine F.esr ?_
    simp only [rg, Nat.reduceAdd]
    iterate 4 (refine F.oq rfl rfl rfl (by simp [go_sem]) fun d K h => ?_; go_simp; refine h _ ?_; clear h K d; try walk_nrm)
    refine F.er ?_
    simp only [rg, Nat.reduceAdd]
    iterate 2 (refine F.oq rfl rfl rfl (by simp [go_sem]) fun d K h => ?_; go_simp; refine h _ ?_; clear h K d; try walk_nrm)
    refine F.ol rfl rfl rfl fun d K h => ?_; go_simp; refine h _ (fun e m => ?_) ?_; simp [go_sem, *] at m; subst m; exact evr (w := w0) (by assumption) (by first | assumption | (apply hfr <;> dsimp only <;> omega) | (apply hok; simp)); clear h K d; try walk_nrm
    iterate 2 (refine F.oq rfl rfl rfl (by simp [go_sem]) fun d K h => ?_; go_simp; refine h _ ?_; clear h K d; try walk_nrm)
    refine F.re ?_
    refine F.ib ?_
    unfold dropSeq
    refine F.rr ?_
    simp only [rg, Nat.reduceAdd]
    iterate 3 (refine F.oq rfl rfl rfl (by simp [go_sem]) fun d K h => ?_; go_simp; refine h _ ?_; clear h K d; try walk_nrm)
    refine F.re ?_
    refine F.ctl (fun _ => stepG_inLoop) ?_
    exact hnext d (by omega)
  · have hw1 : IntKind.i64.wrap (tv + pv) = tv + pv := IntWalk.i64_in _ (by omega)
    have hw2 := hmul pv hp.1 (by omega)
    refine F.sq ?_
    refine F.sr ?_
    simp only [rg, Nat.reduceAdd]
    refine F.oq rfl rfl rfl (by simp [go_sem]) fun d K h => ?_; go_simp; refine h _ ?_; clear h K d; try walk_nrm
    refine F.ol rfl rfl rfl fun d K h => ?_; go_simp; refine h _ (fun e m => ?_) ?_; simp [go_sem, *] at m; subst m; exact evr (w := w0) (by assumption) (by first | assumption | (apply hfr <;> dsimp only <;> omega) | (apply hok; simp)); clear h K d; try walk_nrm
    refine F.oq rfl rfl rfl (by simp [go_sem]) fun d K h => ?_; go_simp; refine h _ ?_; clear h K d; try walk_nrm
    refine F.re ?_
    refine F.cf rfl ?_
    refine F.sk ?_
    refine F.sq ?_
    refine F.sr ?_
    simp only [rg, Nat.reduceAdd]
    iterate 3 (refine F.oq rfl rfl rfl (by simp [go_sem]) fun d K h => ?_; go_simp; refine h _ ?_; clear h K d; try walk_nrm)
    refine F.ol rfl rfl rfl fun d K h => ?_; go_simp; refine h _ (fun e m => ?_) ?_; simp [go_sem, *] at m; subst m; exact evr (w := w0) (by assumption) (by first | assumption | (apply hfr <;> dsimp only <;> omega) | (apply hok; simp)); clear h K d; try walk_nrm
    refine F.oq rfl rfl rfl (by simp [go_sem]) fun d K h => ?_; go_simp; refine h _ ?_; clear h K d; try walk_nrm
    refine F.re ?_
    refine F.cf rfl ?_
    refine F.sk ?_
    refine F.sq ?_
    refine F.sr ?_
    simp only [rg, Nat.reduceAdd]
    iterate 2 (refine F.oq rfl rfl rfl (by simp [go_sem]) fun d K h => ?_; go_simp; refine h _ ?_; clear h K d; try walk_nrm)
    refine F.ol rfl rfl rfl fun d K h => ?_; go_simp; refine h _ (fun e m => ?_) ?_; simp [go_sem, *] at m; subst m; exact evr (w := w0) (by assumption) (by first | assumption | (apply hfr <;> dsimp only <;> omega) | (apply hok; simp)); clear h K d; try walk_nrm
    refine F.oq rfl rfl rfl (by simp [go_sem]) fun d K h => ?_; go_simp; refine h _ ?_; clear h K d; try walk_nrm
    refine F.re ?_
    refine F.cf rfl ?_
    refine F.sk ?_
    refine F.sr ?_
    simp only [rg, Nat.reduceAdd]
    iterate 4 (refine F.oq rfl rfl rfl (by simp [go_sem]) fun d K h => ?_; go_simp; refine h _ ?_; clear h K d; try walk_nrm)
    refine F.er ?_
    simp only [rg, Nat.reduceAdd]
    iterate 2 (refine F.oq rfl rfl rfl (by simp [go_sem]) fun d K h => ?_; go_simp; refine h _ ?_; clear h K d; try walk_nrm)
    refine F.ol rfl rfl rfl fun d K h => ?_; go_simp; refine h _ (fun e m => ?_) ?_; simp [go_sem, *] at m; subst m; exact evr (w := w0) (by assumption) (by first | assumption | (apply hfr <;> dsimp only <;> omega) | (apply hok; simp)); clear h K d; try walk_nrm
    iterate 2 (refine F.oq rfl rfl rfl (by simp [go_sem]) fun d K h => ?_; go_simp; refine h _ ?_; clear h K d; try walk_nrm)
    refine F.re ?_
    refine F.ib ?_
    unfold dropSeq
    refine F.rr ?_
    simp only [rg, Nat.reduceAdd]
    iterate 3 (refine F.oq rfl rfl rfl (by simp [go_sem]) fun d K h => ?_; go_simp; refine h _ ?_; clear h K d; try walk_nrm)
    refine F.re ?_
    refine F.ctl (fun _ => stepG_inLoop) ?_
    exact hnext pv (by omega)

set_option maxRecDepth 100000 in
set_option maxHeartbeats 8000000 in
theorem law_loop (N3 : Nat) (va vc : Value) (A k0 : Nat) (pz tm : Nat → Int) (hA : A ≤ 9) (ha : a ≤ A ∧ (A : Int) ≤ a) (hT : GoodT T nt) (hcc : 1 ≤ cc ∧ cc ≤ 9) (hd : 0 ≤ d ∧ d ≤ 10000) (hpn : ∀ k, pz (k + 1) = min (pz k * cc) d) (hpz : ∀ k, 0 ≤ pz k ∧ pz k ≤ d) (htm : ∀ k : Nat, 0 ≤ tm k ∧ tm k ≤ 1000 + 11000 * k) (htn : ∀ k, tm (k + 1) = tm k + turnK T nt k 2 + pz k)
    (hk0 : k0 < A) (hk1 : ∀ i, i < k0 → turnK T nt i 0 = 2) (hk2 : turnK T nt k0 0 ≠ 2 ∨ k0 + 1 = A) (hpost : ∀ w', Old wI w' → Post (.bool true) w') (hkd : turnK T nt k0 0 = kd) (hnn : turnK T nt k0 1 = nn) :
    ∀ (left k : Nat) {y5 y6 y7 y12 y13 y14 y15 y16 y17 y18 y19 y20 y21 y22 y23 y24 y25 y26 y27 y28 y29 y30 y31 y32 y33 y34 y35 y36 y37 y38 y39 y40 y41 y42 y43 y44 y45 y46 y47 y48 y49 y50 y51 y52 y53 y54 y55 y56 y57 y58 y59 y60 y61 y62 y63 y64 y65 y66 y67 y68 y69 y70 y71 y72 y73 y74 y75 y76 y77 y78 y79 y80 y81 y82 y83 y84 y85 y86 y87 y88 y89 y90 y91 y92 y93 y94 y95 y96 y97 y98 y99 y100 y101 y102 y103 y104 y105 y106 y107 y108 y109 y110 y111 y112 y113 y114 y115 y116 y117 y118 y119 y120 y121 y122 y123 y124 y125 y126 y127 y128 y129 y130 y131 y132 y133 y134 y135 y136 y137 y138 y139 y140 y141 y142 y143 y144 y145 y146 y147 y148 y149 y150 y151 y152 y153 y154 y155 y156 y157 y158 y159 y160 y161 y162 y163 y164 y165 y166 y167 : Value} (tv pv : Int) (w0 : World), k + left = k0 → tm k = tv → min pv d = pz k → (0 ≤ pv ∧ pv ≤ 90000) → Law wI w0 l nL nC nO ta nt cap T a cc d st (tm k0 + turnK T nt k0 2) (kdO kd) (nnO kd nn) x q cp kd nn → At0 Tryz.prog Post (Old wI) (ShL l) N3 (G ((base 5).at ⟨(List.toArray ((va) :: (vc) :: (.pointer (some ⟨nL, 0, none⟩)) :: (.pointer (some ⟨nC, 0, none⟩)) :: (.bool false) :: y5 :: y6 :: y7 :: (.pointer (some ⟨nO, 0, none⟩)) :: (.int .i64 (tv)) :: (.int .i64 (pv)) :: (.int .i64 ((k : Int))) :: y12 :: y13 :: y14 :: y15 :: y16 :: y17 :: y18 :: y19 :: y20 :: y21 :: y22 :: y23 :: y24 :: y25 :: y26 :: y27 :: y28 :: y29 :: y30 :: y31 :: y32 :: y33 :: y34 :: y35 :: y36 :: y37 :: y38 :: y39 :: y40 :: y41 :: y42 :: y43 :: y44 :: y45 :: y46 :: y47 :: y48 :: y49 :: y50 :: y51 :: y52 :: y53 :: y54 :: y55 :: y56 :: y57 :: y58 :: y59 :: y60 :: y61 :: y62 :: y63 :: y64 :: y65 :: y66 :: y67 :: y68 :: y69 :: y70 :: y71 :: y72 :: y73 :: y74 :: y75 :: y76 :: y77 :: y78 :: y79 :: y80 :: y81 :: y82 :: y83 :: y84 :: y85 :: y86 :: y87 :: y88 :: y89 :: y90 :: y91 :: y92 :: y93 :: y94 :: y95 :: y96 :: y97 :: y98 :: y99 :: y100 :: y101 :: y102 :: y103 :: y104 :: y105 :: y106 :: y107 :: y108 :: y109 :: y110 :: y111 :: y112 :: y113 :: y114 :: y115 :: y116 :: y117 :: y118 :: y119 :: y120 :: y121 :: y122 :: y123 :: y124 :: y125 :: y126 :: y127 :: y128 :: y129 :: y130 :: y131 :: y132 :: y133 :: y134 :: y135 :: y136 :: y137 :: y138 :: y139 :: y140 :: y141 :: y142 :: y143 :: y144 :: y145 :: y146 :: y147 :: y148 :: y149 :: y150 :: y151 :: y152 :: y153 :: y154 :: y155 :: y156 :: y157 :: y158 :: y159 :: y160 :: y161 :: y162 :: y163 :: y164 :: y165 :: y166 :: y167 :: [])), []⟩ [.code (loopIn (dropSeq 1 (fstSeq (dropSeq 7 (Tryz.f5.body.getD .skip))))), .inLoop (loopIn (dropSeq 1 (fstSeq (dropSeq 7 (Tryz.f5.body.getD .skip))))), .inBlock 0, .code (dropSeq 8 (Tryz.f5.body.getD .skip))]) []) w0 := by
  intro left
  induction left using Nat.strongRecOn with
  | _ left ih =>
  intro k y5 y6 y7 y12 y13 y14 y15 y16 y17 y18 y19 y20 y21 y22 y23 y24 y25 y26 y27 y28 y29 y30 y31 y32 y33 y34 y35 y36 y37 y38 y39 y40 y41 y42 y43 y44 y45 y46 y47 y48 y49 y50 y51 y52 y53 y54 y55 y56 y57 y58 y59 y60 y61 y62 y63 y64 y65 y66 y67 y68 y69 y70 y71 y72 y73 y74 y75 y76 y77 y78 y79 y80 y81 y82 y83 y84 y85 y86 y87 y88 y89 y90 y91 y92 y93 y94 y95 y96 y97 y98 y99 y100 y101 y102 y103 y104 y105 y106 y107 y108 y109 y110 y111 y112 y113 y114 y115 y116 y117 y118 y119 y120 y121 y122 y123 y124 y125 y126 y127 y128 y129 y130 y131 y132 y133 y134 y135 y136 y137 y138 y139 y140 y141 y142 y143 y144 y145 y146 y147 y148 y149 y150 y151 y152 y153 y154 y155 y156 y157 y158 y159 y160 y161 y162 y163 y164 y165 y166 y167 tv pv w0 hkl htv hpv hp0 H
  have F := fut0 (P := Tryz.prog) (Post := Post) (wI := wI) (l := l) N3
  obtain ⟨hl1, hl3, hl4, hc0, hc1, ho0, ho1, ho2, ho3, tat, bt, ch, hsz, hlB⟩ := id H
  have hok : ∀ (b o : Nat), o ≠ 5 → o ≠ 6 → OkS wI.heap.size l [] ⟨b, o, none⟩ false := fun b o h5 h6 => ok_rd h5 h6
  have k1 := hok nL 1 (by decide) (by decide)
  have k3 := hok nL 3 (by decide) (by decide)
  have k4 := hok nL 4 (by decide) (by decide)
  have k5 := hok nC 0 (by decide) (by decide)
  have k6 := hok nC 1 (by decide) (by decide)
  have k7 := hok nO 0 (by decide) (by decide)
  have k8 := hok nO 1 (by decide) (by decide)
  have k9 := hok nO 2 (by decide) (by decide)
  have k10 := hok nO 3 (by decide) (by decide)
  have hfr : ∀ (b : Addr) (wr : Bool), w0.heap.size ≤ b.block → OkS wI.heap.size l [] b wr := fun b wr h => ok_fr (N := w0.heap.size) (fun B hB => (hlB B hB).2) hsz h (by simp) wr
  have hkA : (k : Int) < a := by omega
  have gt := hT k
  have htk := htm k
  have hw1 : IntKind.i64.wrap (tv + turnK T nt k 2) = tv + turnK T nt k 2 := IntWalk.i64_in _ (by omega)
  have hrd : 0 < nt → ∀ p : Addr, ta = some p → ∀ b : Addr, b.block = p.block → OkS wI.heap.size l [] b false := fun h0 p hp b hb => ok_old (fun B hB => (hlB B hB).1) (by have := bt h0 p hp; omega)
  unfold loopIn fstSeq dropSeq
  refine F.sq ?_
  refine F.sr ?_
  simp only [rg, Nat.reduceAdd]
  iterate 2 (refine F.oq rfl rfl rfl (by simp [go_sem]) fun d K h => ?_; go_simp; refine h _ ?_; clear h K d; try walk_nrm)
  refine F.ol rfl rfl rfl fun d K h => ?_; go_simp; refine h _ (fun e m => ?_) ?_; simp [go_sem, *] at m; subst m; exact evr (w := w0) (by assumption) (by first | assumption | (apply hfr <;> dsimp only <;> omega) | (apply hok; simp)); clear h K d; try walk_nrm
  refine F.oq rfl rfl rfl (by simp [go_sem]) fun d K h => ?_; go_simp; refine h _ ?_; clear h K d; try walk_nrm
  refine F.re ?_
  refine F.ct rfl ?_
  refine F.sk ?_
  refine F.sq ?_
  refine F.bl ?_
  refine F.sr ?_
  simp only [rg, Nat.reduceAdd]
  refine F.ol rfl rfl rfl fun d K hK => ?_
  go_simp
  refine hK _ (fun e hm => ?_) ?_
  · simp [go_sem, *] at hm
    rcases hm with rfl | rfl <;> exact evr (w := w0) (by assumption) (by first | assumption | (apply hfr <;> dsimp only <;> omega) | (apply hok; simp))
  clear hK K d
  try walk_nrm
  refine F.oq rfl rfl rfl (by simp [go_sem]) fun d K h => ?_; go_simp; refine h _ ?_; clear h K d; try walk_nrm
  refine F.enter rfl rfl (by decide) (fun _ => run_call_body rfl Tryz.func20 (by rfl) (by rfl)) (fun _ => events_call_body rfl Tryz.func20 (by rfl) (by rfl) _) ?_
  walk_nrm
  refine turnK_x st ta nt cap k T w0 tat hrd hfr _ F _ _ (fun v w1 hp => ?_)
  obtain ⟨rfl, kq⟩ := hp
  have zq := kq.size
  have H1 := H.kp kq
  clear hl1 hl3 hl4 hc0 hc1 ho0 ho1 ho2 ho3 tat ch
  have kp : Kp [] w1 w1 := Kp.refl _
  replace hfr : ∀ (b : Addr) (wr : Bool), w1.heap.size ≤ b.block → OkS wI.heap.size l [] b wr := fun b wr h => hfr b wr (by omega)
  rw [Frame.finish_at]
  try walk_nrm
  refine F.op rfl rfl (by decide) (fun d K hK => ?_)
  go_simp
  rw [alloc_at']
  refine hK _ _ ⟨DX.alloc _ _ (fun e he => ?_), ?_⟩
  · have hm := mem_listed he
    simp [go_sem] at hm
  clear hK K d
  try walk_nrm
  generalize ew2 : World.alloc w1 _ = w2
  generalize hn2 : (World.heap w1).size = n2
  have sz2 := sz_al2 ew2 hn2
  have hu0 := cl_new (i := 0) ew2 hn2 rfl
  have zu0 := fz_new ew2 hn2 0
  have hu1 := cl_new (i := 1) ew2 hn2 rfl
  have zu1 := fz_new ew2 hn2 1
  have hu2 := cl_new (i := 2) ew2 hn2 rfl
  have zu2 := fz_new ew2 hn2 2
  try simp only [List.getElem_toArray, List.getElem_cons_zero, List.getElem_cons_succ] at hu0 hu1 hu2
  replace kp := kp.alN ew2
  refine F.op rfl rfl (by decide) (fun d K hK => ?_)
  go_simp
  repeat rw [setCell_at']
  refine hK _ _ ⟨DX.set3 _ (by (first | assumption | (apply hfr <;> dsimp only <;> omega) | (apply hok; simp))) (by (first | assumption | (apply hfr <;> dsimp only <;> omega) | (apply hok; simp))) (by (first | assumption | (apply hfr <;> dsimp only <;> omega) | (apply hok; simp))) (fun e he => ?_), ?_⟩
  · have hm := mem_listed he
    simp [go_sem, storedEv, evst_slice, evst_ptr, evst_iface, evst_nil, evst_bool, *] at hm
    rcases hm with rfl | rfl | rfl <;> exact .inl ⟨_, rfl, rfl, by (first | assumption | (apply hfr <;> dsimp only <;> omega) | (apply hok; simp)), by simp only [size_at, size_set]; first | omega | exact lt_of_cell (by assumption)⟩
  clear hK K d
  try walk_nrm
  generalize ew3 : World.setCell w2 _ _ = w3
  have sz3 := sz_st2 ew3
  replace zu0 := fz_st zu0 ew3
  replace zu1 := fz_st zu1 ew3
  replace zu2 := fz_st zu2 ew3
  replace hu0 := cl_st' hu0 ew3
  replace hu1 := cl_st hu1 ew3 (by intro e; simp at e <;> omega)
  replace hu2 := cl_st hu2 ew3 (by intro e; simp at e <;> omega)
  replace kp := kp.stN ew3 (by first | (left; simp; done) | (right; left; simp; done) | (right; right; dsimp only; omega))
  generalize ew4 : World.setCell w3 _ _ = w4
  have sz4 := sz_st2 ew4
  replace zu0 := fz_st zu0 ew4
  replace zu1 := fz_st zu1 ew4
  replace zu2 := fz_st zu2 ew4
  replace hu0 := cl_st hu0 ew4 (by intro e; simp at e <;> omega)
  replace hu1 := cl_st' hu1 ew4
  replace hu2 := cl_st hu2 ew4 (by intro e; simp at e <;> omega)
  replace kp := kp.stN ew4 (by first | (left; simp; done) | (right; left; simp; done) | (right; right; dsimp only; omega))
  generalize ew5 : World.setCell w4 _ _ = w5
  have sz5 := sz_st2 ew5
  replace zu0 := fz_st zu0 ew5
  replace zu1 := fz_st zu1 ew5
  replace zu2 := fz_st zu2 ew5
  replace hu0 := cl_st hu0 ew5 (by intro e; simp at e <;> omega)
  replace hu1 := cl_st hu1 ew5 (by intro e; simp at e <;> omega)
  replace hu2 := cl_st' hu2 ew5
  replace kp := kp.stN ew5 (by first | (left; simp; done) | (right; left; simp; done) | (right; right; dsimp only; omega))
  refine F.esr ?_
  simp only [rg, Nat.reduceAdd]
  iterate 2 (refine F.oq rfl rfl rfl (by simp [go_sem]) fun d K h => ?_; go_simp; refine h _ ?_; clear h K d; try walk_nrm)
  refine F.ol rfl rfl rfl fun d K h => ?_; go_simp; refine h _ (fun e m => ?_) ?_; simp [go_sem, *] at m; subst m; exact evr (w := w5) (by assumption) (by first | assumption | (apply hfr <;> dsimp only <;> omega) | (apply hok; simp)); clear h K d; try walk_nrm
  iterate 2 (refine F.oq rfl rfl rfl (by simp [go_sem]) fun d K h => ?_; go_simp; refine h _ ?_; clear h K d; try walk_nrm)
  refine F.re ?_
  have H5 := H1.kp kp
  by_cases hkk : k = k0
  · subst hkk
    rw [hkd] at hu0
    rw [hnn] at hu1
    rw [htv] at H5
    rcases gt.1 with h | h | h | h <;> (rw [hkd] at h; subst h)
    · exact law_v N3 n2 va vc _ _ _ _ w5 H5 hpost hu0 hu1 hu2
    · exact law_g N3 n2 va vc _ _ _ 0 w5 H5 hpost (by have := hk2.resolve_left (fun z => z hkd); omega) (IntWalk.i64_in _ (by omega)) hu0 hu1
    · exact law_f N3 n2 va vc _ _ _ _ w5 H5 hpost hu0 hu1 hu2
    · exact law_p N3 n2 va vc _ _ _ _ w5 H5 hpost hu0 hu1 hu2
  · have hk' : k < k0 := by omega
    rw [hk1 k hk'] at hu0
    refine law_next N3 n2 va vc _ _ _ 0 w5 H5 (by omega) (IntWalk.i64_in _ (by omega)) hp0 hd ⟨by omega, hcc.2⟩ (by omega) hu0 fun pc hpc => ?_
    intros
    have hpc' : pc = pz k := by rw [hpc, hpv]
    have h1 := hpz k
    have h2 : 0 ≤ pc * cc := Int.mul_nonneg (by omega) (by omega)
    have h3 : pc * cc ≤ pc * 9 := Int.mul_le_mul_of_nonneg_left hcc.2 (by omega)
    have e1 : ((k : Int) + 1) = ((k + 1 : Nat) : Int) := by push_cast; rfl
    rw [e1]
    exact ih (left - 1) (by omega) (k + 1) (tv + turnK T nt k 2 + pc) (pc * cc) w5 (by omega) (by rw [htn k, htv, hpc']) (by rw [hpn k, hpc']) ⟨h2, by omega⟩ H5
end

end Go.Proofs.YtobagnjnbmgidaaGreatDoor

/-! The law of a Retry alone: from its entry to the end of the run. -/
namespace Go.Proofs.YtobagnjnbmgidaaGreatDoor
open Go.Conc Go.RowKit Go.Extern
open Go.ConcN (sumTo upd sumTo_upd upd_ne upd_same)

theorem goodT_in {T : Nat → Nat → Int} : ∀ (m k : Nat), goodT T m k = true → ∀ i, k ≤ i → i < k + m → btw 1 (T i 0) 4 = true ∧ btw 0 (T i 2) 1000 = true
  | 0, k, _, i, h1, h2 => by omega
  | m + 1, k, h, i, h1, h2 => by
    simp only [goodT, Bool.and_eq_true] at h
    by_cases e : i = k
    · subst e; exact h.1
    · exact goodT_in m (k + 1) h.2 i (by omega) (by omega)
/-- What Check's yes says. -/
theorem good_of {a bb cc d ee st : Int} {ta : Option Addr} {nt cap : Nat} {T : Nat → Nat → Int} (h : chk 1 (LP a bb cc d ee) 1 (fun _ => ⟨st, ta, nt, cap, T⟩) = (0, 0)) : GoodL a.toNat a bb cc d ∧ GoodT T nt ∧ (0 ≤ st ∧ st ≤ 1000) := by
  have hL : goodL 1 a bb cc d ee = true := by
    cases hg : goodL 1 a bb cc d ee with
    | true => rfl
    | false => simp [chk, badAt, LP, hg] at h
  have hC : goodC st nt T = true := by
    cases hg : goodC st nt T with
    | true => rfl
    | false => simp [chk, badAt, badC, LP, hL, Cl.good, hg] at h
  simp only [goodL, if_true, btw, Bool.and_eq_true, decide_eq_true_eq] at hL
  simp only [goodC, btw, Bool.and_eq_true, decide_eq_true_eq] at hC
  refine ⟨⟨by omega, by omega, by omega, by omega, by omega⟩, fun k => ?_, hC.1.1⟩
  by_cases hk : k < nt
  · have := goodT_in nt 0 hC.2 k (by omega) (by omega)
    simp only [btw, Bool.and_eq_true, decide_eq_true_eq] at this
    have e0 : ∀ j, turnK T nt k j = T k j := fun j => if_pos hk
    rw [e0, e0]
    omega
  · have e0 : turnK T nt k 0 = 1 := by simp [turnK, hk]
    have e2 : turnK T nt k 2 = 0 := by simp [turnK, hk]
    rw [e0, e2]
    omega
/-- The attempt whose turn decides. -/
theorem last_of (kd : Nat → Int) : ∀ A, 0 < A → ∃ k, k < A ∧ (∀ i, i < k → kd i = 2) ∧ (kd k ≠ 2 ∨ k + 1 = A)
  | 0, h => by omega
  | A + 1, _ => by
    by_cases h : ∀ i, i < A → kd i = 2
    · exact ⟨A, by omega, h, .inr rfl⟩
    · by_cases hA : 0 < A
      · obtain ⟨k, h1, h2, h3⟩ := last_of kd A hA
        refine ⟨k, by omega, h2, .inl fun z => ?_⟩
        rcases h3 with h3 | h3
        · exact h3 z
        · exact h fun i hi => by
            by_cases e : i = k
            · rw [e]; exact z
            · exact h2 i (by omega)
      · exact absurd (fun i hi => by omega) h

section
variable {wI : World} {Post : Value → World → Prop}

set_option maxRecDepth 100000 in
set_option maxHeartbeats 8000000 in
theorem persistent_at (kk a bb cc d ee st : Int) (ta : Option Addr) (nt cap : Nat) (T : Nat → Nat → Int) (i0 : 0 < wI.heap.size) (hg : wI.cell? ⟨0, 0, none⟩ = some (.iface 217 (.agg #[.pointer (some ⟨1, 121, none⟩)]))) (tat : TurnsAt wI ta nt T) (bt : 0 < nt → ∀ p : Addr, ta = some p → p.block < wI.heap.size)
    (hpost : ∀ w', Old wI w' → Post (.bool true) w') :
    At0 Tryz.prog Post (Old wI) (ShL []) 1 (G (Frame.enter Tryz.prog 5 #[.agg #[.int .i64 kk, .int .i64 a, .int .i64 bb, .int .i64 cc, .int .i64 d, .int .i64 ee], .agg #[.int .i64 st, .slice ta nt cap]] .normal) []) wI := by
  have F := fut0 (P := Tryz.prog) (Post := Post) (wI := wI) (l := []) 1
  have hfr : ∀ (b : Addr) (wr : Bool), wI.heap.size ≤ b.block → OkS wI.heap.size [] [] b wr := fun b wr h => ok_fr (N := wI.heap.size) (by simp) (Nat.le_refl _) h (by simp) wr
  obtain ⟨w0, hw0⟩ : ∃ w, w = wI := ⟨wI, rfl⟩
  have kp : Kp [] w0 w0 := Kp.refl _
  have hz0 : wI.heap.size ≤ w0.heap.size ∧ w0.heap.size ≤ wI.heap.size := by rw [hw0]; omega
  have lg := i0
  rw [← hw0] at tat hg
  conv => arg 7; rw [← hw0]
  clear hw0
  rw [enter_at _ Tryz.func5 rfl]
  simp only [Tryz.ntmps5, List.size_toArray, List.length_cons, List.length_nil, Nat.reduceAdd, Nat.reduceSub, Array.replicate_succ, Array.replicate_zero, List.push_toArray, List.append_toArray, List.nil_append, List.cons_append]
  refine F.sr ?_
  simp only [rg, Nat.reduceAdd]
  refine F.op rfl rfl (by decide) (fun d K hK => ?_)
  go_simp
  rw [alloc_at']
  refine hK _ _ ⟨DX.alloc _ _ (fun e he => ?_), ?_⟩
  · have hm := mem_listed he
    simp [go_sem] at hm
  clear hK K d
  try walk_nrm
  generalize ew1 : World.alloc w0 _ = w1
  generalize hn1 : (World.heap w0).size = n1
  have sz1 := sz_al2 ew1 hn1
  replace hg := cl_al hg ew1
  have hl0 := cl_new (i := 0) ew1 hn1 rfl
  have zl0 := fz_new ew1 hn1 0
  have hl1 := cl_new (i := 1) ew1 hn1 rfl
  have zl1 := fz_new ew1 hn1 1
  have hl2 := cl_new (i := 2) ew1 hn1 rfl
  have zl2 := fz_new ew1 hn1 2
  have hl3 := cl_new (i := 3) ew1 hn1 rfl
  have zl3 := fz_new ew1 hn1 3
  have hl4 := cl_new (i := 4) ew1 hn1 rfl
  have zl4 := fz_new ew1 hn1 4
  have hl5 := cl_new (i := 5) ew1 hn1 rfl
  have zl5 := fz_new ew1 hn1 5
  try simp only [List.getElem_toArray, List.getElem_cons_zero, List.getElem_cons_succ] at hl0 hl1 hl2 hl3 hl4 hl5
  replace kp := kp.alN ew1
  refine F.op rfl rfl (by decide) (fun d K hK => ?_)
  go_simp
  rw [alloc_at']
  refine hK _ _ ⟨DX.alloc _ _ (fun e he => ?_), ?_⟩
  · have hm := mem_listed he
    simp [go_sem] at hm
  clear hK K d
  try walk_nrm
  generalize ew2 : World.alloc w1 _ = w2
  generalize hn2 : (World.heap w1).size = n2
  have sz2 := sz_al2 ew2 hn2
  replace zl0 := fz_al zl0 hl0 ew2
  replace zl1 := fz_al zl1 hl1 ew2
  replace zl2 := fz_al zl2 hl2 ew2
  replace zl3 := fz_al zl3 hl3 ew2
  replace zl4 := fz_al zl4 hl4 ew2
  replace zl5 := fz_al zl5 hl5 ew2
  replace hg := cl_al hg ew2
  replace hl0 := cl_al hl0 ew2
  replace hl1 := cl_al hl1 ew2
  replace hl2 := cl_al hl2 ew2
  replace hl3 := cl_al hl3 ew2
  replace hl4 := cl_al hl4 ew2
  replace hl5 := cl_al hl5 ew2
  have hc0 := cl_new (i := 0) ew2 hn2 rfl
  have zc0 := fz_new ew2 hn2 0
  have hc1 := cl_new (i := 1) ew2 hn2 rfl
  have zc1 := fz_new ew2 hn2 1
  try simp only [List.getElem_toArray, List.getElem_cons_zero, List.getElem_cons_succ] at hc0 hc1
  replace kp := kp.alN ew2
  refine F.oq rfl rfl rfl (by simp [go_sem]) fun d K h => ?_; go_simp; refine h _ ?_; clear h K d; try walk_nrm
  refine F.esr ?_
  simp only [rg, Nat.reduceAdd]
  refine F.oq rfl rfl rfl (by simp [go_sem]) fun d K h => ?_; go_simp; refine h _ ?_; clear h K d; try walk_nrm
  refine F.op rfl rfl (by decide) (fun d K hK => ?_)
  go_simp
  rw [setCell_at']
  refine hK _ _ ⟨DX.set _ (by (first | assumption | (apply hfr <;> dsimp only <;> omega))) (fun e he => ?_), ?_⟩
  · have hm := mem_listed he
    simp [go_sem, storedEv, evst_slice, evst_ptr, evst_iface, evst_nil, evst_bool, *] at hm
    subst hm
    exact .inl ⟨_, rfl, rfl, by (first | assumption | (apply hfr <;> dsimp only <;> omega)), by simp only [size_at, size_set]; first | omega | exact lt_of_cell (by assumption)⟩
  clear hK K d
  try walk_nrm
  generalize ew3 : World.setCell w2 _ _ = w3
  have sz3 := sz_st2 ew3
  replace zl0 := fz_st zl0 ew3
  replace zl1 := fz_st zl1 ew3
  replace zl2 := fz_st zl2 ew3
  replace zl3 := fz_st zl3 ew3
  replace zl4 := fz_st zl4 ew3
  replace zl5 := fz_st zl5 ew3
  replace zc0 := fz_st zc0 ew3
  replace zc1 := fz_st zc1 ew3
  replace hg := cl_st hg ew3 (by intro e; simp at e <;> omega)
  replace hl0 := cl_st' hl0 ew3
  replace hl1 := cl_st hl1 ew3 (by intro e; simp at e <;> omega)
  replace hl2 := cl_st hl2 ew3 (by intro e; simp at e <;> omega)
  replace hl3 := cl_st hl3 ew3 (by intro e; simp at e <;> omega)
  replace hl4 := cl_st hl4 ew3 (by intro e; simp at e <;> omega)
  replace hl5 := cl_st hl5 ew3 (by intro e; simp at e <;> omega)
  replace hc0 := cl_st hc0 ew3 (by intro e; simp at e <;> omega)
  replace hc1 := cl_st hc1 ew3 (by intro e; simp at e <;> omega)
  replace kp := kp.stN ew3 (by first | (left; simp; done) | (right; left; simp; done) | (right; right; dsimp only; omega))
  refine F.esr ?_
  simp only [rg, Nat.reduceAdd]
  refine F.ol rfl rfl rfl fun d K hK => ?_
  go_simp
  refine hK _ (fun e hm => ?_) ?_
  · simp [go_sem, *] at hm
    rcases hm with rfl | rfl | rfl | rfl | rfl | rfl <;> exact evr (w := w3) (by assumption) (by first | assumption | (apply hfr <;> dsimp only <;> omega))
  clear hK K d
  try walk_nrm
  refine F.op rfl rfl (by decide) (fun d K hK => ?_)
  go_simp
  rw [alloc_at']
  refine hK _ _ ⟨DX.alloc _ _ (fun e he => ?_), ?_⟩
  · have hm := mem_listed he
    simp [go_sem] at hm
  clear hK K d
  try walk_nrm
  generalize ew4 : World.alloc w3 _ = w4
  generalize hn4 : (World.heap w3).size = n4
  have sz4 := sz_al2 ew4 hn4
  replace zl0 := fz_al zl0 hl0 ew4
  replace zl1 := fz_al zl1 hl1 ew4
  replace zl2 := fz_al zl2 hl2 ew4
  replace zl3 := fz_al zl3 hl3 ew4
  replace zl4 := fz_al zl4 hl4 ew4
  replace zl5 := fz_al zl5 hl5 ew4
  replace zc0 := fz_al zc0 hc0 ew4
  replace zc1 := fz_al zc1 hc1 ew4
  replace hg := cl_al hg ew4
  replace hl0 := cl_al hl0 ew4
  replace hl1 := cl_al hl1 ew4
  replace hl2 := cl_al hl2 ew4
  replace hl3 := cl_al hl3 ew4
  replace hl4 := cl_al hl4 ew4
  replace hl5 := cl_al hl5 ew4
  replace hc0 := cl_al hc0 ew4
  replace hc1 := cl_al hc1 ew4
  have hm0 := cl_new (i := 0) ew4 hn4 rfl
  have zm0 := fz_new ew4 hn4 0
  have hm1 := cl_new (i := 1) ew4 hn4 rfl
  have zm1 := fz_new ew4 hn4 1
  have hm2 := cl_new (i := 2) ew4 hn4 rfl
  have zm2 := fz_new ew4 hn4 2
  have hm3 := cl_new (i := 3) ew4 hn4 rfl
  have zm3 := fz_new ew4 hn4 3
  have hm4 := cl_new (i := 4) ew4 hn4 rfl
  have zm4 := fz_new ew4 hn4 4
  have hm5 := cl_new (i := 5) ew4 hn4 rfl
  have zm5 := fz_new ew4 hn4 5
  try simp only [List.getElem_toArray, List.getElem_cons_zero, List.getElem_cons_succ] at hm0 hm1 hm2 hm3 hm4 hm5
  replace kp := kp.alN ew4
  refine F.ol rfl rfl rfl fun d K hK => ?_
  go_simp
  refine hK _ (fun e hm => ?_) ?_
  · simp [go_sem, *] at hm
    rcases hm with rfl | rfl <;> exact evr (w := w4) (by assumption) (by first | assumption | (apply hfr <;> dsimp only <;> omega))
  clear hK K d
  try walk_nrm
  refine F.op rfl rfl (by decide) (fun d K hK => ?_)
  go_simp
  rw [alloc_at']
  refine hK _ _ ⟨DX.alloc _ _ (fun e he => ?_), ?_⟩
  · have hm := mem_listed he
    simp [go_sem] at hm
  clear hK K d
  try walk_nrm
  generalize ew5 : World.alloc w4 _ = w5
  generalize hn5 : (World.heap w4).size = n5
  have sz5 := sz_al2 ew5 hn5
  replace zl0 := fz_al zl0 hl0 ew5
  replace zl1 := fz_al zl1 hl1 ew5
  replace zl2 := fz_al zl2 hl2 ew5
  replace zl3 := fz_al zl3 hl3 ew5
  replace zl4 := fz_al zl4 hl4 ew5
  replace zl5 := fz_al zl5 hl5 ew5
  replace zc0 := fz_al zc0 hc0 ew5
  replace zc1 := fz_al zc1 hc1 ew5
  replace zm0 := fz_al zm0 hm0 ew5
  replace zm1 := fz_al zm1 hm1 ew5
  replace zm2 := fz_al zm2 hm2 ew5
  replace zm3 := fz_al zm3 hm3 ew5
  replace zm4 := fz_al zm4 hm4 ew5
  replace zm5 := fz_al zm5 hm5 ew5
  replace hg := cl_al hg ew5
  replace hl0 := cl_al hl0 ew5
  replace hl1 := cl_al hl1 ew5
  replace hl2 := cl_al hl2 ew5
  replace hl3 := cl_al hl3 ew5
  replace hl4 := cl_al hl4 ew5
  replace hl5 := cl_al hl5 ew5
  replace hc0 := cl_al hc0 ew5
  replace hc1 := cl_al hc1 ew5
  replace hm0 := cl_al hm0 ew5
  replace hm1 := cl_al hm1 ew5
  replace hm2 := cl_al hm2 ew5
  replace hm3 := cl_al hm3 ew5
  replace hm4 := cl_al hm4 ew5
  replace hm5 := cl_al hm5 ew5
  have hd0 := cl_new (i := 0) ew5 hn5 rfl
  have zd0 := fz_new ew5 hn5 0
  have hd1 := cl_new (i := 1) ew5 hn5 rfl
  have zd1 := fz_new ew5 hn5 1
  try simp only [List.getElem_toArray, List.getElem_cons_zero, List.getElem_cons_succ] at hd0 hd1
  replace kp := kp.alN ew5
  have tat' := tat.kp kp
  have q1 : wI.heap.size ≤ n1 ∧ n1 < n2 ∧ n2 < n4 ∧ n4 < n5 ∧ n5 < w5.heap.size := ⟨by omega, by omega, by omega, by omega, by omega⟩
  have hz5 : wI.heap.size ≤ w5.heap.size := by omega
  have hA : Asks wI w5 n4 n5 ta nt cap T a bb cc d ee st := ⟨by omega, by omega, hg, fun j hj => by match j, hj with | 0, _ => exact hm0 | 1, _ => exact hm1 | 2, _ => exact hm2 | 3, _ => exact hm3 | 4, _ => exact hm4 | 5, _ => exact hm5, hd0, hd1, tat', bt⟩
  clear hn1 hn2 hn4 hn5 sz1 sz2 sz3 sz4 sz5 ew1 ew2 ew3 ew4 ew5 hfr kp hm0 hm1 hm2 hm3 hm4 hm5 hd0 hd1 zm0 zm1 zm2 zm3 zm4 zm5 zd0 zd1
  refine F.enter rfl rfl (by decide) (fun _ => run_call_body rfl Tryz.func19 (by rfl) (by rfl)) (fun _ => events_call_body rfl Tryz.func19 (by rfl) (by rfl) _) ?_
  walk_nrm
  by_cases hck : chk 1 (LP a bb cc d ee) 1 (fun _ => ⟨st, ta, nt, cap, T⟩) = (0, 0)
  · obtain ⟨GL, GT, hst⟩ := good_of hck
    have hA1 := GL.hA
    have ha1 := GL.ha
    obtain ⟨k0, hk0, hk1, hk2⟩ := last_of (fun k => turnK T nt k 0) a.toNat (by omega)
    refine reportG_at n4 n5 ta nt cap T a.toNat a bb cc d ee st k0 w5 _ _ i0 hz5 hA hck GL GT hst hk0 hk1 hk2 (fun l O N x q cp xe m ce w6 e1 e2 e3 e4 hx p0 p1 p2 p3 s6 e5 => ?_)
    clear F
    have F := fut0 (P := Tryz.prog) (Post := Post) (wI := wI) (l := l) 3
    have hlB : ∀ B ∈ l, wI.heap.size ≤ B ∧ B < w6.heap.size := fun B hB => by have := e1 B hB; omega
    have hfr : ∀ (b : Addr) (wr : Bool), w6.heap.size ≤ b.block → OkS wI.heap.size l [] b wr := fun b wr h => ok_fr (N := w6.heap.size) (fun B hB => (hlB B hB).2) (by omega) h (by simp) wr
    have st6 : ∀ b o v, b < w5.heap.size → w5.cell? ⟨b, o, none⟩ = some v → w6.cell? ⟨b, o, none⟩ = some v := fun b o v hb hv => (s6 ⟨b, o, none⟩ v hb (by simp) hv).1
    have tat6 : TurnsAt w6 ta nt T := tat'.stay s6 (fun h0 p hp => by have := bt h0 p hp; omega)
    replace hl1 := st6 _ _ _ (by omega) hl1
    replace hl2 := st6 _ _ _ (by omega) hl2
    replace hl3 := st6 _ _ _ (by omega) hl3
    replace hl4 := st6 _ _ _ (by omega) hl4
    replace hc0 := st6 _ _ _ (by omega) hc0
    replace hc1 := st6 _ _ _ (by omega) hc1
    have k2 : OkS wI.heap.size l [] ⟨n1, 2, none⟩ false := ok_rd (by decide) (by decide)
    have k5 : OkS wI.heap.size l [] ⟨n2, 0, none⟩ false := ok_rd (by decide) (by decide)
    have k7 : OkS wI.heap.size l [] ⟨O, 0, none⟩ false := ok_rd (by decide) (by decide)
    have k8 : OkS wI.heap.size l [] ⟨O, 1, none⟩ false := ok_rd (by decide) (by decide)
    have k9 : OkS wI.heap.size l [] ⟨O, 2, none⟩ false := ok_rd (by decide) (by decide)
    have k10 : OkS wI.heap.size l [] ⟨O, 3, none⟩ false := ok_rd (by decide) (by decide)
    have lO : O < w6.heap.size := lt_of_cell p0
    have kp : Kp [] w6 w6 := Kp.refl _
    generalize htm : tmK st (fun k => turnK T nt k 2) (pzK bb cc d) k0 + turnK T nt k0 2 = tmv at *
    generalize hkdv : kdO (turnK T nt k0 0) = kdv at *
    generalize hnnv : nnO (turnK T nt k0 0) (turnK T nt k0 1) = nnv at *
    clear hl0 hl5 zl0 zl1 zl2 zl3 zl4 zl5 zc0 zc1 hg tat tat' hA s6 st6
    rw [Frame.finish_at]
    try walk_nrm
    iterate 4 (refine F.oq rfl rfl rfl (by simp [go_sem]) fun d K h => ?_; go_simp; refine h _ ?_; clear h K d; try walk_nrm)
    refine F.op rfl rfl (by decide) (fun d K hK => ?_)
    go_simp
    rw [alloc_at']
    refine hK _ _ ⟨DX.alloc _ _ (fun e he => ?_), ?_⟩
    · have hm := mem_listed he
      simp [go_sem] at hm
    clear hK K d
    try walk_nrm
    generalize ew7 : World.alloc w6 _ = w7
    generalize hn7 : (World.heap w6).size = n7
    have sz7 := sz_al2 ew7 hn7
    replace p0 := cl_al p0 ew7
    replace p1 := cl_al p1 ew7
    replace p2 := cl_al p2 ew7
    replace p3 := cl_al p3 ew7
    replace hl1 := cl_al hl1 ew7
    replace hl2 := cl_al hl2 ew7
    replace hl3 := cl_al hl3 ew7
    replace hl4 := cl_al hl4 ew7
    replace hc0 := cl_al hc0 ew7
    replace hc1 := cl_al hc1 ew7
    have hs0 := cl_new (i := 0) ew7 hn7 rfl
    have zs0 := fz_new ew7 hn7 0
    have hs1 := cl_new (i := 1) ew7 hn7 rfl
    have zs1 := fz_new ew7 hn7 1
    try simp only [List.getElem_toArray, List.getElem_cons_zero, List.getElem_cons_succ] at hs0 hs1
    replace kp := kp.alN ew7
    have i1 : O ≠ n7 ∧ n1 ≠ n7 ∧ n2 ≠ n7 := ⟨by omega, by omega, by omega⟩
    have i1a := i1.1
    have i1b := i1.2.1
    have i1c := i1.2.2
    refine F.op rfl rfl (by decide) (fun d K hK => ?_)
    go_simp
    repeat rw [setCell_at']
    refine hK _ _ ⟨DX.set2 _ (by (first | assumption | (apply hfr <;> dsimp only <;> omega))) (by (first | assumption | (apply hfr <;> dsimp only <;> omega))) (fun e he => ?_), ?_⟩
    · have hm := mem_listed he
      simp [go_sem, storedEv, evst_slice, evst_ptr, evst_iface, evst_nil, evst_bool, *] at hm
      rcases hm with rfl | rfl <;> exact .inl ⟨_, rfl, rfl, by (first | assumption | (apply hfr <;> dsimp only <;> omega)), by simp only [size_at, size_set]; first | omega | exact lt_of_cell (by assumption)⟩
    clear hK K d
    try walk_nrm
    generalize ew8 : World.setCell w7 _ _ = w8
    have sz8 := sz_st2 ew8
    replace zs0 := fz_st zs0 ew8
    replace zs1 := fz_st zs1 ew8
    replace p0 := cl_st p0 ew8 (by intro e; simp at e <;> omega)
    replace p1 := cl_st p1 ew8 (by intro e; simp at e <;> omega)
    replace p2 := cl_st p2 ew8 (by intro e; simp at e <;> omega)
    replace p3 := cl_st p3 ew8 (by intro e; simp at e <;> omega)
    replace hl1 := cl_st hl1 ew8 (by intro e; simp at e <;> omega)
    replace hl2 := cl_st hl2 ew8 (by intro e; simp at e <;> omega)
    replace hl3 := cl_st hl3 ew8 (by intro e; simp at e <;> omega)
    replace hl4 := cl_st hl4 ew8 (by intro e; simp at e <;> omega)
    replace hc0 := cl_st hc0 ew8 (by intro e; simp at e <;> omega)
    replace hc1 := cl_st hc1 ew8 (by intro e; simp at e <;> omega)
    replace hs0 := cl_st' hs0 ew8
    replace hs1 := cl_st hs1 ew8 (by intro e; simp at e <;> omega)
    replace kp := kp.stN ew8 (by first | (left; simp; done) | (right; left; simp; done) | (right; right; dsimp only; omega))
    generalize ew9 : World.setCell w8 _ _ = w9
    have sz9 := sz_st2 ew9
    replace zs0 := fz_st zs0 ew9
    replace zs1 := fz_st zs1 ew9
    replace p0 := cl_st p0 ew9 (by intro e; simp at e <;> omega)
    replace p1 := cl_st p1 ew9 (by intro e; simp at e <;> omega)
    replace p2 := cl_st p2 ew9 (by intro e; simp at e <;> omega)
    replace p3 := cl_st p3 ew9 (by intro e; simp at e <;> omega)
    replace hl1 := cl_st hl1 ew9 (by intro e; simp at e <;> omega)
    replace hl2 := cl_st hl2 ew9 (by intro e; simp at e <;> omega)
    replace hl3 := cl_st hl3 ew9 (by intro e; simp at e <;> omega)
    replace hl4 := cl_st hl4 ew9 (by intro e; simp at e <;> omega)
    replace hc0 := cl_st hc0 ew9 (by intro e; simp at e <;> omega)
    replace hc1 := cl_st hc1 ew9 (by intro e; simp at e <;> omega)
    replace hs0 := cl_st hs0 ew9 (by intro e; simp at e <;> omega)
    replace hs1 := cl_st' hs1 ew9
    replace kp := kp.stN ew9 (by first | (left; simp; done) | (right; left; simp; done) | (right; right; dsimp only; omega))
    iterate 2 (refine F.oq rfl rfl rfl (by simp [go_sem]) fun d K h => ?_; go_simp; refine h _ ?_; clear h K d; try walk_nrm)
    refine F.es ?_
    refine F.sr ?_
    simp only [rg, Nat.reduceAdd]
    iterate 6 (refine F.oq rfl rfl rfl (by simp [go_sem]) fun d K h => ?_; go_simp; refine h _ ?_; clear h K d; try walk_nrm)
    refine F.re ?_
    refine F.cf rfl ?_
    refine F.sk ?_
    refine F.sr ?_
    simp only [rg, Nat.reduceAdd]
    refine F.oq rfl rfl rfl (by simp [go_sem]) fun d K h => ?_; go_simp; refine h _ ?_; clear h K d; try walk_nrm
    refine F.ol rfl rfl rfl fun d K h => ?_; go_simp; refine h _ (fun e m => ?_) ?_; simp [go_sem, *] at m; subst m; exact evr (w := w9) (by assumption) (by first | assumption | (apply hfr <;> dsimp only <;> omega)); clear h K d; try walk_nrm
    refine F.oq rfl rfl rfl (by simp [go_sem]) fun d K h => ?_; go_simp; refine h _ ?_; clear h K d; try walk_nrm
    refine F.ol rfl rfl rfl fun d K hK => ?_
    go_simp
    refine hK _ (fun e hm => ?_) ?_
    · simp [go_sem, *] at hm
      rcases hm with rfl | rfl | rfl | rfl <;> exact evr (w := w9) (by assumption) (by first | assumption | (apply hfr <;> dsimp only <;> omega))
    clear hK K d
    try walk_nrm
    refine F.op rfl rfl (by decide) (fun d K hK => ?_)
    go_simp
    rw [alloc_at']
    refine hK _ _ ⟨DX.alloc _ _ (fun e he => ?_), ?_⟩
    · have hm := mem_listed he
      simp [go_sem] at hm
    clear hK K d
    try walk_nrm
    generalize ew10 : World.alloc w9 _ = w10
    generalize hn10 : (World.heap w9).size = n10
    have sz10 := sz_al2 ew10 hn10
    replace zs0 := fz_al zs0 hs0 ew10
    replace zs1 := fz_al zs1 hs1 ew10
    replace p0 := cl_al p0 ew10
    replace p1 := cl_al p1 ew10
    replace p2 := cl_al p2 ew10
    replace p3 := cl_al p3 ew10
    replace hl1 := cl_al hl1 ew10
    replace hl2 := cl_al hl2 ew10
    replace hl3 := cl_al hl3 ew10
    replace hl4 := cl_al hl4 ew10
    replace hc0 := cl_al hc0 ew10
    replace hc1 := cl_al hc1 ew10
    replace hs0 := cl_al hs0 ew10
    replace hs1 := cl_al hs1 ew10
    have ho0 := cl_new (i := 0) ew10 hn10 rfl
    have zo0 := fz_new ew10 hn10 0
    have ho1 := cl_new (i := 1) ew10 hn10 rfl
    have zo1 := fz_new ew10 hn10 1
    have ho2 := cl_new (i := 2) ew10 hn10 rfl
    have zo2 := fz_new ew10 hn10 2
    have ho3 := cl_new (i := 3) ew10 hn10 rfl
    have zo3 := fz_new ew10 hn10 3
    try simp only [List.getElem_toArray, List.getElem_cons_zero, List.getElem_cons_succ] at ho0 ho1 ho2 ho3
    replace kp := kp.alN ew10
    have i2a : O ≠ n10 := by omega
    have i2b : n1 ≠ n10 := by omega
    have i2c : n2 ≠ n10 := by omega
    have i2d : n7 ≠ n10 := by omega
    refine F.op rfl rfl (by decide) (fun d K hK => ?_)
    go_simp
    repeat rw [setCell_at']
    refine hK _ _ ⟨DX.set4 _ (by (first | assumption | (apply hfr <;> dsimp only <;> omega))) (by (first | assumption | (apply hfr <;> dsimp only <;> omega))) (by (first | assumption | (apply hfr <;> dsimp only <;> omega))) (by (first | assumption | (apply hfr <;> dsimp only <;> omega))) (fun e he => ?_), ?_⟩
    · have hm := mem_listed he
      simp [go_sem, storedEv, evst_slice, evst_ptr, evst_iface, evst_nil, evst_bool, *] at hm
      rcases hm with rfl | rfl | rfl | rfl <;> exact .inl ⟨_, rfl, rfl, by (first | assumption | (apply hfr <;> dsimp only <;> omega)), by simp only [size_at, size_set]; first | omega | exact lt_of_cell (by assumption)⟩
    clear hK K d
    try walk_nrm
    generalize ew11 : World.setCell w10 _ _ = w11
    have sz11 := sz_st2 ew11
    replace zs0 := fz_st zs0 ew11
    replace zs1 := fz_st zs1 ew11
    replace zo0 := fz_st zo0 ew11
    replace zo1 := fz_st zo1 ew11
    replace zo2 := fz_st zo2 ew11
    replace zo3 := fz_st zo3 ew11
    replace p0 := cl_st p0 ew11 (by intro e; simp at e <;> omega)
    replace p1 := cl_st p1 ew11 (by intro e; simp at e <;> omega)
    replace p2 := cl_st p2 ew11 (by intro e; simp at e <;> omega)
    replace p3 := cl_st p3 ew11 (by intro e; simp at e <;> omega)
    replace hl1 := cl_st hl1 ew11 (by intro e; simp at e <;> omega)
    replace hl2 := cl_st hl2 ew11 (by intro e; simp at e <;> omega)
    replace hl3 := cl_st hl3 ew11 (by intro e; simp at e <;> omega)
    replace hl4 := cl_st hl4 ew11 (by intro e; simp at e <;> omega)
    replace hc0 := cl_st hc0 ew11 (by intro e; simp at e <;> omega)
    replace hc1 := cl_st hc1 ew11 (by intro e; simp at e <;> omega)
    replace hs0 := cl_st hs0 ew11 (by intro e; simp at e <;> omega)
    replace hs1 := cl_st hs1 ew11 (by intro e; simp at e <;> omega)
    replace ho0 := cl_st' ho0 ew11
    replace ho1 := cl_st ho1 ew11 (by intro e; simp at e <;> omega)
    replace ho2 := cl_st ho2 ew11 (by intro e; simp at e <;> omega)
    replace ho3 := cl_st ho3 ew11 (by intro e; simp at e <;> omega)
    replace kp := kp.stN ew11 (by first | (left; simp; done) | (right; left; simp; done) | (right; right; dsimp only; omega))
    generalize ew12 : World.setCell w11 _ _ = w12
    have sz12 := sz_st2 ew12
    replace zs0 := fz_st zs0 ew12
    replace zs1 := fz_st zs1 ew12
    replace zo0 := fz_st zo0 ew12
    replace zo1 := fz_st zo1 ew12
    replace zo2 := fz_st zo2 ew12
    replace zo3 := fz_st zo3 ew12
    replace p0 := cl_st p0 ew12 (by intro e; simp at e <;> omega)
    replace p1 := cl_st p1 ew12 (by intro e; simp at e <;> omega)
    replace p2 := cl_st p2 ew12 (by intro e; simp at e <;> omega)
    replace p3 := cl_st p3 ew12 (by intro e; simp at e <;> omega)
    replace hl1 := cl_st hl1 ew12 (by intro e; simp at e <;> omega)
    replace hl2 := cl_st hl2 ew12 (by intro e; simp at e <;> omega)
    replace hl3 := cl_st hl3 ew12 (by intro e; simp at e <;> omega)
    replace hl4 := cl_st hl4 ew12 (by intro e; simp at e <;> omega)
    replace hc0 := cl_st hc0 ew12 (by intro e; simp at e <;> omega)
    replace hc1 := cl_st hc1 ew12 (by intro e; simp at e <;> omega)
    replace hs0 := cl_st hs0 ew12 (by intro e; simp at e <;> omega)
    replace hs1 := cl_st hs1 ew12 (by intro e; simp at e <;> omega)
    replace ho0 := cl_st ho0 ew12 (by intro e; simp at e <;> omega)
    replace ho1 := cl_st' ho1 ew12
    replace ho2 := cl_st ho2 ew12 (by intro e; simp at e <;> omega)
    replace ho3 := cl_st ho3 ew12 (by intro e; simp at e <;> omega)
    replace kp := kp.stN ew12 (by first | (left; simp; done) | (right; left; simp; done) | (right; right; dsimp only; omega))
    generalize ew13 : World.setCell w12 _ _ = w13
    have sz13 := sz_st2 ew13
    replace zs0 := fz_st zs0 ew13
    replace zs1 := fz_st zs1 ew13
    replace zo0 := fz_st zo0 ew13
    replace zo1 := fz_st zo1 ew13
    replace zo2 := fz_st zo2 ew13
    replace zo3 := fz_st zo3 ew13
    replace p0 := cl_st p0 ew13 (by intro e; simp at e <;> omega)
    replace p1 := cl_st p1 ew13 (by intro e; simp at e <;> omega)
    replace p2 := cl_st p2 ew13 (by intro e; simp at e <;> omega)
    replace p3 := cl_st p3 ew13 (by intro e; simp at e <;> omega)
    replace hl1 := cl_st hl1 ew13 (by intro e; simp at e <;> omega)
    replace hl2 := cl_st hl2 ew13 (by intro e; simp at e <;> omega)
    replace hl3 := cl_st hl3 ew13 (by intro e; simp at e <;> omega)
    replace hl4 := cl_st hl4 ew13 (by intro e; simp at e <;> omega)
    replace hc0 := cl_st hc0 ew13 (by intro e; simp at e <;> omega)
    replace hc1 := cl_st hc1 ew13 (by intro e; simp at e <;> omega)
    replace hs0 := cl_st hs0 ew13 (by intro e; simp at e <;> omega)
    replace hs1 := cl_st hs1 ew13 (by intro e; simp at e <;> omega)
    replace ho0 := cl_st ho0 ew13 (by intro e; simp at e <;> omega)
    replace ho1 := cl_st ho1 ew13 (by intro e; simp at e <;> omega)
    replace ho2 := cl_st' ho2 ew13
    replace ho3 := cl_st ho3 ew13 (by intro e; simp at e <;> omega)
    replace kp := kp.stN ew13 (by first | (left; simp; done) | (right; left; simp; done) | (right; right; dsimp only; omega))
    generalize ew14 : World.setCell w13 _ _ = w14
    have sz14 := sz_st2 ew14
    replace zs0 := fz_st zs0 ew14
    replace zs1 := fz_st zs1 ew14
    replace zo0 := fz_st zo0 ew14
    replace zo1 := fz_st zo1 ew14
    replace zo2 := fz_st zo2 ew14
    replace zo3 := fz_st zo3 ew14
    replace p0 := cl_st p0 ew14 (by intro e; simp at e <;> omega)
    replace p1 := cl_st p1 ew14 (by intro e; simp at e <;> omega)
    replace p2 := cl_st p2 ew14 (by intro e; simp at e <;> omega)
    replace p3 := cl_st p3 ew14 (by intro e; simp at e <;> omega)
    replace hl1 := cl_st hl1 ew14 (by intro e; simp at e <;> omega)
    replace hl2 := cl_st hl2 ew14 (by intro e; simp at e <;> omega)
    replace hl3 := cl_st hl3 ew14 (by intro e; simp at e <;> omega)
    replace hl4 := cl_st hl4 ew14 (by intro e; simp at e <;> omega)
    replace hc0 := cl_st hc0 ew14 (by intro e; simp at e <;> omega)
    replace hc1 := cl_st hc1 ew14 (by intro e; simp at e <;> omega)
    replace hs0 := cl_st hs0 ew14 (by intro e; simp at e <;> omega)
    replace hs1 := cl_st hs1 ew14 (by intro e; simp at e <;> omega)
    replace ho0 := cl_st ho0 ew14 (by intro e; simp at e <;> omega)
    replace ho1 := cl_st ho1 ew14 (by intro e; simp at e <;> omega)
    replace ho2 := cl_st ho2 ew14 (by intro e; simp at e <;> omega)
    replace ho3 := cl_st' ho3 ew14
    replace kp := kp.stN ew14 (by first | (left; simp; done) | (right; left; simp; done) | (right; right; dsimp only; omega))
    refine F.esr ?_
    simp only [rg, Nat.reduceAdd]
    refine F.oq rfl rfl rfl (by simp [go_sem]) fun d K h => ?_; go_simp; refine h _ ?_; clear h K d; try walk_nrm
    refine F.ol rfl rfl rfl fun d K h => ?_; go_simp; refine h _ (fun e m => ?_) ?_; simp [go_sem, *] at m; subst m; exact evr (w := w14) (by assumption) (by first | assumption | (apply hfr <;> dsimp only <;> omega)); clear h K d; try walk_nrm
    refine F.oq rfl rfl rfl (by simp [go_sem]) fun d K h => ?_; go_simp; refine h _ ?_; clear h K d; try walk_nrm
    refine F.esr ?_
    simp only [rg, Nat.reduceAdd]
    refine F.oq rfl rfl rfl (by simp [go_sem]) fun d K h => ?_; go_simp; refine h _ ?_; clear h K d; try walk_nrm
    refine F.ol rfl rfl rfl fun d K h => ?_; go_simp; refine h _ (fun e m => ?_) ?_; simp [go_sem, *] at m; subst m; exact evr (w := w14) (by assumption) (by first | assumption | (apply hfr <;> dsimp only <;> omega)); clear h K d; try walk_nrm
    refine F.oq rfl rfl rfl (by simp [go_sem]) fun d K h => ?_; go_simp; refine h _ ?_; clear h K d; try walk_nrm
    refine F.es ?_
    refine F.sr ?_
    simp only [rg, Nat.reduceAdd]
    refine F.oq rfl rfl rfl (by simp [go_sem]) fun d K h => ?_; go_simp; refine h _ ?_; clear h K d; try walk_nrm
    refine F.re ?_
    refine F.bl ?_
    refine F.ctl (fun _ => stepG_loop) ?_
    have hks := kp.size
    have hLaw : Law wI w14 l n1 n2 n10 ta nt cap T a cc d st tmv kdv nnv x q cp (turnK T nt k0 0) (turnK T nt k0 1) := ⟨hl1, hl3, hl4, hc0, hc1, ho0, ho1, ho2, ho3, tat6.kp kp, bt, fun z => by
      obtain ⟨g, f1, f2, f3, f4⟩ := hx z
      exact ⟨g, f1, f2, fun z' => by have := e4 g z'; omega, f4.kp kp (by simp) (by simp)⟩, by omega, fun B hB => by have := hlB B hB; omega⟩
    rw [← htm, ← hkdv, ← hnnv] at hLaw
    obtain ⟨g1, g2, g3, g4, g5⟩ := id GL
    exact law_loop 3 _ _ a.toNat k0 (pzK bb cc d) (tmK st (fun k => turnK T nt k 2) (pzK bb cc d)) g1.2 g2 GT g4 g5 (fun _ => rfl) (pzK_in g3.1 (by omega) g5.1) (tmK_in hst (fun k => (GT k).2) fun k => by have := pzK_in g3.1 (by omega : 0 ≤ cc) g5.1 k; omega) (fun _ => rfl) hk0 hk1 hk2 hpost rfl rfl k0 0 st bb _ (by omega) rfl rfl (by omega) hLaw
  · obtain ⟨e1, at1, hc⟩ : ∃ e1 at1, chk 1 (LP a bb cc d ee) 1 (fun _ => ⟨st, ta, nt, cap, T⟩) = (e1, at1) := ⟨_, _, rfl⟩
    have he : ¬ e1 = 0 := fun z => hck (by
      have h2 : ∀ (p : Int × Int), p = chk 1 (LP a bb cc d ee) 1 (fun _ => ⟨st, ta, nt, cap, T⟩) → p.1 = 0 → p = (0, 0) := fun p hp h => by
        rw [hp] at h ⊢
        unfold chk at h ⊢
        split at h <;> first | (simp at h; done) | skip
        split at h <;> first | (simp at h; done) | skip
        split at h <;> first | (simp at h; done) | skip
        split at h <;> first | (simp at h; done) | skip
        simp_all
      exact h2 _ rfl (by rw [hc]; exact z))
    refine reportB_at n4 n5 ta nt cap T a bb cc d ee st e1 at1 w5 _ _ i0 hz5 hA hc he (fun l w6 q6 q7 => ?_)
    clear F
    have F := fut0 (P := Tryz.prog) (Post := Post) (wI := wI) (l := l) 2
    have hlB : ∀ B ∈ l, wI.heap.size ≤ B ∧ B < w6.heap.size := fun B hB => by have := q6 B hB; omega
    have hfr : ∀ (b : Addr) (wr : Bool), w6.heap.size ≤ b.block → OkS wI.heap.size l [] b wr := fun b wr h => ok_fr (N := w6.heap.size) (fun B hB => (hlB B hB).2) (by omega) h (by simp) wr
    have kp : Kp [] w6 w6 := Kp.refl _
    clear hl0 hl1 hl2 hl3 hl4 hl5 hc0 hc1 zl0 zl1 zl2 zl3 zl4 zl5 zc0 zc1 hg tat tat' hA
    rw [Frame.finish_at]
    try walk_nrm
    iterate 4 (refine F.oq rfl rfl rfl (by simp [go_sem]) fun d K h => ?_; go_simp; refine h _ ?_; clear h K d; try walk_nrm)
    refine F.op rfl rfl (by decide) (fun d K hK => ?_)
    go_simp
    rw [alloc_at']
    refine hK _ _ ⟨DX.alloc _ _ (fun e he => ?_), ?_⟩
    · have hm := mem_listed he
      simp [go_sem] at hm
    clear hK K d
    try walk_nrm
    generalize ew7 : World.alloc w6 _ = w7
    generalize hn7 : (World.heap w6).size = n7
    have sz7 := sz_al2 ew7 hn7
    have hs0 := cl_new (i := 0) ew7 hn7 rfl
    have zs0 := fz_new ew7 hn7 0
    have hs1 := cl_new (i := 1) ew7 hn7 rfl
    have zs1 := fz_new ew7 hn7 1
    try simp only [List.getElem_toArray, List.getElem_cons_zero, List.getElem_cons_succ] at hs0 hs1
    replace kp := kp.alN ew7
    refine F.op rfl rfl (by decide) (fun d K hK => ?_)
    go_simp
    repeat rw [setCell_at']
    refine hK _ _ ⟨DX.set2 _ (by (first | assumption | (apply hfr <;> dsimp only <;> omega))) (by (first | assumption | (apply hfr <;> dsimp only <;> omega))) (fun e he => ?_), ?_⟩
    · have hm := mem_listed he
      simp [go_sem, storedEv, evst_slice, evst_ptr, evst_iface, evst_nil, evst_bool, *] at hm
      rcases hm with rfl | rfl <;> exact .inl ⟨_, rfl, rfl, by (first | assumption | (apply hfr <;> dsimp only <;> omega)), by simp only [size_at, size_set]; first | omega | exact lt_of_cell (by assumption)⟩
    clear hK K d
    try walk_nrm
    generalize ew8 : World.setCell w7 _ _ = w8
    have sz8 := sz_st2 ew8
    replace zs0 := fz_st zs0 ew8
    replace zs1 := fz_st zs1 ew8
    replace hs0 := cl_st' hs0 ew8
    replace hs1 := cl_st hs1 ew8 (by intro e; simp at e <;> omega)
    replace kp := kp.stN ew8 (by first | (left; simp; done) | (right; left; simp; done) | (right; right; dsimp only; omega))
    generalize ew9 : World.setCell w8 _ _ = w9
    have sz9 := sz_st2 ew9
    replace zs0 := fz_st zs0 ew9
    replace zs1 := fz_st zs1 ew9
    replace hs0 := cl_st hs0 ew9 (by intro e; simp at e <;> omega)
    replace hs1 := cl_st' hs1 ew9
    replace kp := kp.stN ew9 (by first | (left; simp; done) | (right; left; simp; done) | (right; right; dsimp only; omega))
    iterate 2 (refine F.oq rfl rfl rfl (by simp [go_sem]) fun d K h => ?_; go_simp; refine h _ ?_; clear h K d; try walk_nrm)
    refine F.es ?_
    refine F.sr ?_
    simp only [rg, Nat.reduceAdd]
    iterate 3 (refine F.oq rfl rfl rfl (by simp [go_sem]) fun d K h => ?_; go_simp; refine h _ ?_; clear h K d; try walk_nrm)
    refine F.unwanted rfl rfl ?_
    try walk_nrm
    refine F.unwanted rfl rfl ?_
    try walk_nrm
    refine F.oq rfl rfl rfl (by simp [go_sem]) fun d K h => ?_; go_simp; refine h _ ?_; clear h K d; try walk_nrm
    refine F.re ?_
    refine F.ct rfl ?_
    refine F.sr ?_
    simp only [rg, Nat.reduceAdd]
    iterate 2 (refine F.oq rfl rfl rfl (by simp [go_sem]) fun d K h => ?_; go_simp; refine h _ ?_; clear h K d; try walk_nrm)
    refine F.re ?_
    refine F.ctl (fun _ => stepG_ret') ?_
    exact law_says hpost (resultsC_tmp (t := 4) (by rfl) _) rfl
end

end Go.Proofs.YtobagnjnbmgidaaGreatDoor
