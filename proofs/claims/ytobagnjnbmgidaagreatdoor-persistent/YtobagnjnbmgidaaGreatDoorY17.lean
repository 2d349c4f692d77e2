/- The law of a Retry alone: its loop. -/
import Derived.Test.YtobagnjnbmgidaaGreatDoorY11
set_option linter.unusedSimpArgs false
set_option linter.unusedVariables false
namespace Go.Proofs.YtobagnjnbmgidaaGreatDoor
open Go.Conc Go.RowKit Go.Extern
open Go.ConcN (sumTo upd sumTo_upd upd_ne upd_same)

theorem stepG_top {P : Program} {b : Frame} {a : Act} {fn : Func} {todo : List Item} {w : World} {v : Value} (hn : b.kind = .normal) (hi : P.inits.idxOf? b.fn = none) (hd : a.defers = []) (hf : P.funcs[b.fn]? = some fn)
    (hr : (results fn a.tmps).run P w = .ok v w) (he : (results fn a.tmps).events P w #[] = #[]) :
    stepG P true (G { b.at a todo with mode := .returning } []) w = .ended (.done v) w #[] := by
  simp [G, stepG, unwind, doReturn, Frame.at, hn, hd, hf, hr, he, hi, seen, GStep.after]
theorem top_tmp {P : Program} {b : Frame} {a : Act} {fn : Func} {todo : List Item} {w : World} {v : Value} (hn : b.kind = .normal) (hi : P.inits.idxOf? b.fn = none) (hd : a.defers = []) (hf : P.funcs[b.fn]? = some fn) (hr : ResultsC P fn a.tmps v) :
    stepG P true (G { b.at a todo with mode := .returning } []) w = .ended (.done v) w #[] := stepG_top hn hi hd hf (hr w).1 (hr w).2
def blkIn : Code → Code
  | .block _ b => b
  | c => c
theorem noInit5 : Tryz.prog.inits.idxOf? 5 = none := by kernel_rfl

/-- What the law looks at. -/
structure Law (wI w : World) (l : List Nat) (nL nC nO : Nat) (ta : Option Addr) (nt cap : Nat) (T : Nat → Nat → Int) (a cc d st : Int) (tmv kv nv : Int) (x : Option Addr) (q cp : Nat) (kd nn : Int) : Prop where
  l1 : w.cell? ⟨nL, 1, none⟩ = some (.int .i64 a)
  l3 : w.cell? ⟨nL, 3, none⟩ = some (.int .i64 cc)
  l4 : w.cell? ⟨nL, 4, none⟩ = some (.int .i64 d)
  c0 : w.cell? ⟨nC, 0, none⟩ = some (.int .i64 st)
  c1 : w.cell? ⟨nC, 1, none⟩ = some (.slice ta nt cap)
  o0 : w.cell? ⟨nO, 0, none⟩ = some (.int .i64 tmv)
  o1 : w.cell? ⟨nO, 1, none⟩ = some (.int .i64 kv)
  o2 : w.cell? ⟨nO, 2, none⟩ = some (.int .i64 nv)
  o3 : w.cell? ⟨nO, 3, none⟩ = some (.slice x q cp)
  tat : TurnsAt w ta nt T
  bt : 0 < nt → ∀ p : Addr, ta = some p → p.block < wI.heap.size
  ch : (kd = 2 ∨ kd = 3) → ∃ g, x = some ⟨g, 0, none⟩ ∧ q = (if kd = 3 then 1 else 2) ∧ g ∉ l ∧ ChAt w g (linksOf kd nn)
  sz : wI.heap.size ≤ w.heap.size
  hl : ∀ B ∈ l, wI.heap.size ≤ B ∧ B < w.heap.size
section
variable {wI : World} {l : List Nat} {nL nC nO : Nat} {ta : Option Addr} {nt cap : Nat} {T : Nat → Nat → Int} {a cc d st tmv kv nv : Int} {x : Option Addr} {q cp : Nat} {kd nn : Int} {Post : Value → World → Prop}
theorem Law.kp {w w' : World} (h : Law wI w l nL nC nO ta nt cap T a cc d st tmv kv nv x q cp kd nn) (k : Kp [] w w') : Law wI w' l nL nC nO ta nt cap T a cc d st tmv kv nv x q cp kd nn := by
  have hs := k.size
  refine ⟨k.cell _ _ (by simp) h.l1, k.cell _ _ (by simp) h.l3, k.cell _ _ (by simp) h.l4, k.cell _ _ (by simp) h.c0, k.cell _ _ (by simp) h.c1, k.cell _ _ (by simp) h.o0, k.cell _ _ (by simp) h.o1, k.cell _ _ (by simp) h.o2, k.cell _ _ (by simp) h.o3, h.tat.kp k, h.bt, fun z => ?_, Nat.le_trans h.sz hs, fun B hB => ?_⟩
  · obtain ⟨g, h1, h2, h3, h4⟩ := h.ch z
    exact ⟨g, h1, h2, h3, h4.kp k (by simp) (by simp)⟩
  · have := h.hl B hB
    exact ⟨this.1, by omega⟩

/-- It says yes. -/
theorem law_says {a' : Act} {todo : List Item} {w : World} (hpost : ∀ w', Old wI w' → Post (.bool true) w') (hr : ResultsC Tryz.prog Tryz.f5 a'.tmps (.bool true)) (hd : a'.defers = []) {n : Nat} : At0 Tryz.prog Post (Old wI) (ShL l) n (G { (base 5).at a' todo with mode := .returning } []) w := by
  refine At.endsK (v := .bool true) (es := #[]) rfl (fun d => ?_) (by simp) (fun d hK => ?_) old_at
  · exact top_tmp rfl noInit5 hd Tryz.func5 hr
  · exact hpost _ hK

set_option maxRecDepth 100000 in
set_option maxHeartbeats 8000000 in
theorem law_v (N3 nU : Nat) (va vc : Value) (tv pv kn tk : Int) {y5 y6 y7 y13 y14 y15 y16 y17 y18 y19 y20 y21 y22 y23 y24 y25 y26 y27 y28 y29 y30 y31 y32 y33 y34 y35 y36 y37 y38 y39 y40 y41 y42 y43 y44 y45 y46 y47 y48 y49 y50 y51 y52 y53 y54 y55 y56 y57 y58 y59 y60 y61 y62 y63 y64 y65 y66 y67 y68 y69 y70 y71 y72 y73 y74 y75 y76 y77 y78 y79 y80 y81 y82 y83 y84 y85 y86 y87 y88 y89 y90 y91 y92 y93 y94 y95 y96 y97 y98 y99 y100 y101 y102 y103 y104 y105 y106 y107 y108 y109 y110 y111 y112 y113 y114 y115 y116 y117 y118 y119 y120 y121 y122 y123 y124 y125 y126 y127 y128 y129 y130 y131 y132 y133 y134 y135 y136 y137 y138 y139 y140 y141 y142 y143 y144 y145 y146 y147 y148 y149 y150 y151 y152 y153 y154 y155 y156 y157 y158 y159 y160 y161 y162 y163 y164 y165 y166 y167 : Value} (w0 : World) (H : Law wI w0 l nL nC nO ta nt cap T a cc d st tv (kdO 1) (nnO 1 nn) x q cp 1 nn) (hpost : ∀ w', Old wI w' → Post (.bool true) w') (u0 : w0.cell? ⟨nU, 0, none⟩ = some (.int .i64 1)) (u1 : w0.cell? ⟨nU, 1, none⟩ = some (.int .i64 nn)) (u2 : w0.cell? ⟨nU, 2, none⟩ = some (.int .i64 tk)) :
    At0 Tryz.prog Post (Old wI) (ShL l) N3 (G ((base 5).at ⟨(List.toArray ((va) :: (vc) :: (.pointer (some ⟨nL, 0, none⟩)) :: (.pointer (some ⟨nC, 0, none⟩)) :: (.bool false) :: y5 :: y6 :: y7 :: (.pointer (some ⟨nO, 0, none⟩)) :: (.int .i64 tv) :: (.int .i64 pv) :: (.int .i64 kn) :: (.pointer (some ⟨nU, 0, none⟩)) :: y13 :: y14 :: y15 :: y16 :: y17 :: y18 :: y19 :: y20 :: y21 :: y22 :: y23 :: y24 :: y25 :: y26 :: y27 :: y28 :: y29 :: y30 :: y31 :: y32 :: y33 :: y34 :: y35 :: y36 :: y37 :: y38 :: y39 :: y40 :: y41 :: y42 :: y43 :: y44 :: y45 :: y46 :: y47 :: y48 :: y49 :: y50 :: y51 :: y52 :: y53 :: y54 :: y55 :: y56 :: y57 :: y58 :: y59 :: y60 :: y61 :: y62 :: y63 :: y64 :: y65 :: y66 :: y67 :: y68 :: y69 :: y70 :: y71 :: y72 :: y73 :: y74 :: y75 :: y76 :: y77 :: y78 :: y79 :: y80 :: y81 :: y82 :: y83 :: y84 :: y85 :: y86 :: y87 :: y88 :: y89 :: y90 :: y91 :: y92 :: y93 :: y94 :: y95 :: y96 :: y97 :: y98 :: y99 :: y100 :: y101 :: y102 :: y103 :: y104 :: y105 :: y106 :: y107 :: y108 :: y109 :: y110 :: y111 :: y112 :: y113 :: y114 :: y115 :: y116 :: y117 :: y118 :: y119 :: y120 :: y121 :: y122 :: y123 :: y124 :: y125 :: y126 :: y127 :: y128 :: y129 :: y130 :: y131 :: y132 :: y133 :: y134 :: y135 :: y136 :: y137 :: y138 :: y139 :: y140 :: y141 :: y142 :: y143 :: y144 :: y145 :: y146 :: y147 :: y148 :: y149 :: y150 :: y151 :: y152 :: y153 :: y154 :: y155 :: y156 :: y157 :: y158 :: y159 :: y160 :: y161 :: y162 :: y163 :: y164 :: y165 :: y166 :: y167 :: [])), []⟩ [.code (dropSeq 2 (blkIn (fstSeq (dropSeq 1 (loopIn (dropSeq 1 (fstSeq (dropSeq 7 (Tryz.f5.body.getD .skip))))))))), .inBlock 1, .code (dropSeq 2 (loopIn (dropSeq 1 (fstSeq (dropSeq 7 (Tryz.f5.body.getD .skip)))))), .inLoop (loopIn (dropSeq 1 (fstSeq (dropSeq 7 (Tryz.f5.body.getD .skip))))), .inBlock 0, .code (dropSeq 8 (Tryz.f5.body.getD .skip))]) []) w0 := by
  have F := fut0 (P := Tryz.prog) (Post := Post) (wI := wI) (l := l) N3
  obtain ⟨hl1, hl3, hl4, hc0, hc1, ho0, ho1, ho2, ho3, tat, bt, ch, hsz, hlB⟩ := id H
  have hok : ∀ (b o : Nat), o ≠ 5 → o ≠ 6 → OkS wI.heap.size l [] ⟨b, o, none⟩ false := fun b o h5 h6 => ok_rd h5 h6
  have k1 := hok nL 1 (by decide) (by decide)
  have k3 := hok nL 3 (by decide) (by decide)
  have k4 := hok nL 4 (by decide) (by decide)
  have k5 := hok nC 0 (by decide) (by decide)
  have k6 := hok nC 1 (by decide) (by decide)
  have k7 := hok nO 0 (by decide) (by decide)
  have k8 := hok nO 1 (by decide) (by decide)
  have k9 := hok nO 2 (by decide) (by decide)
  have k10 := hok nO 3 (by decide) (by decide)
  have hfr : ∀ (b : Addr) (wr : Bool), w0.heap.size ≤ b.block → OkS wI.heap.size l [] b wr := fun b wr h => ok_fr (N := w0.heap.size) (fun B hB => (hlB B hB).2) hsz h (by simp) wr
  have k11 := hok nU 0 (by decide) (by decide)
  have k12 := hok nU 1 (by decide) (by decide)
  have k13 := hok nU 2 (by decide) (by decide)
  replace ho1 : w0.cell? ⟨nO, 1, none⟩ = some (.int .i64 (1)) := ho1
  replace ho2 : w0.cell? ⟨nO, 2, none⟩ = some (.int .i64 nn) := ho2
  unfold blkIn fstSeq dropSeq loopIn
  refine F.sq ?_
  refine F.sr ?_
  simp only [rg, Nat.reduceAdd]
  refine F.oq rfl rfl rfl (by simp [go_sem]) fun d K h => ?_; go_simp; refine h _ ?_; clear h K d; try walk_nrm
  refine F.ol rfl rfl rfl fun d K h => ?_; go_simp; refine h _ (fun e m => ?_) ?_; simp [go_sem, *] at m; subst m; exact evr (w := w0) (by assumption) (by first | assumption | (apply hfr <;> dsimp only <;> omega) | (apply hok; simp)); clear h K d; try walk_nrm
  refine F.oq rfl rfl rfl (by simp [go_sem]) fun d K h => ?_; go_simp; refine h _ ?_; clear h K d; try walk_nrm
  refine F.re ?_
  refine F.ct rfl ?_
  refine F.sr ?_
  simp only [rg, Nat.reduceAdd]
  refine F.oq rfl rfl rfl (by simp [go_sem]) fun d K h => ?_; go_simp; refine h _ ?_; clear h K d; try walk_nrm
  refine F.ol rfl rfl rfl fun d K h => ?_; go_simp; refine h _ (fun e m => ?_) ?_; simp [go_sem, *] at m; subst m; exact evr (w := w0) (by assumption) (by first | assumption | (apply hfr <;> dsimp only <;> omega) | (apply hok; simp)); clear h K d; try walk_nrm
  iterate 4 (refine F.oq rfl rfl rfl (by simp [go_sem]) fun d K h => ?_; go_simp; refine h _ ?_; clear h K d; try walk_nrm)
  refine F.ol rfl rfl rfl fun d K h => ?_; go_simp; refine h _ (fun e m => ?_) ?_; simp [go_sem, *] at m; subst m; exact evr (w := w0) (by assumption) (by first | assumption | (apply hfr <;> dsimp only <;> omega) | (apply hok; simp)); clear h K d; try walk_nrm
  iterate 3 (refine F.oq rfl rfl rfl (by simp [go_sem]) fun d K h => ?_; go_simp; refine h _ ?_; clear h K d; try walk_nrm)
  refine F.ol rfl rfl rfl fun d K h => ?_; go_simp; refine h _ (fun e m => ?_) ?_; simp [go_sem, *] at m; subst m; exact evr (w := w0) (by assumption) (by first | assumption | (apply hfr <;> dsimp only <;> omega) | (apply hok; simp)); clear h K d; try walk_nrm
  iterate 3 (refine F.oq rfl rfl rfl (by simp [go_sem]) fun d K h => ?_; go_simp; refine h _ ?_; clear h K d; try walk_nrm)
  refine F.ol rfl rfl rfl fun d K h => ?_; go_simp; refine h _ (fun e m => ?_) ?_; simp [go_sem, *] at m; subst m; exact evr (w := w0) (by assumption) (by first | assumption | (apply hfr <;> dsimp only <;> omega) | (apply hok; simp)); clear h K d; try walk_nrm
  refine F.oq rfl rfl rfl (by simp [go_sem]) fun d K h => ?_; go_simp; refine h _ ?_; clear h K d; try walk_nrm
  refine F.ol rfl rfl rfl fun d K h => ?_; go_simp; refine h _ (fun e m => ?_) ?_; simp [go_sem, *] at m; subst m; exact evr (w := w0) (by assumption) (by first | assumption | (apply hfr <;> dsimp only <;> omega) | (apply hok; simp)); clear h K d; try walk_nrm
  iterate 5 (refine F.oq rfl rfl rfl (by simp [go_sem]) fun d K h => ?_; go_simp; refine h _ ?_; clear h K d; try walk_nrm)
  refine F.es ?_
  refine F.sr ?_
  simp only [rg, Nat.reduceAdd]
  refine F.oq rfl rfl rfl (by simp [go_sem]) fun d K h => ?_; go_simp; refine h _ ?_; clear h K d; try walk_nrm
  refine F.ol rfl rfl rfl fun d K h => ?_; go_simp; refine h _ (fun e m => ?_) ?_; simp [go_sem, *] at m; subst m; exact evr (w := w0) (by assumption) (by first | assumption | (apply hfr <;> dsimp only <;> omega) | (apply hok; simp)); clear h K d; try walk_nrm
  refine F.oq rfl rfl rfl (by simp [go_sem]) fun d K h => ?_; go_simp; refine h _ ?_; clear h K d; try walk_nrm
  refine F.re ?_
  refine F.cf rfl ?_
  refine F.sk ?_
  refine F.sr ?_
  simp only [rg, Nat.reduceAdd]
  iterate 3 (refine F.oq rfl rfl rfl (by simp [go_sem]) fun d K h => ?_; go_simp; refine h _ ?_; clear h K d; try walk_nrm)
  refine F.ol rfl rfl rfl fun d K h => ?_; go_simp; refine h _ (fun e m => ?_) ?_; simp [go_sem, *] at m; subst m; exact evr (w := w0) (by assumption) (by first | assumption | (apply hfr <;> dsimp only <;> omega) | (apply hok; simp)); clear h K d; try walk_nrm
  iterate 2 (refine F.oq rfl rfl rfl (by simp [go_sem]) fun d K h => ?_; go_simp; refine h _ ?_; clear h K d; try walk_nrm)
  refine F.unwanted rfl rfl ?_
  try walk_nrm
  refine F.unwanted rfl rfl ?_
  try walk_nrm
  refine F.unwanted rfl rfl ?_
  try walk_nrm
  refine F.unwanted rfl rfl ?_
  try walk_nrm
  refine F.unwanted rfl rfl ?_
  try walk_nrm
  refine F.unwanted rfl rfl ?_
  try walk_nrm
  refine F.unwanted rfl rfl ?_
  try walk_nrm
  refine F.unwanted rfl rfl ?_
  try walk_nrm
  refine F.unwanted rfl rfl ?_
  try walk_nrm
  refine F.unwanted rfl rfl ?_
  try walk_nrm
  iterate 3 (refine F.oq rfl rfl rfl (by simp [go_sem]) fun d K h => ?_; go_simp; refine h _ ?_; clear h K d; try walk_nrm)
  refine F.re ?_
  refine F.ctl (fun _ => stepG_ret') ?_
  exact law_says hpost (resultsC_tmp (t := 4) (by rfl) _) rfl

set_option maxRecDepth 100000 in
set_option maxHeartbeats 8000000 in
theorem law_p (N3 nU : Nat) (va vc : Value) (tv pv kn tk : Int) {y5 y6 y7 y13 y14 y15 y16 y17 y18 y19 y20 y21 y22 y23 y24 y25 y26 y27 y28 y29 y30 y31 y32 y33 y34 y35 y36 y37 y38 y39 y40 y41 y42 y43 y44 y45 y46 y47 y48 y49 y50 y51 y52 y53 y54 y55 y56 y57 y58 y59 y60 y61 y62 y63 y64 y65 y66 y67 y68 y69 y70 y71 y72 y73 y74 y75 y76 y77 y78 y79 y80 y81 y82 y83 y84 y85 y86 y87 y88 y89 y90 y91 y92 y93 y94 y95 y96 y97 y98 y99 y100 y101 y102 y103 y104 y105 y106 y107 y108 y109 y110 y111 y112 y113 y114 y115 y116 y117 y118 y119 y120 y121 y122 y123 y124 y125 y126 y127 y128 y129 y130 y131 y132 y133 y134 y135 y136 y137 y138 y139 y140 y141 y142 y143 y144 y145 y146 y147 y148 y149 y150 y151 y152 y153 y154 y155 y156 y157 y158 y159 y160 y161 y162 y163 y164 y165 y166 y167 : Value} (w0 : World) (H : Law wI w0 l nL nC nO ta nt cap T a cc d st tv (kdO 4) (nnO 4 nn) x q cp 4 nn) (hpost : ∀ w', Old wI w' → Post (.bool true) w') (u0 : w0.cell? ⟨nU, 0, none⟩ = some (.int .i64 4)) (u1 : w0.cell? ⟨nU, 1, none⟩ = some (.int .i64 nn)) (u2 : w0.cell? ⟨nU, 2, none⟩ = some (.int .i64 tk)) :
    At0 Tryz.prog Post (Old wI) (ShL l) N3 (G ((base 5).at ⟨(List.toArray ((va) :: (vc) :: (.pointer (some ⟨nL, 0, none⟩)) :: (.pointer (some ⟨nC, 0, none⟩)) :: (.bool false) :: y5 :: y6 :: y7 :: (.pointer (some ⟨nO, 0, none⟩)) :: (.int .i64 tv) :: (.int .i64 pv) :: (.int .i64 kn) :: (.pointer (some ⟨nU, 0, none⟩)) :: y13 :: y14 :: y15 :: y16 :: y17 :: y18 :: y19 :: y20 :: y21 :: y22 :: y23 :: y24 :: y25 :: y26 :: y27 :: y28 :: y29 :: y30 :: y31 :: y32 :: y33 :: y34 :: y35 :: y36 :: y37 :: y38 :: y39 :: y40 :: y41 :: y42 :: y43 :: y44 :: y45 :: y46 :: y47 :: y48 :: y49 :: y50 :: y51 :: y52 :: y53 :: y54 :: y55 :: y56 :: y57 :: y58 :: y59 :: y60 :: y61 :: y62 :: y63 :: y64 :: y65 :: y66 :: y67 :: y68 :: y69 :: y70 :: y71 :: y72 :: y73 :: y74 :: y75 :: y76 :: y77 :: y78 :: y79 :: y80 :: y81 :: y82 :: y83 :: y84 :: y85 :: y86 :: y87 :: y88 :: y89 :: y90 :: y91 :: y92 :: y93 :: y94 :: y95 :: y96 :: y97 :: y98 :: y99 :: y100 :: y101 :: y102 :: y103 :: y104 :: y105 :: y106 :: y107 :: y108 :: y109 :: y110 :: y111 :: y112 :: y113 :: y114 :: y115 :: y116 :: y117 :: y118 :: y119 :: y120 :: y121 :: y122 :: y123 :: y124 :: y125 :: y126 :: y127 :: y128 :: y129 :: y130 :: y131 :: y132 :: y133 :: y134 :: y135 :: y136 :: y137 :: y138 :: y139 :: y140 :: y141 :: y142 :: y143 :: y144 :: y145 :: y146 :: y147 :: y148 :: y149 :: y150 :: y151 :: y152 :: y153 :: y154 :: y155 :: y156 :: y157 :: y158 :: y159 :: y160 :: y161 :: y162 :: y163 :: y164 :: y165 :: y166 :: y167 :: [])), []⟩ [.code (dropSeq 2 (blkIn (fstSeq (dropSeq 1 (loopIn (dropSeq 1 (fstSeq (dropSeq 7 (Tryz.f5.body.getD .skip))))))))), .inBlock 1, .code (dropSeq 2 (loopIn (dropSeq 1 (fstSeq (dropSeq 7 (Tryz.f5.body.getD .skip)))))), .inLoop (loopIn (dropSeq 1 (fstSeq (dropSeq 7 (Tryz.f5.body.getD .skip))))), .inBlock 0, .code (dropSeq 8 (Tryz.f5.body.getD .skip))]) []) w0 := by
  have F := fut0 (P := Tryz.prog) (Post := Post) (wI := wI) (l := l) N3
  obtain ⟨hl1, hl3, hl4, hc0, hc1, ho0, ho1, ho2, ho3, tat, bt, ch, hsz, hlB⟩ := id H
  have hok : ∀ (b o : Nat), o ≠ 5 → o ≠ 6 → OkS wI.heap.size l [] ⟨b, o, none⟩ false := fun b o h5 h6 => ok_rd h5 h6
  have k1 := hok nL 1 (by decide) (by decide)
  have k3 := hok nL 3 (by decide) (by decide)
  have k4 := hok nL 4 (by decide) (by decide)
  have k5 := hok nC 0 (by decide) (by decide)
  have k6 := hok nC 1 (by decide) (by decide)
  have k7 := hok nO 0 (by decide) (by decide)
  have k8 := hok nO 1 (by decide) (by decide)
  have k9 := hok nO 2 (by decide) (by decide)
  have k10 := hok nO 3 (by decide) (by decide)
  have hfr : ∀ (b : Addr) (wr : Bool), w0.heap.size ≤ b.block → OkS wI.heap.size l [] b wr := fun b wr h => ok_fr (N := w0.heap.size) (fun B hB => (hlB B hB).2) hsz h (by simp) wr
  have k11 := hok nU 0 (by decide) (by decide)
  have k12 := hok nU 1 (by decide) (by decide)
  have k13 := hok nU 2 (by decide) (by decide)
  replace ho1 : w0.cell? ⟨nO, 1, none⟩ = some (.int .i64 (3)) := ho1
  replace ho2 : w0.cell? ⟨nO, 2, none⟩ = some (.int .i64 nn) := ho2
  unfold blkIn fstSeq dropSeq loopIn
  refine F.sq ?_
  refine F.sr ?_
  simp only [rg, Nat.reduceAdd]
  refine F.oq rfl rfl rfl (by simp [go_sem]) fun d K h => ?_; go_simp; refine h _ ?_; clear h K d; try walk_nrm
  refine F.ol rfl rfl rfl fun d K h => ?_; go_simp; refine h _ (fun e m => ?_) ?_; simp [go_sem, *] at m; subst m; exact evr (w := w0) (by assumption) (by first | assumption | (apply hfr <;> dsimp only <;> omega) | (apply hok; simp)); clear h K d; try walk_nrm
  refine F.oq rfl rfl rfl (by simp [go_sem]) fun d K h => ?_; go_simp; refine h _ ?_; clear h K d; try walk_nrm
  refine F.re ?_
  refine F.ct rfl ?_
  refine F.sr ?_
  simp only [rg, Nat.reduceAdd]
  refine F.oq rfl rfl rfl (by simp [go_sem]) fun d K h => ?_; go_simp; refine h _ ?_; clear h K d; try walk_nrm
  refine F.ol rfl rfl rfl fun d K h => ?_; go_simp; refine h _ (fun e m => ?_) ?_; simp [go_sem, *] at m; subst m; exact evr (w := w0) (by assumption) (by first | assumption | (apply hfr <;> dsimp only <;> omega) | (apply hok; simp)); clear h K d; try walk_nrm
  iterate 4 (refine F.oq rfl rfl rfl (by simp [go_sem]) fun d K h => ?_; go_simp; refine h _ ?_; clear h K d; try walk_nrm)
  refine F.ol rfl rfl rfl fun d K h => ?_; go_simp; refine h _ (fun e m => ?_) ?_; simp [go_sem, *] at m; subst m; exact evr (w := w0) (by assumption) (by first | assumption | (apply hfr <;> dsimp only <;> omega) | (apply hok; simp)); clear h K d; try walk_nrm
  iterate 2 (refine F.oq rfl rfl rfl (by simp [go_sem]) fun d K h => ?_; go_simp; refine h _ ?_; clear h K d; try walk_nrm)
  refine F.unwanted rfl rfl ?_
  try walk_nrm
  refine F.unwanted rfl rfl ?_
  try walk_nrm
  refine F.unwanted rfl rfl ?_
  try walk_nrm
  refine F.unwanted rfl rfl ?_
  try walk_nrm
  refine F.unwanted rfl rfl ?_
  try walk_nrm
  refine F.unwanted rfl rfl ?_
  try walk_nrm
  refine F.unwanted rfl rfl ?_
  try walk_nrm
  refine F.unwanted rfl rfl ?_
  try walk_nrm
  refine F.unwanted rfl rfl ?_
  try walk_nrm
  refine F.unwanted rfl rfl ?_
  try walk_nrm
  iterate 3 (refine F.oq rfl rfl rfl (by simp [go_sem]) fun d K h => ?_; go_simp; refine h _ ?_; clear h K d; try walk_nrm)
  refine F.es ?_
  refine F.sr ?_
  simp only [rg, Nat.reduceAdd]
  refine F.oq rfl rfl rfl (by simp [go_sem]) fun d K h => ?_; go_simp; refine h _ ?_; clear h K d; try walk_nrm
  refine F.ol rfl rfl rfl fun d K h => ?_; go_simp; refine h _ (fun e m => ?_) ?_; simp [go_sem, *] at m; subst m; exact evr (w := w0) (by assumption) (by first | assumption | (apply hfr <;> dsimp only <;> omega) | (apply hok; simp)); clear h K d; try walk_nrm
  refine F.oq rfl rfl rfl (by simp [go_sem]) fun d K h => ?_; go_simp; refine h _ ?_; clear h K d; try walk_nrm
  refine F.re ?_
  refine F.cf rfl ?_
  refine F.sk ?_
  refine F.sr ?_
  simp only [rg, Nat.reduceAdd]
  iterate 3 (refine F.oq rfl rfl rfl (by simp [go_sem]) fun d K h => ?_; go_simp; refine h _ ?_; clear h K d; try walk_nrm)
  refine F.ol rfl rfl rfl fun d K h => ?_; go_simp; refine h _ (fun e m => ?_) ?_; simp [go_sem, *] at m; subst m; exact evr (w := w0) (by assumption) (by first | assumption | (apply hfr <;> dsimp only <;> omega) | (apply hok; simp)); clear h K d; try walk_nrm
  iterate 3 (refine F.oq rfl rfl rfl (by simp [go_sem]) fun d K h => ?_; go_simp; refine h _ ?_; clear h K d; try walk_nrm)
  refine F.ol rfl rfl rfl fun d K h => ?_; go_simp; refine h _ (fun e m => ?_) ?_; simp [go_sem, *] at m; subst m; exact evr (w := w0) (by assumption) (by first | assumption | (apply hfr <;> dsimp only <;> omega) | (apply hok; simp)); clear h K d; try walk_nrm
  iterate 3 (refine F.oq rfl rfl rfl (by simp [go_sem]) fun d K h => ?_; go_simp; refine h _ ?_; clear h K d; try walk_nrm)
  refine F.ol rfl rfl rfl fun d K h => ?_; go_simp; refine h _ (fun e m => ?_) ?_; simp [go_sem, *] at m; subst m; exact evr (w := w0) (by assumption) (by first | assumption | (apply hfr <;> dsimp only <;> omega) | (apply hok; simp)); clear h K d; try walk_nrm
  refine F.oq rfl rfl rfl (by simp [go_sem]) fun d K h => ?_; go_simp; refine h _ ?_; clear h K d; try walk_nrm
  refine F.ol rfl rfl rfl fun d K h => ?_; go_simp; refine h _ (fun e m => ?_) ?_; simp [go_sem, *] at m; subst m; exact evr (w := w0) (by assumption) (by first | assumption | (apply hfr <;> dsimp only <;> omega) | (apply hok; simp)); clear h K d; try walk_nrm
  iterate 5 (refine F.oq rfl rfl rfl (by simp [go_sem]) fun d K h => ?_; go_simp; refine h _ ?_; clear h K d; try walk_nrm)
  refine F.re ?_
  refine F.ctl (fun _ => stepG_ret') ?_
  exact law_says hpost (resultsC_tmp (t := 4) (by rfl) _) rfl

set_option maxRecDepth 100000 in
set_option maxHeartbeats 8000000 in
theorem law_f (N3 nU : Nat) (va vc : Value) (tv pv kn tk : Int) {y5 y6 y7 y13 y14 y15 y16 y17 y18 y19 y20 y21 y22 y23 y24 y25 y26 y27 y28 y29 y30 y31 y32 y33 y34 y35 y36 y37 y38 y39 y40 y41 y42 y43 y44 y45 y46 y47 y48 y49 y50 y51 y52 y53 y54 y55 y56 y57 y58 y59 y60 y61 y62 y63 y64 y65 y66 y67 y68 y69 y70 y71 y72 y73 y74 y75 y76 y77 y78 y79 y80 y81 y82 y83 y84 y85 y86 y87 y88 y89 y90 y91 y92 y93 y94 y95 y96 y97 y98 y99 y100 y101 y102 y103 y104 y105 y106 y107 y108 y109 y110 y111 y112 y113 y114 y115 y116 y117 y118 y119 y120 y121 y122 y123 y124 y125 y126 y127 y128 y129 y130 y131 y132 y133 y134 y135 y136 y137 y138 y139 y140 y141 y142 y143 y144 y145 y146 y147 y148 y149 y150 y151 y152 y153 y154 y155 y156 y157 y158 y159 y160 y161 y162 y163 y164 y165 y166 y167 : Value} (w0 : World) (H : Law wI w0 l nL nC nO ta nt cap T a cc d st tv (kdO 3) (nnO 3 nn) x q cp 3 nn) (hpost : ∀ w', Old wI w' → Post (.bool true) w') (u0 : w0.cell? ⟨nU, 0, none⟩ = some (.int .i64 3)) (u1 : w0.cell? ⟨nU, 1, none⟩ = some (.int .i64 nn)) (u2 : w0.cell? ⟨nU, 2, none⟩ = some (.int .i64 tk)) :
    At0 Tryz.prog Post (Old wI) (ShL l) N3 (G ((base 5).at ⟨(List.toArray ((va) :: (vc) :: (.pointer (some ⟨nL, 0, none⟩)) :: (.pointer (some ⟨nC, 0, none⟩)) :: (.bool false) :: y5 :: y6 :: y7 :: (.pointer (some ⟨nO, 0, none⟩)) :: (.int .i64 tv) :: (.int .i64 pv) :: (.int .i64 kn) :: (.pointer (some ⟨nU, 0, none⟩)) :: y13 :: y14 :: y15 :: y16 :: y17 :: y18 :: y19 :: y20 :: y21 :: y22 :: y23 :: y24 :: y25 :: y26 :: y27 :: y28 :: y29 :: y30 :: y31 :: y32 :: y33 :: y34 :: y35 :: y36 :: y37 :: y38 :: y39 :: y40 :: y41 :: y42 :: y43 :: y44 :: y45 :: y46 :: y47 :: y48 :: y49 :: y50 :: y51 :: y52 :: y53 :: y54 :: y55 :: y56 :: y57 :: y58 :: y59 :: y60 :: y61 :: y62 :: y63 :: y64 :: y65 :: y66 :: y67 :: y68 :: y69 :: y70 :: y71 :: y72 :: y73 :: y74 :: y75 :: y76 :: y77 :: y78 :: y79 :: y80 :: y81 :: y82 :: y83 :: y84 :: y85 :: y86 :: y87 :: y88 :: y89 :: y90 :: y91 :: y92 :: y93 :: y94 :: y95 :: y96 :: y97 :: y98 :: y99 :: y100 :: y101 :: y102 :: y103 :: y104 :: y105 :: y106 :: y107 :: y108 :: y109 :: y110 :: y111 :: y112 :: y113 :: y114 :: y115 :: y116 :: y117 :: y118 :: y119 :: y120 :: y121 :: y122 :: y123 :: y124 :: y125 :: y126 :: y127 :: y128 :: y129 :: y130 :: y131 :: y132 :: y133 :: y134 :: y135 :: y136 :: y137 :: y138 :: y139 :: y140 :: y141 :: y142 :: y143 :: y144 :: y145 :: y146 :: y147 :: y148 :: y149 :: y150 :: y151 :: y152 :: y153 :: y154 :: y155 :: y156 :: y157 :: y158 :: y159 :: y160 :: y161 :: y162 :: y163 :: y164 :: y165 :: y166 :: y167 :: [])), []⟩ [.code (dropSeq 2 (blkIn (fstSeq (dropSeq 1 (loopIn (dropSeq 1 (fstSeq (dropSeq 7 (Tryz.f5.body.getD .skip))))))))), .inBlock 1, .code (dropSeq 2 (loopIn (dropSeq 1 (fstSeq (dropSeq 7 (Tryz.f5.body.getD .skip)))))), .inLoop (loopIn (dropSeq 1 (fstSeq (dropSeq 7 (Tryz.f5.body.getD .skip))))), .inBlock 0, .code (dropSeq 8 (Tryz.f5.body.getD .skip))]) []) w0 := by
  have F := fut0 (P := Tryz.prog) (Post := Post) (wI := wI) (l := l) N3
  obtain ⟨hl1, hl3, hl4, hc0, hc1, ho0, ho1, ho2, ho3, tat, bt, ch, hsz, hlB⟩ := id H
  have hok : ∀ (b o : Nat), o ≠ 5 → o ≠ 6 → OkS wI.heap.size l [] ⟨b, o, none⟩ false := fun b o h5 h6 => ok_rd h5 h6
  have k1 := hok nL 1 (by decide) (by decide)
  have k3 := hok nL 3 (by decide) (by decide)
  have k4 := hok nL 4 (by decide) (by decide)
  have k5 := hok nC 0 (by decide) (by decide)
  have k6 := hok nC 1 (by decide) (by decide)
  have k7 := hok nO 0 (by decide) (by decide)
  have k8 := hok nO 1 (by decide) (by decide)
  have k9 := hok nO 2 (by decide) (by decide)
  have k10 := hok nO 3 (by decide) (by decide)
  have hfr : ∀ (b : Addr) (wr : Bool), w0.heap.size ≤ b.block → OkS wI.heap.size l [] b wr := fun b wr h => ok_fr (N := w0.heap.size) (fun B hB => (hlB B hB).2) hsz h (by simp) wr
  have k11 := hok nU 0 (by decide) (by decide)
  have k12 := hok nU 1 (by decide) (by decide)
  have k13 := hok nU 2 (by decide) (by decide)
  replace ho1 : w0.cell? ⟨nO, 1, none⟩ = some (.int .i64 (2)) := ho1
  replace ho2 : w0.cell? ⟨nO, 2, none⟩ = some (.int .i64 0) := ho2
  obtain ⟨g, rfl, hq, hgl, hch⟩ := ch (.inr rfl)
  replace hq : q = 1 := hq
  subst hq
  have hg0 : w0.cell? ⟨g, 0, none⟩ = some (.int .i64 2) := hch 0 _ rfl
  have kg0 : OkS wI.heap.size l [] ⟨g, 0, none⟩ false := ok_rdb hgl
  unfold blkIn fstSeq dropSeq loopIn
  refine F.sq ?_
  refine F.sr ?_
  simp only [rg, Nat.reduceAdd]
  refine F.oq rfl rfl rfl (by simp [go_sem]) fun d K h => ?_; go_simp; refine h _ ?_; clear h K d; try walk_nrm
  refine F.ol rfl rfl rfl fun d K h => ?_; go_simp; refine h _ (fun e m => ?_) ?_; simp [go_sem, *] at m; subst m; exact evr (w := w0) (by assumption) (by first | assumption | (apply hfr <;> dsimp only <;> omega) | (apply hok; simp)); clear h K d; try walk_nrm
  refine F.oq rfl rfl rfl (by simp [go_sem]) fun d K h => ?_; go_simp; refine h _ ?_; clear h K d; try walk_nrm
  refine F.re ?_
  refine F.ct rfl ?_
  refine F.sr ?_
  simp only [rg, Nat.reduceAdd]
  refine F.oq rfl rfl rfl (by simp [go_sem]) fun d K h => ?_; go_simp; refine h _ ?_; clear h K d; try walk_nrm
  refine F.ol rfl rfl rfl fun d K h => ?_; go_simp; refine h _ (fun e m => ?_) ?_; simp [go_sem, *] at m; subst m; exact evr (w := w0) (by assumption) (by first | assumption | (apply hfr <;> dsimp only <;> omega) | (apply hok; simp)); clear h K d; try walk_nrm
  iterate 4 (refine F.oq rfl rfl rfl (by simp [go_sem]) fun d K h => ?_; go_simp; refine h _ ?_; clear h K d; try walk_nrm)
  refine F.ol rfl rfl rfl fun d K h => ?_; go_simp; refine h _ (fun e m => ?_) ?_; simp [go_sem, *] at m; subst m; exact evr (w := w0) (by assumption) (by first | assumption | (apply hfr <;> dsimp only <;> omega) | (apply hok; simp)); clear h K d; try walk_nrm
  iterate 2 (refine F.oq rfl rfl rfl (by simp [go_sem]) fun d K h => ?_; go_simp; refine h _ ?_; clear h K d; try walk_nrm)
  refine F.unwanted rfl rfl ?_
  try walk_nrm
  refine F.unwanted rfl rfl ?_
  try walk_nrm
  refine F.unwanted rfl rfl ?_
  try walk_nrm
  refine F.unwanted rfl rfl ?_
  try walk_nrm
  refine F.unwanted rfl rfl ?_
  try walk_nrm
  refine F.unwanted rfl rfl ?_
  try walk_nrm
  refine F.unwanted rfl rfl ?_
  try walk_nrm
  refine F.unwanted rfl rfl ?_
  try walk_nrm
  refine F.unwanted rfl rfl ?_
  try walk_nrm
  refine F.unwanted rfl rfl ?_
  try walk_nrm
  iterate 3 (refine F.oq rfl rfl rfl (by simp [go_sem]) fun d K h => ?_; go_simp; refine h _ ?_; clear h K d; try walk_nrm)
  refine F.es ?_
  refine F.sr ?_
  simp only [rg, Nat.reduceAdd]
  refine F.oq rfl rfl rfl (by simp [go_sem]) fun d K h => ?_; go_simp; refine h _ ?_; clear h K d; try walk_nrm
  refine F.ol rfl rfl rfl fun d K h => ?_; go_simp; refine h _ (fun e m => ?_) ?_; simp [go_sem, *] at m; subst m; exact evr (w := w0) (by assumption) (by first | assumption | (apply hfr <;> dsimp only <;> omega) | (apply hok; simp)); clear h K d; try walk_nrm
  refine F.oq rfl rfl rfl (by simp [go_sem]) fun d K h => ?_; go_simp; refine h _ ?_; clear h K d; try walk_nrm
  refine F.re ?_
  refine F.ct rfl ?_
  refine F.sr ?_
  simp only [rg, Nat.reduceAdd]
  iterate 3 (refine F.oq rfl rfl rfl (by simp [go_sem]) fun d K h => ?_; go_simp; refine h _ ?_; clear h K d; try walk_nrm)
  refine F.ol rfl rfl rfl fun d K h => ?_; go_simp; refine h _ (fun e m => ?_) ?_; simp [go_sem, *] at m; subst m; exact evr (w := w0) (by assumption) (by first | assumption | (apply hfr <;> dsimp only <;> omega) | (apply hok; simp)); clear h K d; try walk_nrm
  iterate 4 (refine F.oq rfl rfl rfl (by simp [go_sem]) fun d K h => ?_; go_simp; refine h _ ?_; clear h K d; try walk_nrm)
  refine F.ol rfl rfl rfl fun d K h => ?_; go_simp; refine h _ (fun e m => ?_) ?_; simp [go_sem, *] at m; subst m; exact evr (w := w0) (by assumption) (by first | assumption | (apply hfr <;> dsimp only <;> omega) | (apply hok; simp)); clear h K d; try walk_nrm
  iterate 5 (refine F.oq rfl rfl rfl (by simp [go_sem]) fun d K h => ?_; go_simp; refine h _ ?_; clear h K d; try walk_nrm)
  refine F.ol rfl rfl rfl fun d K h => ?_; go_simp; refine h _ (fun e m => ?_) ?_; simp [go_sem, *] at m; subst m; exact evr (w := w0) (by assumption) (by first | assumption | (apply hfr <;> dsimp only <;> omega) | (apply hok; simp)); clear h K d; try walk_nrm
  iterate 2 (refine F.oq rfl rfl rfl (by simp [go_sem]) fun d K h => ?_; go_simp; refine h _ ?_; clear h K d; try walk_nrm)
  refine F.ol rfl rfl rfl fun d K h => ?_; go_simp; refine h _ (fun e m => ?_) ?_; simp [go_sem, *] at m; subst m; exact evr (w := w0) (by assumption) (by first | assumption | (apply hfr <;> dsimp only <;> omega) | (apply hok; simp)); clear h K d; try walk_nrm
  iterate 3 (refine F.oq rfl rfl rfl (by simp [go_sem]) fun d K h => ?_; go_simp; refine h _ ?_; clear h K d; try walk_nrm)
  refine F.re ?_
  refine F.ctl (fun _ => stepG_ret') ?_
  exact law_says hpost (resultsC_tmp (t := 4) (by rfl) _) rfl
end

end Go.Proofs.YtobagnjnbmgidaaGreatDoor
