/- A drawn region that turns no memory. -/
import Derived.Test.YtobagnjnbmgidaaGreatDoorX8
import Derived.Test.YtobagnjnbmgidaaGreatDoorV8
set_option linter.unusedSimpArgs false
set_option linter.unusedVariables false
set_option maxHeartbeats 8000000
set_option maxRecDepth 100000
namespace Go.Proofs.YtobagnjnbmgidaaGreatDoor
section
open Go.Conc Go.RowKit

def allB (v : Bool) (b : Nat → Bool) : List Nat → Prop
  | [] => True
  | j :: l => b j = v ∧ allB v b l
theorem allB_of {v : Bool} {b : Nat → Bool} : ∀ (l : List Nat), (∀ j, j ∈ l → b j = v) → allB v b l
  | [], _ => trivial
  | j :: l, h => ⟨h j (List.mem_cons_self ..), allB_of l fun x hx => h x (List.mem_cons_of_mem _ hx)⟩
theorem ds : (∀ (b : Nat → Bool) (i j : Nat), tick b i j = if j = i then true else b j) ∧ (∀ x y : Value, sel true x y = x) ∧ (∀ x y : Value, sel false x y = y) ∧ ((0 = 1) = False) ∧ ((1 = 0) = False) := ⟨fun _ _ _ => rfl, fun _ _ => rfl, fun _ _ => rfl, by simp, by simp⟩

theorem Fut.drawS {P : Program} {main : Bool} {D : World → World → Array Event → Prop} {Ψ : Goroutine → World → Prop} {fr : Frame} {k : List Item} {cs : List Frame} {ops : Array Oper} {id : Nat} {a : Act} {w : World} (F : Fut P main D Ψ) (hm : P.follows .mixedOrders = true)
    {n : Nat} (Dp : List (List Nat)) (hn : ops.size = n) (hD : depsOk ops Dp = true) (st : (Nat → Bool) → Act) (h0 : st (fun _ => false) = a)
    (hstep : ∀ i, 0 ≤ i → i < n → ∀ (b : Nat → Bool), allB true b (Dp.getD i []) → b i = false → ∀ rest, Ψ (G (fr.at (st (tick b i)) (.inRegion ops rest :: k)) cs) w → Ψ (G (fr.at (st b) (.inRegion ops (i :: rest) :: k)) cs) w)
    (hend : ∀ b : Nat → Bool, allB true b (List.range n) → Ψ (G (fr.at (st b) (.inRegion ops [] :: k)) cs) w) :
    Ψ (G (fr.at a (.code (.region id ops true) :: k)) cs) w := by
  refine F.drawf hm Dp hn hD (fun b a' w' => a' = st b ∧ w' = w) ⟨h0.symm, rfl⟩ (fun i h1 h2 b a' w' hI hcl hbi hdp rest _ hk => ?_) (fun b a' w' hI hall => ?_)
  · obtain ⟨rfl, rfl⟩ := hI
    exact hstep i h1 h2 b (allB_of _ fun j hj => hdp j hj) hbi rest (hk _ _ ⟨rfl, rfl⟩)
  · obtain ⟨rfl, rfl⟩ := hI
    exact hend b (allB_of _ fun j hj => hall j (List.mem_range.1 hj))
end
section
open Go.Conc Go.RowKit

def blkIn : Code → Code
  | .block _ b => b
  | c => c
variable {Ok : Addr → Bool → Prop} {Ψ : Goroutine → World → Prop}

theorem stepV (F : Fut Tryz.prog true (DX Ok) Ψ) (pb po n cap k nR nU nO : Nat) (st k1 k2 kd wv : Int) {y1 y10 y11 y12 y13 y14 y15 y16 y17 y18 y19 y20 y21 y22 y23 y24 y25 y26 y27 y28 y29 y30 y31 y32 y33 y34 y35 y36 y37 y38 y39 y40 y41 y42 y43 y44 y45 y46 y47 y48 y49 y50 y51 y52 y53 y54 y55 y56 y57 y58 y59 y60 y61 y62 y63 y64 y65 y66 y67 y68 y69 y70 y71 y72 y73 y74 y75 y76 y77 y78 y79 y80 y81 y82 y83 y84 y85 y86 y87 y88 y89 y90 y91 y92 y93 y94 y95 y96 y97 y98 y99 y100 y101 y102 y103 y104 y105 y106 y107 y108 y109 y110 y111 y112 y113 y114 y115 y116 : Value} (w0 : World) (hk' : (k : Int) < (n : Int)) (hk0 : (0 : Int) ≤ (k : Int)) (hwk : IntKind.i64.wrap ((k : Int) + 1) = (k : Int) + 1) (hws : IntKind.i64.wrap (st + k2) = st + k2) (okr : ∀ (b o : Nat), o ≠ 5 → o ≠ 6 → Ok ⟨b, o, none⟩ false) (hrb : ∀ a : Addr, a.block = pb → Ok a false)
    (hC : w0.cell? ⟨pb, po + k * 2, none⟩ = some (.int .i64 st)) (u0 : w0.cell? ⟨nU, 0, none⟩ = some (.int .i64 kd)) (u1 : w0.cell? ⟨nU, 1, none⟩ = some (.int .i64 k1)) (u2 : w0.cell? ⟨nU, 2, none⟩ = some (.int .i64 k2)) (o0 : w0.cell? ⟨nO, 0, none⟩ = some (.int .i64 (st + k2))) (o1 : w0.cell? ⟨nO, 1, none⟩ = some (.int .i64 wv)) (hwv : (wv != 2) = true) (hwv2 : (wv == 2) = false) (o2 : w0.cell? ⟨nO, 2, none⟩ = some (.int .i64 k1))
    (hnext : ∀ z1 z7 z8 z9 z10 z11 z12 z13 z14 z15 z16 z17 z18 z19 z20 z21 z22 z23 z24 z25 z26 z27 z28 z29 z30 z31 z32 z33 z34 z35 z36 z37 z38 z39 z40 z41 z42 z43 z44 z45 z46 z47 z48 z49 z50 z51 z52 z53 z54 z55 z56 z57 z58 z59 z60 z61 z62 z63 z64 z65 z66 z67 z68 z69 z70 z71 z72 z73 z74 z75 z76 z77 z78 z79 z80 z81 z82 z83 z84 z85 z86 z87 z88 z89 z90 z91 z92 z93 z94 z95 z96 z97 z98 z99 z100 z101 z102 z103 z104 z105 z106 z107 z108 z109 z110 z111 z112 z113 z114 z115 z116 : Value, Ψ (G ((base 4).at ⟨List.toArray (.slice (some ⟨pb, po, none⟩) n cap :: z1 :: .bool false :: .pointer (some ⟨nR, 0, none⟩) :: .bool true :: .bool true :: .int .i64 ((k : Int) + 1) :: z7 :: z8 :: z9 :: z10 :: z11 :: z12 :: z13 :: z14 :: z15 :: z16 :: z17 :: z18 :: z19 :: z20 :: z21 :: z22 :: z23 :: z24 :: z25 :: z26 :: z27 :: z28 :: z29 :: z30 :: z31 :: z32 :: z33 :: z34 :: z35 :: z36 :: z37 :: z38 :: z39 :: z40 :: z41 :: z42 :: z43 :: z44 :: z45 :: z46 :: z47 :: z48 :: z49 :: z50 :: z51 :: z52 :: z53 :: z54 :: z55 :: z56 :: z57 :: z58 :: z59 :: z60 :: z61 :: z62 :: z63 :: z64 :: z65 :: z66 :: z67 :: z68 :: z69 :: z70 :: z71 :: z72 :: z73 :: z74 :: z75 :: z76 :: z77 :: z78 :: z79 :: z80 :: z81 :: z82 :: z83 :: z84 :: z85 :: z86 :: z87 :: z88 :: z89 :: z90 :: z91 :: z92 :: z93 :: z94 :: z95 :: z96 :: z97 :: z98 :: z99 :: z100 :: z101 :: z102 :: z103 :: z104 :: z105 :: z106 :: z107 :: z108 :: z109 :: z110 :: z111 :: z112 :: z113 :: z114 :: z115 :: z116 :: []), []⟩ [.code (loopIn (dropSeq 1 (fstSeq (dropSeq 3 (Tryz.f4.body.getD .skip))))), .inLoop (loopIn (dropSeq 1 (fstSeq (dropSeq 3 (Tryz.f4.body.getD .skip))))), .inBlock 0, .code (dropSeq 4 (Tryz.f4.body.getD .skip))]) []) w0) :
    Ψ (G ((base 4).at ⟨List.toArray (.slice (some ⟨pb, po, none⟩) n cap :: y1 :: .bool false :: .pointer (some ⟨nR, 0, none⟩) :: .bool true :: .bool true :: .int .i64 (k : Int) :: .pointer (some ⟨nU, 0, none⟩) :: .pointer (some ⟨nO, 0, none⟩) :: .int .i64 wv :: y10 :: y11 :: y12 :: y13 :: y14 :: y15 :: y16 :: y17 :: y18 :: y19 :: y20 :: y21 :: y22 :: y23 :: y24 :: y25 :: y26 :: y27 :: y28 :: y29 :: y30 :: y31 :: y32 :: y33 :: y34 :: y35 :: y36 :: y37 :: y38 :: y39 :: y40 :: y41 :: y42 :: y43 :: y44 :: y45 :: y46 :: y47 :: y48 :: y49 :: y50 :: y51 :: y52 :: y53 :: y54 :: y55 :: y56 :: y57 :: y58 :: y59 :: y60 :: y61 :: y62 :: y63 :: y64 :: y65 :: y66 :: y67 :: y68 :: y69 :: y70 :: y71 :: y72 :: y73 :: y74 :: y75 :: y76 :: y77 :: y78 :: y79 :: y80 :: y81 :: y82 :: y83 :: y84 :: y85 :: y86 :: y87 :: y88 :: y89 :: y90 :: y91 :: y92 :: y93 :: y94 :: y95 :: y96 :: y97 :: y98 :: y99 :: y100 :: y101 :: y102 :: y103 :: y104 :: y105 :: y106 :: y107 :: y108 :: y109 :: y110 :: y111 :: y112 :: y113 :: y114 :: y115 :: y116 :: []), []⟩ [.code (dropSeq 4 (blkIn (fstSeq (dropSeq 1 (loopIn (dropSeq 1 (fstSeq (dropSeq 3 (Tryz.f4.body.getD .skip))))))))), .inBlock 1, .code (dropSeq 2 (loopIn (dropSeq 1 (fstSeq (dropSeq 3 (Tryz.f4.body.getD .skip)))))), .inLoop (loopIn (dropSeq 1 (fstSeq (dropSeq 3 (Tryz.f4.body.getD .skip))))), .inBlock 0, .code (dropSeq 4 (Tryz.f4.body.getD .skip))]) []) w0 := by
  have a1 := addN pb po (k * 2); have q0 := okr nU 0 (by decide) (by decide); have q1 := okr nU 1 (by decide) (by decide); have q2 := okr nU 2 (by decide) (by decide); have p0 := okr nO 0 (by decide) (by decide); have p1 := okr nO 1 (by decide) (by decide); have p2 := okr nO 2 (by decide) (by decide); have p3 := okr nO 3 (by decide) (by decide); unfold loopIn fstSeq blkIn dropSeq; refine F.sq ?_; refine F.sq ?_; refine F.drawS (n := 28) mixed [[],[0],[],[],[2,3],[4],[5],[],[7],[6,8],[1,9],[10],[11],[11,12],[11],[11,13,14],[11,15],[11,16],[17],[17,18],[17,19],[20],[20,21],[20],[20,23],[20,22,24],[17,20,25],[17,26]] rfl (by kernel_rfl) (fun b => ⟨List.toArray (.slice (some ⟨pb, po, none⟩) n cap :: y1 :: .bool false :: .pointer (some ⟨nR, 0, none⟩) :: .bool true :: .bool true :: .int .i64 (k : Int) :: .pointer (some ⟨nU, 0, none⟩) :: .pointer (some ⟨nO, 0, none⟩) :: .int .i64 wv :: y10 :: y11 :: y12 :: y13 :: y14 :: y15 :: y16 :: y17 :: y18 :: y19 :: y20 :: y21 :: y22 :: y23 :: y24 :: y25 :: y26 :: y27 :: y28 :: y29 :: y30 :: y31 :: y32 :: y33 :: y34 :: y35 :: y36 :: y37 :: y38 :: y39 :: y40 :: y41 :: sel (b 0) (.pointer (some ⟨nO, 0, none⟩)) (y42) :: sel (b 1) (.int .i64 (st + k2)) (y43) :: sel (b 2) (.slice (some ⟨pb, po, none⟩) n cap) (y44) :: sel (b 3) (.int .i64 (k : Int)) (y45) :: sel (b 4) (.pointer (some ⟨pb, po + k * 2, none⟩)) (y46) :: sel (b 5) (.pointer (some ⟨pb, po + k * 2, none⟩)) (y47) :: sel (b 6) (.int .i64 st) (y48) :: sel (b 7) (.pointer (some ⟨nU, 2, none⟩)) (y49) :: sel (b 8) (.int .i64 k2) (y50) :: sel (b 9) (.int .i64 (st + k2)) (y51) :: sel (b 10) (.bool false) (y52) :: sel (b 11) (.bool false) (y53) :: sel (b 12) (.pointer (some ⟨nO, 1, none⟩)) (y54) :: sel (b 13) (.int .i64 wv) (y55) :: sel (b 14) (.int .i64 wv) (y56) :: sel (b 15) (.bool false) (y57) :: sel (b 16) (.bool false) (y58) :: sel (b 17) (.bool false) (y59) :: sel (b 18) (.int .i64 wv) (y60) :: sel (b 19) (.bool true) (y61) :: sel (b 20) (.bool true) (y62) :: sel (b 21) (.pointer (some ⟨nO, 2, none⟩)) (y63) :: sel (b 22) (.int .i64 k1) (y64) :: sel (b 23) (.pointer (some ⟨nU, 1, none⟩)) (y65) :: sel (b 24) (.int .i64 k1) (y66) :: sel (b 25) (.bool false) (y67) :: sel (b 26) (.bool false) (y68) :: sel (b 27) (.bool false) (y69) :: y70 :: y71 :: y72 :: y73 :: y74 :: y75 :: y76 :: y77 :: y78 :: y79 :: y80 :: y81 :: y82 :: y83 :: y84 :: y85 :: y86 :: y87 :: y88 :: y89 :: y90 :: y91 :: y92 :: y93 :: y94 :: y95 :: y96 :: y97 :: y98 :: y99 :: y100 :: y101 :: y102 :: y103 :: y104 :: y105 :: y106 :: y107 :: y108 :: y109 :: y110 :: y111 :: y112 :: y113 :: y114 :: y115 :: y116 :: []), []⟩) rfl (all_cons ?_ (all_cons ?_ (all_cons ?_ (all_cons ?_ (all_cons ?_ (all_cons ?_ (all_cons ?_ (all_cons ?_ (all_cons ?_ (all_cons ?_ (all_cons ?_ (all_cons ?_ (all_cons ?_ (all_cons ?_ (all_cons ?_ (all_cons ?_ (all_cons ?_ (all_cons ?_ (all_cons ?_ (all_cons ?_ (all_cons ?_ (all_cons ?_ (all_cons ?_ (all_cons ?_ (all_cons ?_ (all_cons ?_ (all_cons ?_ (all_cons ?_ (all_nil))))))))))))))))))))))))))))) ?_
  · refine fun b (hA : allB true b []) (hb : b 0 = false) r hk => ?_
    simp only [allB] at hA; simp only [hA, hb, ds, Nat.reduceEqDiff, reduceIte] at hk ⊢; refine F.oq rfl rfl rfl (by simp [go_sem]) fun d K h => ?_; go_simp; refine h _ ?_; clear h K d; try walk_nrm
    exact hk
  · refine fun b (hA : allB true b [0]) (hb : b 1 = false) r hk => ?_
    simp only [allB] at hA; simp only [hA, hb, ds, Nat.reduceEqDiff, reduceIte] at hk ⊢; refine F.ol rfl rfl rfl fun d K h => ?_; go_simp; refine h _ (fun e m => ?_) ?_; simp [go_sem, *] at m; subst m; exact evr (w := w0) (by assumption) (by first | assumption | exact hrb _ rfl | (apply hfr <;> dsimp only <;> omega)); clear h K d; try walk_nrm
    exact hk
  · refine fun b (hA : allB true b []) (hb : b 2 = false) r hk => ?_
    simp only [allB] at hA; simp only [hA, hb, ds, Nat.reduceEqDiff, reduceIte] at hk ⊢; refine F.oq rfl rfl rfl (by simp [go_sem]) fun d K h => ?_; go_simp; refine h _ ?_; clear h K d; try walk_nrm
    exact hk
  · refine fun b (hA : allB true b []) (hb : b 3 = false) r hk => ?_
    simp only [allB] at hA; simp only [hA, hb, ds, Nat.reduceEqDiff, reduceIte] at hk ⊢; refine F.oq rfl rfl rfl (by simp [go_sem]) fun d K h => ?_; go_simp; refine h _ ?_; clear h K d; try walk_nrm
    exact hk
  · refine fun b (hA : allB true b [2,3]) (hb : b 4 = false) r hk => ?_
    simp only [allB] at hA; simp only [hA, hb, ds, Nat.reduceEqDiff, reduceIte] at hk ⊢; refine F.oq rfl rfl rfl (fun _ => by first | (simp [go_sem]; done) | simp [go_sem, Instr.makeInterface, Instr.makeFunc, *]) fun d K hK => ?_; go_simp; refine hK _ ?_; clear hK K d; try walk_nrm
    exact hk
  · refine fun b (hA : allB true b [4]) (hb : b 5 = false) r hk => ?_
    simp only [allB] at hA; simp only [hA, hb, ds, Nat.reduceEqDiff, reduceIte] at hk ⊢; refine F.oq rfl rfl rfl (by simp [go_sem]) fun d K h => ?_; go_simp; refine h _ ?_; clear h K d; try walk_nrm
    exact hk
  · refine fun b (hA : allB true b [5]) (hb : b 6 = false) r hk => ?_
    simp only [allB] at hA; simp only [hA, hb, ds, Nat.reduceEqDiff, reduceIte] at hk ⊢; refine F.ol rfl rfl rfl fun d K h => ?_; go_simp; refine h _ (fun e m => ?_) ?_; simp [go_sem, *] at m; subst m; exact evr (w := w0) (by assumption) (by first | assumption | exact hrb _ rfl | (apply hfr <;> dsimp only <;> omega)); clear h K d; try walk_nrm
    exact hk
  · refine fun b (hA : allB true b []) (hb : b 7 = false) r hk => ?_
    simp only [allB] at hA; simp only [hA, hb, ds, Nat.reduceEqDiff, reduceIte] at hk ⊢; refine F.oq rfl rfl rfl (by simp [go_sem]) fun d K h => ?_; go_simp; refine h _ ?_; clear h K d; try walk_nrm
    exact hk
  · refine fun b (hA : allB true b [7]) (hb : b 8 = false) r hk => ?_
    simp only [allB] at hA; simp only [hA, hb, ds, Nat.reduceEqDiff, reduceIte] at hk ⊢; refine F.ol rfl rfl rfl fun d K h => ?_; go_simp; refine h _ (fun e m => ?_) ?_; simp [go_sem, *] at m; subst m; exact evr (w := w0) (by assumption) (by first | assumption | exact hrb _ rfl | (apply hfr <;> dsimp only <;> omega)); clear h K d; try walk_nrm
    exact hk
  · refine fun b (hA : allB true b [6,8]) (hb : b 9 = false) r hk => ?_
    simp only [allB] at hA; simp only [hA, hb, ds, Nat.reduceEqDiff, reduceIte] at hk ⊢; refine F.oq rfl rfl rfl (by simp [go_sem]) fun d K h => ?_; go_simp; refine h _ ?_; clear h K d; try walk_nrm
    exact hk
  · refine fun b (hA : allB true b [1,9]) (hb : b 10 = false) r hk => ?_
    simp only [allB] at hA; simp only [hA, hb, ds, Nat.reduceEqDiff, reduceIte] at hk ⊢; refine F.oq rfl rfl rfl (by simp [go_sem]) fun d K h => ?_; go_simp; refine h _ ?_; clear h K d; try walk_nrm
    exact hk
  · refine fun b (hA : allB true b [10]) (hb : b 11 = false) r hk => ?_
    simp only [allB] at hA; simp only [hA, hb, ds, Nat.reduceEqDiff, reduceIte] at hk ⊢; refine F.oq rfl rfl rfl (by simp [go_sem]) fun d K h => ?_; go_simp; refine h _ ?_; clear h K d; try walk_nrm
    exact hk
  · refine fun b (hA : allB true b [11]) (hb : b 12 = false) r hk => ?_
    simp only [allB] at hA; simp only [hA, hb, ds, Nat.reduceEqDiff, reduceIte] at hk ⊢; refine F.oq rfl rfl rfl (by simp [go_sem]) fun d K h => ?_; go_simp; refine h _ ?_; clear h K d; try walk_nrm
    exact hk
  · refine fun b (hA : allB true b [11,12]) (hb : b 13 = false) r hk => ?_
    simp only [allB] at hA; simp only [hA, hb, ds, Nat.reduceEqDiff, reduceIte] at hk ⊢; refine F.ol rfl rfl rfl fun d K h => ?_; go_simp; refine h _ (fun e m => ?_) ?_; simp [go_sem, *] at m; subst m; exact evr (w := w0) (by assumption) (by first | assumption | exact hrb _ rfl | (apply hfr <;> dsimp only <;> omega)); clear h K d; try walk_nrm
    exact hk
  · refine fun b (hA : allB true b [11]) (hb : b 14 = false) r hk => ?_
    simp only [allB] at hA; simp only [hA, hb, ds, Nat.reduceEqDiff, reduceIte] at hk ⊢; refine F.oq rfl rfl rfl (by simp [go_sem]) fun d K h => ?_; go_simp; refine h _ ?_; clear h K d; try walk_nrm
    exact hk
  · refine fun b (hA : allB true b [11,13,14]) (hb : b 15 = false) r hk => ?_
    simp only [allB] at hA; simp only [hA, hb, ds, Nat.reduceEqDiff, reduceIte] at hk ⊢; refine F.oq rfl rfl rfl (by simp [go_sem]) fun d K h => ?_; go_simp; refine h _ ?_; clear h K d; try walk_nrm
    exact hk
  · refine fun b (hA : allB true b [11,15]) (hb : b 16 = false) r hk => ?_
    simp only [allB] at hA; simp only [hA, hb, ds, Nat.reduceEqDiff, reduceIte] at hk ⊢; refine F.oq rfl rfl rfl (by simp [go_sem]) fun d K h => ?_; go_simp; refine h _ ?_; clear h K d; try walk_nrm
    exact hk
  · refine fun b (hA : allB true b [11,16]) (hb : b 17 = false) r hk => ?_
    simp only [allB] at hA; simp only [hA, hb, ds, Nat.reduceEqDiff, reduceIte] at hk ⊢; refine F.oq rfl rfl rfl (by simp [go_sem]) fun d K h => ?_; go_simp; refine h _ ?_; clear h K d; try walk_nrm
    exact hk
  · refine fun b (hA : allB true b [17]) (hb : b 18 = false) r hk => ?_
    simp only [allB] at hA; simp only [hA, hb, ds, Nat.reduceEqDiff, reduceIte] at hk ⊢; refine F.oq rfl rfl rfl (by simp [go_sem]) fun d K h => ?_; go_simp; refine h _ ?_; clear h K d; try walk_nrm
    exact hk
  · refine fun b (hA : allB true b [17,18]) (hb : b 19 = false) r hk => ?_
    simp only [allB] at hA; simp only [hA, hb, ds, Nat.reduceEqDiff, reduceIte] at hk ⊢; refine F.oq rfl rfl rfl (by simp [go_sem]) fun d K h => ?_; go_simp; refine h _ ?_; clear h K d; try walk_nrm
    exact hk
  · refine fun b (hA : allB true b [17,19]) (hb : b 20 = false) r hk => ?_
    simp only [allB] at hA; simp only [hA, hb, ds, Nat.reduceEqDiff, reduceIte] at hk ⊢; refine F.oq rfl rfl rfl (by simp [go_sem]) fun d K h => ?_; go_simp; refine h _ ?_; clear h K d; try walk_nrm
    exact hk
  · refine fun b (hA : allB true b [20]) (hb : b 21 = false) r hk => ?_
    simp only [allB] at hA; simp only [hA, hb, ds, Nat.reduceEqDiff, reduceIte] at hk ⊢; refine F.oq rfl rfl rfl (by simp [go_sem]) fun d K h => ?_; go_simp; refine h _ ?_; clear h K d; try walk_nrm
    exact hk
  · refine fun b (hA : allB true b [20,21]) (hb : b 22 = false) r hk => ?_
    simp only [allB] at hA; simp only [hA, hb, ds, Nat.reduceEqDiff, reduceIte] at hk ⊢; refine F.ol rfl rfl rfl fun d K h => ?_; go_simp; refine h _ (fun e m => ?_) ?_; simp [go_sem, *] at m; subst m; exact evr (w := w0) (by assumption) (by first | assumption | exact hrb _ rfl | (apply hfr <;> dsimp only <;> omega)); clear h K d; try walk_nrm
    exact hk
  · refine fun b (hA : allB true b [20]) (hb : b 23 = false) r hk => ?_
    simp only [allB] at hA; simp only [hA, hb, ds, Nat.reduceEqDiff, reduceIte] at hk ⊢; refine F.oq rfl rfl rfl (by simp [go_sem]) fun d K h => ?_; go_simp; refine h _ ?_; clear h K d; try walk_nrm
    exact hk
  · refine fun b (hA : allB true b [20,23]) (hb : b 24 = false) r hk => ?_
    simp only [allB] at hA; simp only [hA, hb, ds, Nat.reduceEqDiff, reduceIte] at hk ⊢; refine F.ol rfl rfl rfl fun d K h => ?_; go_simp; refine h _ (fun e m => ?_) ?_; simp [go_sem, *] at m; subst m; exact evr (w := w0) (by assumption) (by first | assumption | exact hrb _ rfl | (apply hfr <;> dsimp only <;> omega)); clear h K d; try walk_nrm
    exact hk
  · refine fun b (hA : allB true b [20,22,24]) (hb : b 25 = false) r hk => ?_
    simp only [allB] at hA; simp only [hA, hb, ds, Nat.reduceEqDiff, reduceIte] at hk ⊢; refine F.oq rfl rfl rfl (by simp [go_sem]) fun d K h => ?_; go_simp; refine h _ ?_; clear h K d; try walk_nrm
    exact hk
  · refine fun b (hA : allB true b [17,20,25]) (hb : b 26 = false) r hk => ?_
    simp only [allB] at hA; simp only [hA, hb, ds, Nat.reduceEqDiff, reduceIte] at hk ⊢; refine F.oq rfl rfl rfl (by simp [go_sem]) fun d K h => ?_; go_simp; refine h _ ?_; clear h K d; try walk_nrm
    exact hk
  · refine fun b (hA : allB true b [17,26]) (hb : b 27 = false) r hk => ?_
    simp only [allB] at hA; simp only [hA, hb, ds, Nat.reduceEqDiff, reduceIte] at hk ⊢; refine F.oq rfl rfl rfl (by simp [go_sem]) fun d K h => ?_; go_simp; refine h _ ?_; clear h K d; try walk_nrm
    exact hk
  intro b hall; replace hall : allB true b [0,1,2,3,4,5,6,7,8,9,10,11,12,13,14,15,16,17,18,19,20,21,22,23,24,25,26,27] := hall; simp only [allB] at hall; simp only [hall, ds]; refine F.re ?_; refine F.cf rfl ?_; refine F.sk ?_; refine F.sq ?_; refine F.drawS (n := 37) mixed [[],[0],[1],[2],[2,3],[2,4],[2,5],[2,6],[7],[7,8],[7,9],[7,10],[7,11],[7],[7,13],[7,12,14],[2,7,15],[2,7,16],[17],[17,18],[17,19],[17,20],[17,21],[17,22],[2,17,23],[2,17,24],[25],[25,26],[25,27],[25,28],[25,29],[25],[25,31],[25,32],[25,30,33],[2,25,34],[2,35]] rfl (by kernel_rfl) (fun b => ⟨List.toArray (.slice (some ⟨pb, po, none⟩) n cap :: y1 :: .bool false :: .pointer (some ⟨nR, 0, none⟩) :: .bool true :: .bool true :: .int .i64 (k : Int) :: .pointer (some ⟨nU, 0, none⟩) :: .pointer (some ⟨nO, 0, none⟩) :: .int .i64 wv :: y10 :: y11 :: y12 :: y13 :: y14 :: y15 :: y16 :: y17 :: y18 :: y19 :: y20 :: y21 :: y22 :: y23 :: y24 :: y25 :: y26 :: y27 :: y28 :: y29 :: y30 :: y31 :: y32 :: y33 :: y34 :: y35 :: y36 :: y37 :: y38 :: y39 :: y40 :: y41 :: .pointer (some ⟨nO, 0, none⟩) :: .int .i64 (st + k2) :: .slice (some ⟨pb, po, none⟩) n cap :: .int .i64 (k : Int) :: .pointer (some ⟨pb, po + k * 2, none⟩) :: .pointer (some ⟨pb, po + k * 2, none⟩) :: .int .i64 st :: .pointer (some ⟨nU, 2, none⟩) :: .int .i64 k2 :: .int .i64 (st + k2) :: .bool false :: .bool false :: .pointer (some ⟨nO, 1, none⟩) :: .int .i64 wv :: .int .i64 wv :: .bool false :: .bool false :: .bool false :: .int .i64 wv :: .bool true :: .bool true :: .pointer (some ⟨nO, 2, none⟩) :: .int .i64 k1 :: .pointer (some ⟨nU, 1, none⟩) :: .int .i64 k1 :: .bool false :: .bool false :: .bool false :: sel (b 0) (.int .i64 wv) (y70) :: sel (b 1) (.bool false) (y71) :: sel (b 2) (.bool false) (y72) :: sel (b 3) (undef) (y73) :: sel (b 4) (undef) (y74) :: sel (b 5) (undef) (y75) :: sel (b 6) (undef) (y76) :: sel (b 7) (undef) (y77) :: sel (b 8) (undef) (y78) :: sel (b 9) (undef) (y79) :: sel (b 10) (undef) (y80) :: sel (b 11) (undef) (y81) :: sel (b 12) (undef) (y82) :: sel (b 13) (undef) (y83) :: sel (b 14) (undef) (y84) :: sel (b 15) (undef) (y85) :: sel (b 16) (undef) (y86) :: sel (b 17) (undef) (y87) :: sel (b 18) (undef) (y88) :: sel (b 19) (undef) (y89) :: sel (b 20) (undef) (y90) :: sel (b 21) (undef) (y91) :: sel (b 22) (undef) (y92) :: sel (b 23) (undef) (y93) :: sel (b 24) (undef) (y94) :: sel (b 25) (undef) (y95) :: sel (b 26) (undef) (y96) :: sel (b 27) (undef) (y97) :: sel (b 28) (undef) (y98) :: sel (b 29) (undef) (y99) :: sel (b 30) (undef) (y100) :: sel (b 31) (undef) (y101) :: sel (b 32) (undef) (y102) :: sel (b 33) (undef) (y103) :: sel (b 34) (undef) (y104) :: sel (b 35) (undef) (y105) :: sel (b 36) (.bool false) (y106) :: y107 :: y108 :: y109 :: y110 :: y111 :: y112 :: y113 :: y114 :: y115 :: y116 :: []), []⟩) rfl (all_cons ?_ (all_cons ?_ (all_cons ?_ (all_cons ?_ (all_cons ?_ (all_cons ?_ (all_cons ?_ (all_cons ?_ (all_cons ?_ (all_cons ?_ (all_cons ?_ (all_cons ?_ (all_cons ?_ (all_cons ?_ (all_cons ?_ (all_cons ?_ (all_cons ?_ (all_cons ?_ (all_cons ?_ (all_cons ?_ (all_cons ?_ (all_cons ?_ (all_cons ?_ (all_cons ?_ (all_cons ?_ (all_cons ?_ (all_cons ?_ (all_cons ?_ (all_cons ?_ (all_cons ?_ (all_cons ?_ (all_cons ?_ (all_cons ?_ (all_cons ?_ (all_cons ?_ (all_cons ?_ (all_cons ?_ (all_nil)))))))))))))))))))))))))))))))))))))) ?_
  · refine fun b (hA : allB true b []) (hb : b 0 = false) r hk => ?_
    simp only [allB] at hA; simp only [hA, hb, ds, Nat.reduceEqDiff, reduceIte] at hk ⊢; refine F.oq rfl rfl rfl (by simp [go_sem]) fun d K h => ?_; go_simp; refine h _ ?_; clear h K d; try walk_nrm
    exact hk
  · refine fun b (hA : allB true b [0]) (hb : b 1 = false) r hk => ?_
    simp only [allB] at hA; simp only [hA, hb, ds, Nat.reduceEqDiff, reduceIte] at hk ⊢; refine F.oq rfl rfl rfl (by simp [go_sem]) fun d K h => ?_; go_simp; refine h _ ?_; clear h K d; try walk_nrm
    exact hk
  · refine fun b (hA : allB true b [1]) (hb : b 2 = false) r hk => ?_
    simp only [allB] at hA; simp only [hA, hb, ds, Nat.reduceEqDiff, reduceIte] at hk ⊢; refine F.oq rfl rfl rfl (by simp [go_sem]) fun d K h => ?_; go_simp; refine h _ ?_; clear h K d; try walk_nrm
    exact hk
  · refine fun b (hA : allB true b [2]) (hb : b 3 = false) r hk => ?_
    simp only [allB] at hA; simp only [hA, hb, ds, Nat.reduceEqDiff, reduceIte] at hk ⊢; refine F.unwanted rfl rfl ?_; try walk_nrm
    exact hk
  · refine fun b (hA : allB true b [2,3]) (hb : b 4 = false) r hk => ?_
    simp only [allB] at hA; simp only [hA, hb, ds, Nat.reduceEqDiff, reduceIte] at hk ⊢; refine F.unwanted rfl rfl ?_; try walk_nrm
    exact hk
  · refine fun b (hA : allB true b [2,4]) (hb : b 5 = false) r hk => ?_
    simp only [allB] at hA; simp only [hA, hb, ds, Nat.reduceEqDiff, reduceIte] at hk ⊢; refine F.unwanted rfl rfl ?_; try walk_nrm
    exact hk
  · refine fun b (hA : allB true b [2,5]) (hb : b 6 = false) r hk => ?_
    simp only [allB] at hA; simp only [hA, hb, ds, Nat.reduceEqDiff, reduceIte] at hk ⊢; refine F.unwanted rfl rfl ?_; try walk_nrm
    exact hk
  · refine fun b (hA : allB true b [2,6]) (hb : b 7 = false) r hk => ?_
    simp only [allB] at hA; simp only [hA, hb, ds, Nat.reduceEqDiff, reduceIte] at hk ⊢; refine F.unwanted rfl rfl ?_; try walk_nrm
    exact hk
  · refine fun b (hA : allB true b [7]) (hb : b 8 = false) r hk => ?_
    simp only [allB] at hA; simp only [hA, hb, ds, Nat.reduceEqDiff, reduceIte] at hk ⊢; refine F.unwanted rfl rfl ?_; try walk_nrm
    exact hk
  · refine fun b (hA : allB true b [7,8]) (hb : b 9 = false) r hk => ?_
    simp only [allB] at hA; simp only [hA, hb, ds, Nat.reduceEqDiff, reduceIte] at hk ⊢; refine F.unwanted rfl rfl ?_; try walk_nrm
    exact hk
  · refine fun b (hA : allB true b [7,9]) (hb : b 10 = false) r hk => ?_
    simp only [allB] at hA; simp only [hA, hb, ds, Nat.reduceEqDiff, reduceIte] at hk ⊢; refine F.unwanted rfl rfl ?_; try walk_nrm
    exact hk
  · refine fun b (hA : allB true b [7,10]) (hb : b 11 = false) r hk => ?_
    simp only [allB] at hA; simp only [hA, hb, ds, Nat.reduceEqDiff, reduceIte] at hk ⊢; refine F.unwanted rfl rfl ?_; try walk_nrm
    exact hk
  · refine fun b (hA : allB true b [7,11]) (hb : b 12 = false) r hk => ?_
    simp only [allB] at hA; simp only [hA, hb, ds, Nat.reduceEqDiff, reduceIte] at hk ⊢; refine F.unwanted rfl rfl ?_; try walk_nrm
    exact hk
  · refine fun b (hA : allB true b [7]) (hb : b 13 = false) r hk => ?_
    simp only [allB] at hA; simp only [hA, hb, ds, Nat.reduceEqDiff, reduceIte] at hk ⊢; refine F.unwanted rfl rfl ?_; try walk_nrm
    exact hk
  · refine fun b (hA : allB true b [7,13]) (hb : b 14 = false) r hk => ?_
    simp only [allB] at hA; simp only [hA, hb, ds, Nat.reduceEqDiff, reduceIte] at hk ⊢; refine F.unwanted rfl rfl ?_; try walk_nrm
    exact hk
  · refine fun b (hA : allB true b [7,12,14]) (hb : b 15 = false) r hk => ?_
    simp only [allB] at hA; simp only [hA, hb, ds, Nat.reduceEqDiff, reduceIte] at hk ⊢; refine F.unwanted rfl rfl ?_; try walk_nrm
    exact hk
  · refine fun b (hA : allB true b [2,7,15]) (hb : b 16 = false) r hk => ?_
    simp only [allB] at hA; simp only [hA, hb, ds, Nat.reduceEqDiff, reduceIte] at hk ⊢; refine F.unwanted rfl rfl ?_; try walk_nrm
    exact hk
  · refine fun b (hA : allB true b [2,7,16]) (hb : b 17 = false) r hk => ?_
    simp only [allB] at hA; simp only [hA, hb, ds, Nat.reduceEqDiff, reduceIte] at hk ⊢; refine F.unwanted rfl rfl ?_; try walk_nrm
    exact hk
  · refine fun b (hA : allB true b [17]) (hb : b 18 = false) r hk => ?_
    simp only [allB] at hA; simp only [hA, hb, ds, Nat.reduceEqDiff, reduceIte] at hk ⊢; refine F.unwanted rfl rfl ?_; try walk_nrm
    exact hk
  · refine fun b (hA : allB true b [17,18]) (hb : b 19 = false) r hk => ?_
    simp only [allB] at hA; simp only [hA, hb, ds, Nat.reduceEqDiff, reduceIte] at hk ⊢; refine F.unwanted rfl rfl ?_; try walk_nrm
    exact hk
  · refine fun b (hA : allB true b [17,19]) (hb : b 20 = false) r hk => ?_
    simp only [allB] at hA; simp only [hA, hb, ds, Nat.reduceEqDiff, reduceIte] at hk ⊢; refine F.unwanted rfl rfl ?_; try walk_nrm
    exact hk
  · refine fun b (hA : allB true b [17,20]) (hb : b 21 = false) r hk => ?_
    simp only [allB] at hA; simp only [hA, hb, ds, Nat.reduceEqDiff, reduceIte] at hk ⊢; refine F.unwanted rfl rfl ?_; try walk_nrm
    exact hk
  · refine fun b (hA : allB true b [17,21]) (hb : b 22 = false) r hk => ?_
    simp only [allB] at hA; simp only [hA, hb, ds, Nat.reduceEqDiff, reduceIte] at hk ⊢; refine F.unwanted rfl rfl ?_; try walk_nrm
    exact hk
  · refine fun b (hA : allB true b [17,22]) (hb : b 23 = false) r hk => ?_
    simp only [allB] at hA; simp only [hA, hb, ds, Nat.reduceEqDiff, reduceIte] at hk ⊢; refine F.unwanted rfl rfl ?_; try walk_nrm
    exact hk
  · refine fun b (hA : allB true b [2,17,23]) (hb : b 24 = false) r hk => ?_
    simp only [allB] at hA; simp only [hA, hb, ds, Nat.reduceEqDiff, reduceIte] at hk ⊢; refine F.unwanted rfl rfl ?_; try walk_nrm
    exact hk
  · refine fun b (hA : allB true b [2,17,24]) (hb : b 25 = false) r hk => ?_
    simp only [allB] at hA; simp only [hA, hb, ds, Nat.reduceEqDiff, reduceIte] at hk ⊢; refine F.unwanted rfl rfl ?_; try walk_nrm
    exact hk
  · refine fun b (hA : allB true b [25]) (hb : b 26 = false) r hk => ?_
    simp only [allB] at hA; simp only [hA, hb, ds, Nat.reduceEqDiff, reduceIte] at hk ⊢; refine F.unwanted rfl rfl ?_; try walk_nrm
    exact hk
  · refine fun b (hA : allB true b [25,26]) (hb : b 27 = false) r hk => ?_
    simp only [allB] at hA; simp only [hA, hb, ds, Nat.reduceEqDiff, reduceIte] at hk ⊢; refine F.unwanted rfl rfl ?_; try walk_nrm
    exact hk
  · refine fun b (hA : allB true b [25,27]) (hb : b 28 = false) r hk => ?_
    simp only [allB] at hA; simp only [hA, hb, ds, Nat.reduceEqDiff, reduceIte] at hk ⊢; refine F.unwanted rfl rfl ?_; try walk_nrm
    exact hk
  · refine fun b (hA : allB true b [25,28]) (hb : b 29 = false) r hk => ?_
    simp only [allB] at hA; simp only [hA, hb, ds, Nat.reduceEqDiff, reduceIte] at hk ⊢; refine F.unwanted rfl rfl ?_; try walk_nrm
    exact hk
  · refine fun b (hA : allB true b [25,29]) (hb : b 30 = false) r hk => ?_
    simp only [allB] at hA; simp only [hA, hb, ds, Nat.reduceEqDiff, reduceIte] at hk ⊢; refine F.unwanted rfl rfl ?_; try walk_nrm
    exact hk
  · refine fun b (hA : allB true b [25]) (hb : b 31 = false) r hk => ?_
    simp only [allB] at hA; simp only [hA, hb, ds, Nat.reduceEqDiff, reduceIte] at hk ⊢; refine F.unwanted rfl rfl ?_; try walk_nrm
    exact hk
  · refine fun b (hA : allB true b [25,31]) (hb : b 32 = false) r hk => ?_
    simp only [allB] at hA; simp only [hA, hb, ds, Nat.reduceEqDiff, reduceIte] at hk ⊢; refine F.unwanted rfl rfl ?_; try walk_nrm
    exact hk
  · refine fun b (hA : allB true b [25,32]) (hb : b 33 = false) r hk => ?_
    simp only [allB] at hA; simp only [hA, hb, ds, Nat.reduceEqDiff, reduceIte] at hk ⊢; refine F.unwanted rfl rfl ?_; try walk_nrm
    exact hk
  · refine fun b (hA : allB true b [25,30,33]) (hb : b 34 = false) r hk => ?_
    simp only [allB] at hA; simp only [hA, hb, ds, Nat.reduceEqDiff, reduceIte] at hk ⊢; refine F.unwanted rfl rfl ?_; try walk_nrm
    exact hk
  · refine fun b (hA : allB true b [2,25,34]) (hb : b 35 = false) r hk => ?_
    simp only [allB] at hA; simp only [hA, hb, ds, Nat.reduceEqDiff, reduceIte] at hk ⊢; refine F.unwanted rfl rfl ?_; try walk_nrm
    exact hk
  · refine fun b (hA : allB true b [2,35]) (hb : b 36 = false) r hk => ?_
    simp only [allB] at hA; simp only [hA, hb, ds, Nat.reduceEqDiff, reduceIte] at hk ⊢; refine F.oq rfl rfl rfl (by simp [go_sem]) fun d K h => ?_; go_simp; refine h _ ?_; clear h K d; try walk_nrm
    exact hk
  intro b hall; replace hall : allB true b [0,1,2,3,4,5,6,7,8,9,10,11,12,13,14,15,16,17,18,19,20,21,22,23,24,25,26,27,28,29,30,31,32,33,34,35,36] := hall; simp only [allB] at hall; simp only [hall, ds]; refine F.re ?_; refine F.cf rfl ?_; refine F.sk ?_; refine F.ib ?_; refine F.rr ?_; simp only [rg, Nat.reduceAdd]; iterate 3 (refine F.oq rfl rfl rfl (by simp [go_sem]) fun d K h => ?_; go_simp; refine h _ ?_; clear h K d; try walk_nrm)
  refine F.re ?_; refine F.ctl (fun _ => stepG_inLoop) ?_; exact hnext _ _ _ _ _ _ _ _ _ _ _ _ _ _ _ _ _ _ _ _ _ _ _ _ _ _ _ _ _ _ _ _ _ _ _ _ _ _ _ _ _ _ _ _ _ _ _ _ _ _ _ _ _ _ _ _ _ _ _ _ _ _ _ _ _ _ _ _ _ _ _ _ _ _ _ _ _ _ _ _ _ _ _ _ _ _ _ _ _ _ _ _ _ _ _ _ _ _ _ _ _ _ _ _ _ _ _ _ _ _ _

theorem stepE (F : Fut Tryz.prog true (DX Ok) Ψ) (pb po n cap k nR nU nO : Nat) (st k1 k2 kd : Int) {y1 y10 y11 y12 y13 y14 y15 y16 y17 y18 y19 y20 y21 y22 y23 y24 y25 y26 y27 y28 y29 y30 y31 y32 y33 y34 y35 y36 y37 y38 y39 y40 y41 y42 y43 y44 y45 y46 y47 y48 y49 y50 y51 y52 y53 y54 y55 y56 y57 y58 y59 y60 y61 y62 y63 y64 y65 y66 y67 y68 y69 y70 y71 y72 y73 y74 y75 y76 y77 y78 y79 y80 y81 y82 y83 y84 y85 y86 y87 y88 y89 y90 y91 y92 y93 y94 y95 y96 y97 y98 y99 y100 y101 y102 y103 y104 y105 y106 y107 y108 y109 y110 y111 y112 y113 y114 y115 y116 : Value} (w0 : World) (hk' : (k : Int) < (n : Int)) (hk0 : (0 : Int) ≤ (k : Int)) (hwk : IntKind.i64.wrap ((k : Int) + 1) = (k : Int) + 1) (hws : IntKind.i64.wrap (st + k2) = st + k2) (okr : ∀ (b o : Nat), o ≠ 5 → o ≠ 6 → Ok ⟨b, o, none⟩ false) (hrb : ∀ a : Addr, a.block = pb → Ok a false)
    (hC : w0.cell? ⟨pb, po + k * 2, none⟩ = some (.int .i64 st)) (u0 : w0.cell? ⟨nU, 0, none⟩ = some (.int .i64 kd)) (u1 : w0.cell? ⟨nU, 1, none⟩ = some (.int .i64 k1)) (u2 : w0.cell? ⟨nU, 2, none⟩ = some (.int .i64 k2)) (o0 : w0.cell? ⟨nO, 0, none⟩ = some (.int .i64 (st + k2))) (o1 : w0.cell? ⟨nO, 1, none⟩ = some (.int .i64 2)) (hkd : IntKind.i64.wrap (kd - 1) = kd - 1) (gc cp : Nat) (o3 : w0.cell? ⟨nO, 3, none⟩ = some (.slice (some ⟨gc, 0, none⟩) 1 cp)) (g0 : w0.cell? ⟨gc, 0, none⟩ = some (.int .i64 (kd - 1))) (g1 : w0.cell? ⟨gc, 1, none⟩ = some (.int .i64 (-1))) (g2 : w0.cell? ⟨gc, 2, none⟩ = some (.int .i64 k1))
    (hnext : ∀ z1 z7 z8 z9 z10 z11 z12 z13 z14 z15 z16 z17 z18 z19 z20 z21 z22 z23 z24 z25 z26 z27 z28 z29 z30 z31 z32 z33 z34 z35 z36 z37 z38 z39 z40 z41 z42 z43 z44 z45 z46 z47 z48 z49 z50 z51 z52 z53 z54 z55 z56 z57 z58 z59 z60 z61 z62 z63 z64 z65 z66 z67 z68 z69 z70 z71 z72 z73 z74 z75 z76 z77 z78 z79 z80 z81 z82 z83 z84 z85 z86 z87 z88 z89 z90 z91 z92 z93 z94 z95 z96 z97 z98 z99 z100 z101 z102 z103 z104 z105 z106 z107 z108 z109 z110 z111 z112 z113 z114 z115 z116 : Value, Ψ (G ((base 4).at ⟨List.toArray (.slice (some ⟨pb, po, none⟩) n cap :: z1 :: .bool false :: .pointer (some ⟨nR, 0, none⟩) :: .bool true :: .bool true :: .int .i64 ((k : Int) + 1) :: z7 :: z8 :: z9 :: z10 :: z11 :: z12 :: z13 :: z14 :: z15 :: z16 :: z17 :: z18 :: z19 :: z20 :: z21 :: z22 :: z23 :: z24 :: z25 :: z26 :: z27 :: z28 :: z29 :: z30 :: z31 :: z32 :: z33 :: z34 :: z35 :: z36 :: z37 :: z38 :: z39 :: z40 :: z41 :: z42 :: z43 :: z44 :: z45 :: z46 :: z47 :: z48 :: z49 :: z50 :: z51 :: z52 :: z53 :: z54 :: z55 :: z56 :: z57 :: z58 :: z59 :: z60 :: z61 :: z62 :: z63 :: z64 :: z65 :: z66 :: z67 :: z68 :: z69 :: z70 :: z71 :: z72 :: z73 :: z74 :: z75 :: z76 :: z77 :: z78 :: z79 :: z80 :: z81 :: z82 :: z83 :: z84 :: z85 :: z86 :: z87 :: z88 :: z89 :: z90 :: z91 :: z92 :: z93 :: z94 :: z95 :: z96 :: z97 :: z98 :: z99 :: z100 :: z101 :: z102 :: z103 :: z104 :: z105 :: z106 :: z107 :: z108 :: z109 :: z110 :: z111 :: z112 :: z113 :: z114 :: z115 :: z116 :: []), []⟩ [.code (loopIn (dropSeq 1 (fstSeq (dropSeq 3 (Tryz.f4.body.getD .skip))))), .inLoop (loopIn (dropSeq 1 (fstSeq (dropSeq 3 (Tryz.f4.body.getD .skip))))), .inBlock 0, .code (dropSeq 4 (Tryz.f4.body.getD .skip))]) []) w0) :
    Ψ (G ((base 4).at ⟨List.toArray (.slice (some ⟨pb, po, none⟩) n cap :: y1 :: .bool false :: .pointer (some ⟨nR, 0, none⟩) :: .bool true :: .bool true :: .int .i64 (k : Int) :: .pointer (some ⟨nU, 0, none⟩) :: .pointer (some ⟨nO, 0, none⟩) :: .int .i64 2 :: y10 :: y11 :: y12 :: y13 :: y14 :: y15 :: y16 :: y17 :: y18 :: y19 :: y20 :: y21 :: y22 :: y23 :: y24 :: y25 :: y26 :: y27 :: y28 :: y29 :: y30 :: y31 :: y32 :: y33 :: y34 :: y35 :: y36 :: y37 :: y38 :: y39 :: y40 :: y41 :: y42 :: y43 :: y44 :: y45 :: y46 :: y47 :: y48 :: y49 :: y50 :: y51 :: y52 :: y53 :: y54 :: y55 :: y56 :: y57 :: y58 :: y59 :: y60 :: y61 :: y62 :: y63 :: y64 :: y65 :: y66 :: y67 :: y68 :: y69 :: y70 :: y71 :: y72 :: y73 :: y74 :: y75 :: y76 :: y77 :: y78 :: y79 :: y80 :: y81 :: y82 :: y83 :: y84 :: y85 :: y86 :: y87 :: y88 :: y89 :: y90 :: y91 :: y92 :: y93 :: y94 :: y95 :: y96 :: y97 :: y98 :: y99 :: y100 :: y101 :: y102 :: y103 :: y104 :: y105 :: y106 :: y107 :: y108 :: y109 :: y110 :: y111 :: y112 :: y113 :: y114 :: y115 :: y116 :: []), []⟩ [.code (dropSeq 4 (blkIn (fstSeq (dropSeq 1 (loopIn (dropSeq 1 (fstSeq (dropSeq 3 (Tryz.f4.body.getD .skip))))))))), .inBlock 1, .code (dropSeq 2 (loopIn (dropSeq 1 (fstSeq (dropSeq 3 (Tryz.f4.body.getD .skip)))))), .inLoop (loopIn (dropSeq 1 (fstSeq (dropSeq 3 (Tryz.f4.body.getD .skip))))), .inBlock 0, .code (dropSeq 4 (Tryz.f4.body.getD .skip))]) []) w0 := by
  have a1 := addN pb po (k * 2); have q0 := okr nU 0 (by decide) (by decide); have q1 := okr nU 1 (by decide) (by decide); have q2 := okr nU 2 (by decide) (by decide); have p0 := okr nO 0 (by decide) (by decide); have p1 := okr nO 1 (by decide) (by decide); have p2 := okr nO 2 (by decide) (by decide); have p3 := okr nO 3 (by decide) (by decide); have x0 := okr gc 0 (by decide) (by decide); have x1 := okr gc 1 (by decide) (by decide); have x2 := okr gc 2 (by decide) (by decide); unfold loopIn fstSeq blkIn dropSeq; refine F.sq ?_; refine F.sq ?_; refine F.drawS (n := 28) mixed [[],[0],[],[],[2,3],[4],[5],[],[7],[6,8],[1,9],[10],[11],[11,12],[11],[11,13,14],[11,15],[11,16],[17],[17,18],[17,19],[20],[20,21],[20],[20,23],[20,22,24],[17,20,25],[17,26]] rfl (by kernel_rfl) (fun b => ⟨List.toArray (.slice (some ⟨pb, po, none⟩) n cap :: y1 :: .bool false :: .pointer (some ⟨nR, 0, none⟩) :: .bool true :: .bool true :: .int .i64 (k : Int) :: .pointer (some ⟨nU, 0, none⟩) :: .pointer (some ⟨nO, 0, none⟩) :: .int .i64 2 :: y10 :: y11 :: y12 :: y13 :: y14 :: y15 :: y16 :: y17 :: y18 :: y19 :: y20 :: y21 :: y22 :: y23 :: y24 :: y25 :: y26 :: y27 :: y28 :: y29 :: y30 :: y31 :: y32 :: y33 :: y34 :: y35 :: y36 :: y37 :: y38 :: y39 :: y40 :: y41 :: sel (b 0) (.pointer (some ⟨nO, 0, none⟩)) (y42) :: sel (b 1) (.int .i64 (st + k2)) (y43) :: sel (b 2) (.slice (some ⟨pb, po, none⟩) n cap) (y44) :: sel (b 3) (.int .i64 (k : Int)) (y45) :: sel (b 4) (.pointer (some ⟨pb, po + k * 2, none⟩)) (y46) :: sel (b 5) (.pointer (some ⟨pb, po + k * 2, none⟩)) (y47) :: sel (b 6) (.int .i64 st) (y48) :: sel (b 7) (.pointer (some ⟨nU, 2, none⟩)) (y49) :: sel (b 8) (.int .i64 k2) (y50) :: sel (b 9) (.int .i64 (st + k2)) (y51) :: sel (b 10) (.bool false) (y52) :: sel (b 11) (.bool false) (y53) :: sel (b 12) (.pointer (some ⟨nO, 1, none⟩)) (y54) :: sel (b 13) (.int .i64 2) (y55) :: sel (b 14) (.int .i64 2) (y56) :: sel (b 15) (.bool false) (y57) :: sel (b 16) (.bool false) (y58) :: sel (b 17) (.bool false) (y59) :: sel (b 18) (.int .i64 2) (y60) :: sel (b 19) (.bool false) (y61) :: sel (b 20) (.bool false) (y62) :: sel (b 21) (undef) (y63) :: sel (b 22) (undef) (y64) :: sel (b 23) (undef) (y65) :: sel (b 24) (undef) (y66) :: sel (b 25) (undef) (y67) :: sel (b 26) (.bool false) (y68) :: sel (b 27) (.bool false) (y69) :: y70 :: y71 :: y72 :: y73 :: y74 :: y75 :: y76 :: y77 :: y78 :: y79 :: y80 :: y81 :: y82 :: y83 :: y84 :: y85 :: y86 :: y87 :: y88 :: y89 :: y90 :: y91 :: y92 :: y93 :: y94 :: y95 :: y96 :: y97 :: y98 :: y99 :: y100 :: y101 :: y102 :: y103 :: y104 :: y105 :: y106 :: y107 :: y108 :: y109 :: y110 :: y111 :: y112 :: y113 :: y114 :: y115 :: y116 :: []), []⟩) rfl (all_cons ?_ (all_cons ?_ (all_cons ?_ (all_cons ?_ (all_cons ?_ (all_cons ?_ (all_cons ?_ (all_cons ?_ (all_cons ?_ (all_cons ?_ (all_cons ?_ (all_cons ?_ (all_cons ?_ (all_cons ?_ (all_cons ?_ (all_cons ?_ (all_cons ?_ (all_cons ?_ (all_cons ?_ (all_cons ?_ (all_cons ?_ (all_cons ?_ (all_cons ?_ (all_cons ?_ (all_cons ?_ (all_cons ?_ (all_cons ?_ (all_cons ?_ (all_nil))))))))))))))))))))))))))))) ?_
  · refine fun b (hA : allB true b []) (hb : b 0 = false) r hk => ?_
    simp only [allB] at hA; simp only [hA, hb, ds, Nat.reduceEqDiff, reduceIte] at hk ⊢; refine F.oq rfl rfl rfl (by simp [go_sem]) fun d K h => ?_; go_simp; refine h _ ?_; clear h K d; try walk_nrm
    exact hk
  · refine fun b (hA : allB true b [0]) (hb : b 1 = false) r hk => ?_
    simp only [allB] at hA; simp only [hA, hb, ds, Nat.reduceEqDiff, reduceIte] at hk ⊢; refine F.ol rfl rfl rfl fun d K h => ?_; go_simp; refine h _ (fun e m => ?_) ?_; simp [go_sem, *] at m; subst m; exact evr (w := w0) (by assumption) (by first | assumption | exact hrb _ rfl | (apply hfr <;> dsimp only <;> omega)); clear h K d; try walk_nrm
    exact hk
  · refine fun b (hA : allB true b []) (hb : b 2 = false) r hk => ?_
    simp only [allB] at hA; simp only [hA, hb, ds, Nat.reduceEqDiff, reduceIte] at hk ⊢; refine F.oq rfl rfl rfl (by simp [go_sem]) fun d K h => ?_; go_simp; refine h _ ?_; clear h K d; try walk_nrm
    exact hk
  · refine fun b (hA : allB true b []) (hb : b 3 = false) r hk => ?_
    simp only [allB] at hA; simp only [hA, hb, ds, Nat.reduceEqDiff, reduceIte] at hk ⊢; refine F.oq rfl rfl rfl (by simp [go_sem]) fun d K h => ?_; go_simp; refine h _ ?_; clear h K d; try walk_nrm
    exact hk
  · refine fun b (hA : allB true b [2,3]) (hb : b 4 = false) r hk => ?_
    simp only [allB] at hA; simp only [hA, hb, ds, Nat.reduceEqDiff, reduceIte] at hk ⊢; refine F.oq rfl rfl rfl (fun _ => by first | (simp [go_sem]; done) | simp [go_sem, Instr.makeInterface, Instr.makeFunc, *]) fun d K hK => ?_; go_simp; refine hK _ ?_; clear hK K d; try walk_nrm
    exact hk
  · refine fun b (hA : allB true b [4]) (hb : b 5 = false) r hk => ?_
    simp only [allB] at hA; simp only [hA, hb, ds, Nat.reduceEqDiff, reduceIte] at hk ⊢; refine F.oq rfl rfl rfl (by simp [go_sem]) fun d K h => ?_; go_simp; refine h _ ?_; clear h K d; try walk_nrm
    exact hk
  · refine fun b (hA : allB true b [5]) (hb : b 6 = false) r hk => ?_
    simp only [allB] at hA; simp only [hA, hb, ds, Nat.reduceEqDiff, reduceIte] at hk ⊢; refine F.ol rfl rfl rfl fun d K h => ?_; go_simp; refine h _ (fun e m => ?_) ?_; simp [go_sem, *] at m; subst m; exact evr (w := w0) (by assumption) (by first | assumption | exact hrb _ rfl | (apply hfr <;> dsimp only <;> omega)); clear h K d; try walk_nrm
    exact hk
  · refine fun b (hA : allB true b []) (hb : b 7 = false) r hk => ?_
    simp only [allB] at hA; simp only [hA, hb, ds, Nat.reduceEqDiff, reduceIte] at hk ⊢; refine F.oq rfl rfl rfl (by simp [go_sem]) fun d K h => ?_; go_simp; refine h _ ?_; clear h K d; try walk_nrm
    exact hk
  · refine fun b (hA : allB true b [7]) (hb : b 8 = false) r hk => ?_
    simp only [allB] at hA; simp only [hA, hb, ds, Nat.reduceEqDiff, reduceIte] at hk ⊢; refine F.ol rfl rfl rfl fun d K h => ?_; go_simp; refine h _ (fun e m => ?_) ?_; simp [go_sem, *] at m; subst m; exact evr (w := w0) (by assumption) (by first | assumption | exact hrb _ rfl | (apply hfr <;> dsimp only <;> omega)); clear h K d; try walk_nrm
    exact hk
  · refine fun b (hA : allB true b [6,8]) (hb : b 9 = false) r hk => ?_
    simp only [allB] at hA; simp only [hA, hb, ds, Nat.reduceEqDiff, reduceIte] at hk ⊢; refine F.oq rfl rfl rfl (by simp [go_sem]) fun d K h => ?_; go_simp; refine h _ ?_; clear h K d; try walk_nrm
    exact hk
  · refine fun b (hA : allB true b [1,9]) (hb : b 10 = false) r hk => ?_
    simp only [allB] at hA; simp only [hA, hb, ds, Nat.reduceEqDiff, reduceIte] at hk ⊢; refine F.oq rfl rfl rfl (by simp [go_sem]) fun d K h => ?_; go_simp; refine h _ ?_; clear h K d; try walk_nrm
    exact hk
  · refine fun b (hA : allB true b [10]) (hb : b 11 = false) r hk => ?_
    simp only [allB] at hA; simp only [hA, hb, ds, Nat.reduceEqDiff, reduceIte] at hk ⊢; refine F.oq rfl rfl rfl (by simp [go_sem]) fun d K h => ?_; go_simp; refine h _ ?_; clear h K d; try walk_nrm
    exact hk
  · refine fun b (hA : allB true b [11]) (hb : b 12 = false) r hk => ?_
    simp only [allB] at hA; simp only [hA, hb, ds, Nat.reduceEqDiff, reduceIte] at hk ⊢; refine F.oq rfl rfl rfl (by simp [go_sem]) fun d K h => ?_; go_simp; refine h _ ?_; clear h K d; try walk_nrm
    exact hk
  · refine fun b (hA : allB true b [11,12]) (hb : b 13 = false) r hk => ?_
    simp only [allB] at hA; simp only [hA, hb, ds, Nat.reduceEqDiff, reduceIte] at hk ⊢; refine F.ol rfl rfl rfl fun d K h => ?_; go_simp; refine h _ (fun e m => ?_) ?_; simp [go_sem, *] at m; subst m; exact evr (w := w0) (by assumption) (by first | assumption | exact hrb _ rfl | (apply hfr <;> dsimp only <;> omega)); clear h K d; try walk_nrm
    exact hk
  · refine fun b (hA : allB true b [11]) (hb : b 14 = false) r hk => ?_
    simp only [allB] at hA; simp only [hA, hb, ds, Nat.reduceEqDiff, reduceIte] at hk ⊢; refine F.oq rfl rfl rfl (by simp [go_sem]) fun d K h => ?_; go_simp; refine h _ ?_; clear h K d; try walk_nrm
    exact hk
  · refine fun b (hA : allB true b [11,13,14]) (hb : b 15 = false) r hk => ?_
    simp only [allB] at hA; simp only [hA, hb, ds, Nat.reduceEqDiff, reduceIte] at hk ⊢; refine F.oq rfl rfl rfl (by simp [go_sem]) fun d K h => ?_; go_simp; refine h _ ?_; clear h K d; try walk_nrm
    exact hk
  · refine fun b (hA : allB true b [11,15]) (hb : b 16 = false) r hk => ?_
    simp only [allB] at hA; simp only [hA, hb, ds, Nat.reduceEqDiff, reduceIte] at hk ⊢; refine F.oq rfl rfl rfl (by simp [go_sem]) fun d K h => ?_; go_simp; refine h _ ?_; clear h K d; try walk_nrm
    exact hk
  · refine fun b (hA : allB true b [11,16]) (hb : b 17 = false) r hk => ?_
    simp only [allB] at hA; simp only [hA, hb, ds, Nat.reduceEqDiff, reduceIte] at hk ⊢; refine F.oq rfl rfl rfl (by simp [go_sem]) fun d K h => ?_; go_simp; refine h _ ?_; clear h K d; try walk_nrm
    exact hk
  · refine fun b (hA : allB true b [17]) (hb : b 18 = false) r hk => ?_
    simp only [allB] at hA; simp only [hA, hb, ds, Nat.reduceEqDiff, reduceIte] at hk ⊢; refine F.oq rfl rfl rfl (by simp [go_sem]) fun d K h => ?_; go_simp; refine h _ ?_; clear h K d; try walk_nrm
    exact hk
  · refine fun b (hA : allB true b [17,18]) (hb : b 19 = false) r hk => ?_
    simp only [allB] at hA; simp only [hA, hb, ds, Nat.reduceEqDiff, reduceIte] at hk ⊢; refine F.oq rfl rfl rfl (by simp [go_sem]) fun d K h => ?_; go_simp; refine h _ ?_; clear h K d; try walk_nrm
    exact hk
  · refine fun b (hA : allB true b [17,19]) (hb : b 20 = false) r hk => ?_
    simp only [allB] at hA; simp only [hA, hb, ds, Nat.reduceEqDiff, reduceIte] at hk ⊢; refine F.oq rfl rfl rfl (by simp [go_sem]) fun d K h => ?_; go_simp; refine h _ ?_; clear h K d; try walk_nrm
    exact hk
  · refine fun b (hA : allB true b [20]) (hb : b 21 = false) r hk => ?_
    simp only [allB] at hA; simp only [hA, hb, ds, Nat.reduceEqDiff, reduceIte] at hk ⊢; refine F.unwanted rfl rfl ?_; try walk_nrm
    exact hk
  · refine fun b (hA : allB true b [20,21]) (hb : b 22 = false) r hk => ?_
    simp only [allB] at hA; simp only [hA, hb, ds, Nat.reduceEqDiff, reduceIte] at hk ⊢; refine F.unwanted rfl rfl ?_; try walk_nrm
    exact hk
  · refine fun b (hA : allB true b [20]) (hb : b 23 = false) r hk => ?_
    simp only [allB] at hA; simp only [hA, hb, ds, Nat.reduceEqDiff, reduceIte] at hk ⊢; refine F.unwanted rfl rfl ?_; try walk_nrm
    exact hk
  · refine fun b (hA : allB true b [20,23]) (hb : b 24 = false) r hk => ?_
    simp only [allB] at hA; simp only [hA, hb, ds, Nat.reduceEqDiff, reduceIte] at hk ⊢; refine F.unwanted rfl rfl ?_; try walk_nrm
    exact hk
  · refine fun b (hA : allB true b [20,22,24]) (hb : b 25 = false) r hk => ?_
    simp only [allB] at hA; simp only [hA, hb, ds, Nat.reduceEqDiff, reduceIte] at hk ⊢; refine F.unwanted rfl rfl ?_; try walk_nrm
    exact hk
  · refine fun b (hA : allB true b [17,20,25]) (hb : b 26 = false) r hk => ?_
    simp only [allB] at hA; simp only [hA, hb, ds, Nat.reduceEqDiff, reduceIte] at hk ⊢; refine F.oq rfl rfl rfl (by simp [go_sem]) fun d K h => ?_; go_simp; refine h _ ?_; clear h K d; try walk_nrm
    exact hk
  · refine fun b (hA : allB true b [17,26]) (hb : b 27 = false) r hk => ?_
    simp only [allB] at hA; simp only [hA, hb, ds, Nat.reduceEqDiff, reduceIte] at hk ⊢; refine F.oq rfl rfl rfl (by simp [go_sem]) fun d K h => ?_; go_simp; refine h _ ?_; clear h K d; try walk_nrm
    exact hk
  intro b hall; replace hall : allB true b [0,1,2,3,4,5,6,7,8,9,10,11,12,13,14,15,16,17,18,19,20,21,22,23,24,25,26,27] := hall; simp only [allB] at hall; simp only [hall, ds]; refine F.re ?_; refine F.cf rfl ?_; refine F.sk ?_; refine F.sq ?_; refine F.drawS (n := 37) mixed [[],[0],[1],[2],[2,3],[2,4],[2,5],[2,6],[7],[7,8],[7,9],[7,10],[7,11],[7],[7,13],[7,12,14],[2,7,15],[2,7,16],[17],[17,18],[17,19],[17,20],[17,21],[17,22],[2,17,23],[2,17,24],[25],[25,26],[25,27],[25,28],[25,29],[25],[25,31],[25,32],[25,30,33],[2,25,34],[2,35]] rfl (by kernel_rfl) (fun b => ⟨List.toArray (.slice (some ⟨pb, po, none⟩) n cap :: y1 :: .bool false :: .pointer (some ⟨nR, 0, none⟩) :: .bool true :: .bool true :: .int .i64 (k : Int) :: .pointer (some ⟨nU, 0, none⟩) :: .pointer (some ⟨nO, 0, none⟩) :: .int .i64 2 :: y10 :: y11 :: y12 :: y13 :: y14 :: y15 :: y16 :: y17 :: y18 :: y19 :: y20 :: y21 :: y22 :: y23 :: y24 :: y25 :: y26 :: y27 :: y28 :: y29 :: y30 :: y31 :: y32 :: y33 :: y34 :: y35 :: y36 :: y37 :: y38 :: y39 :: y40 :: y41 :: .pointer (some ⟨nO, 0, none⟩) :: .int .i64 (st + k2) :: .slice (some ⟨pb, po, none⟩) n cap :: .int .i64 (k : Int) :: .pointer (some ⟨pb, po + k * 2, none⟩) :: .pointer (some ⟨pb, po + k * 2, none⟩) :: .int .i64 st :: .pointer (some ⟨nU, 2, none⟩) :: .int .i64 k2 :: .int .i64 (st + k2) :: .bool false :: .bool false :: .pointer (some ⟨nO, 1, none⟩) :: .int .i64 2 :: .int .i64 2 :: .bool false :: .bool false :: .bool false :: .int .i64 2 :: .bool false :: .bool false :: undef :: undef :: undef :: undef :: undef :: .bool false :: .bool false :: sel (b 0) (.int .i64 2) (y70) :: sel (b 1) (.bool true) (y71) :: sel (b 2) (.bool true) (y72) :: sel (b 3) (.pointer (some ⟨nO, 3, none⟩)) (y73) :: sel (b 4) (.slice (some ⟨gc, 0, none⟩) 1 cp) (y74) :: sel (b 5) (.int .i64 1) (y75) :: sel (b 6) (.bool false) (y76) :: sel (b 7) (.bool false) (y77) :: sel (b 8) (.pointer (some ⟨nO, 3, none⟩)) (y78) :: sel (b 9) (.slice (some ⟨gc, 0, none⟩) 1 cp) (y79) :: sel (b 10) (.pointer (some ⟨gc, 0, none⟩)) (y80) :: sel (b 11) (.pointer (some ⟨gc, 2, none⟩)) (y81) :: sel (b 12) (.int .i64 k1) (y82) :: sel (b 13) (.pointer (some ⟨nU, 1, none⟩)) (y83) :: sel (b 14) (.int .i64 k1) (y84) :: sel (b 15) (.bool false) (y85) :: sel (b 16) (.bool false) (y86) :: sel (b 17) (.bool false) (y87) :: sel (b 18) (.pointer (some ⟨nO, 3, none⟩)) (y88) :: sel (b 19) (.slice (some ⟨gc, 0, none⟩) 1 cp) (y89) :: sel (b 20) (.pointer (some ⟨gc, 0, none⟩)) (y90) :: sel (b 21) (.pointer (some ⟨gc, 1, none⟩)) (y91) :: sel (b 22) (.int .i64 (-1)) (y92) :: sel (b 23) (.bool false) (y93) :: sel (b 24) (.bool false) (y94) :: sel (b 25) (.bool false) (y95) :: sel (b 26) (.pointer (some ⟨nO, 3, none⟩)) (y96) :: sel (b 27) (.slice (some ⟨gc, 0, none⟩) 1 cp) (y97) :: sel (b 28) (.pointer (some ⟨gc, 0, none⟩)) (y98) :: sel (b 29) (.pointer (some ⟨gc, 0, none⟩)) (y99) :: sel (b 30) (.int .i64 (kd - 1)) (y100) :: sel (b 31) (.pointer (some ⟨nU, 0, none⟩)) (y101) :: sel (b 32) (.int .i64 kd) (y102) :: sel (b 33) (.int .i64 (kd - 1)) (y103) :: sel (b 34) (.bool false) (y104) :: sel (b 35) (.bool false) (y105) :: sel (b 36) (.bool false) (y106) :: y107 :: y108 :: y109 :: y110 :: y111 :: y112 :: y113 :: y114 :: y115 :: y116 :: []), []⟩) rfl (all_cons ?_ (all_cons ?_ (all_cons ?_ (all_cons ?_ (all_cons ?_ (all_cons ?_ (all_cons ?_ (all_cons ?_ (all_cons ?_ (all_cons ?_ (all_cons ?_ (all_cons ?_ (all_cons ?_ (all_cons ?_ (all_cons ?_ (all_cons ?_ (all_cons ?_ (all_cons ?_ (all_cons ?_ (all_cons ?_ (all_cons ?_ (all_cons ?_ (all_cons ?_ (all_cons ?_ (all_cons ?_ (all_cons ?_ (all_cons ?_ (all_cons ?_ (all_cons ?_ (all_cons ?_ (all_cons ?_ (all_cons ?_ (all_cons ?_ (all_cons ?_ (all_cons ?_ (all_cons ?_ (all_cons ?_ (all_nil)))))))))))))))))))))))))))))))))))))) ?_
  · refine fun b (hA : allB true b []) (hb : b 0 = false) r hk => ?_
    simp only [allB] at hA; simp only [hA, hb, ds, Nat.reduceEqDiff, reduceIte] at hk ⊢; refine F.oq rfl rfl rfl (by simp [go_sem]) fun d K h => ?_; go_simp; refine h _ ?_; clear h K d; try walk_nrm
    exact hk
  · refine fun b (hA : allB true b [0]) (hb : b 1 = false) r hk => ?_
    simp only [allB] at hA; simp only [hA, hb, ds, Nat.reduceEqDiff, reduceIte] at hk ⊢; refine F.oq rfl rfl rfl (by simp [go_sem]) fun d K h => ?_; go_simp; refine h _ ?_; clear h K d; try walk_nrm
    exact hk
  · refine fun b (hA : allB true b [1]) (hb : b 2 = false) r hk => ?_
    simp only [allB] at hA; simp only [hA, hb, ds, Nat.reduceEqDiff, reduceIte] at hk ⊢; refine F.oq rfl rfl rfl (by simp [go_sem]) fun d K h => ?_; go_simp; refine h _ ?_; clear h K d; try walk_nrm
    exact hk
  · refine fun b (hA : allB true b [2]) (hb : b 3 = false) r hk => ?_
    simp only [allB] at hA; simp only [hA, hb, ds, Nat.reduceEqDiff, reduceIte] at hk ⊢; refine F.oq rfl rfl rfl (by simp [go_sem]) fun d K h => ?_; go_simp; refine h _ ?_; clear h K d; try walk_nrm
    exact hk
  · refine fun b (hA : allB true b [2,3]) (hb : b 4 = false) r hk => ?_
    simp only [allB] at hA; simp only [hA, hb, ds, Nat.reduceEqDiff, reduceIte] at hk ⊢; refine F.ol rfl rfl rfl fun d K h => ?_; go_simp; refine h _ (fun e m => ?_) ?_; simp [go_sem, *] at m; subst m; exact evr (w := w0) (by assumption) (by first | assumption | exact hrb _ rfl | (apply hfr <;> dsimp only <;> omega)); clear h K d; try walk_nrm
    exact hk
  · refine fun b (hA : allB true b [2,4]) (hb : b 5 = false) r hk => ?_
    simp only [allB] at hA; simp only [hA, hb, ds, Nat.reduceEqDiff, reduceIte] at hk ⊢; refine F.oq rfl rfl rfl (by simp [go_sem]) fun d K h => ?_; go_simp; refine h _ ?_; clear h K d; try walk_nrm
    exact hk
  · refine fun b (hA : allB true b [2,5]) (hb : b 6 = false) r hk => ?_
    simp only [allB] at hA; simp only [hA, hb, ds, Nat.reduceEqDiff, reduceIte] at hk ⊢; refine F.oq rfl rfl rfl (by simp [go_sem]) fun d K h => ?_; go_simp; refine h _ ?_; clear h K d; try walk_nrm
    exact hk
  · refine fun b (hA : allB true b [2,6]) (hb : b 7 = false) r hk => ?_
    simp only [allB] at hA; simp only [hA, hb, ds, Nat.reduceEqDiff, reduceIte] at hk ⊢; refine F.oq rfl rfl rfl (by simp [go_sem]) fun d K h => ?_; go_simp; refine h _ ?_; clear h K d; try walk_nrm
    exact hk
  · refine fun b (hA : allB true b [7]) (hb : b 8 = false) r hk => ?_
    simp only [allB] at hA; simp only [hA, hb, ds, Nat.reduceEqDiff, reduceIte] at hk ⊢; refine F.oq rfl rfl rfl (by simp [go_sem]) fun d K h => ?_; go_simp; refine h _ ?_; clear h K d; try walk_nrm
    exact hk
  · refine fun b (hA : allB true b [7,8]) (hb : b 9 = false) r hk => ?_
    simp only [allB] at hA; simp only [hA, hb, ds, Nat.reduceEqDiff, reduceIte] at hk ⊢; refine F.ol rfl rfl rfl fun d K h => ?_; go_simp; refine h _ (fun e m => ?_) ?_; simp [go_sem, *] at m; subst m; exact evr (w := w0) (by assumption) (by first | assumption | exact hrb _ rfl | (apply hfr <;> dsimp only <;> omega)); clear h K d; try walk_nrm
    exact hk
  · refine fun b (hA : allB true b [7,9]) (hb : b 10 = false) r hk => ?_
    simp only [allB] at hA; simp only [hA, hb, ds, Nat.reduceEqDiff, reduceIte] at hk ⊢; refine F.oq rfl rfl rfl (by simp [go_sem]) fun d K h => ?_; go_simp; refine h _ ?_; clear h K d; try walk_nrm
    exact hk
  · refine fun b (hA : allB true b [7,10]) (hb : b 11 = false) r hk => ?_
    simp only [allB] at hA; simp only [hA, hb, ds, Nat.reduceEqDiff, reduceIte] at hk ⊢; refine F.oq rfl rfl rfl (by simp [go_sem]) fun d K h => ?_; go_simp; refine h _ ?_; clear h K d; try walk_nrm
    exact hk
  · refine fun b (hA : allB true b [7,11]) (hb : b 12 = false) r hk => ?_
    simp only [allB] at hA; simp only [hA, hb, ds, Nat.reduceEqDiff, reduceIte] at hk ⊢; refine F.ol rfl rfl rfl fun d K h => ?_; go_simp; refine h _ (fun e m => ?_) ?_; simp [go_sem, *] at m; subst m; exact evr (w := w0) (by assumption) (by first | assumption | exact hrb _ rfl | (apply hfr <;> dsimp only <;> omega)); clear h K d; try walk_nrm
    exact hk
  · refine fun b (hA : allB true b [7]) (hb : b 13 = false) r hk => ?_
    simp only [allB] at hA; simp only [hA, hb, ds, Nat.reduceEqDiff, reduceIte] at hk ⊢; refine F.oq rfl rfl rfl (by simp [go_sem]) fun d K h => ?_; go_simp; refine h _ ?_; clear h K d; try walk_nrm
    exact hk
  · refine fun b (hA : allB true b [7,13]) (hb : b 14 = false) r hk => ?_
    simp only [allB] at hA; simp only [hA, hb, ds, Nat.reduceEqDiff, reduceIte] at hk ⊢; refine F.ol rfl rfl rfl fun d K h => ?_; go_simp; refine h _ (fun e m => ?_) ?_; simp [go_sem, *] at m; subst m; exact evr (w := w0) (by assumption) (by first | assumption | exact hrb _ rfl | (apply hfr <;> dsimp only <;> omega)); clear h K d; try walk_nrm
    exact hk
  · refine fun b (hA : allB true b [7,12,14]) (hb : b 15 = false) r hk => ?_
    simp only [allB] at hA; simp only [hA, hb, ds, Nat.reduceEqDiff, reduceIte] at hk ⊢; refine F.oq rfl rfl rfl (by simp [go_sem]) fun d K h => ?_; go_simp; refine h _ ?_; clear h K d; try walk_nrm
    exact hk
  · refine fun b (hA : allB true b [2,7,15]) (hb : b 16 = false) r hk => ?_
    simp only [allB] at hA; simp only [hA, hb, ds, Nat.reduceEqDiff, reduceIte] at hk ⊢; refine F.oq rfl rfl rfl (by simp [go_sem]) fun d K h => ?_; go_simp; refine h _ ?_; clear h K d; try walk_nrm
    exact hk
  · refine fun b (hA : allB true b [2,7,16]) (hb : b 17 = false) r hk => ?_
    simp only [allB] at hA; simp only [hA, hb, ds, Nat.reduceEqDiff, reduceIte] at hk ⊢; refine F.oq rfl rfl rfl (by simp [go_sem]) fun d K h => ?_; go_simp; refine h _ ?_; clear h K d; try walk_nrm
    exact hk
  · refine fun b (hA : allB true b [17]) (hb : b 18 = false) r hk => ?_
    simp only [allB] at hA; simp only [hA, hb, ds, Nat.reduceEqDiff, reduceIte] at hk ⊢; refine F.oq rfl rfl rfl (by simp [go_sem]) fun d K h => ?_; go_simp; refine h _ ?_; clear h K d; try walk_nrm
    exact hk
  · refine fun b (hA : allB true b [17,18]) (hb : b 19 = false) r hk => ?_
    simp only [allB] at hA; simp only [hA, hb, ds, Nat.reduceEqDiff, reduceIte] at hk ⊢; refine F.ol rfl rfl rfl fun d K h => ?_; go_simp; refine h _ (fun e m => ?_) ?_; simp [go_sem, *] at m; subst m; exact evr (w := w0) (by assumption) (by first | assumption | exact hrb _ rfl | (apply hfr <;> dsimp only <;> omega)); clear h K d; try walk_nrm
    exact hk
  · refine fun b (hA : allB true b [17,19]) (hb : b 20 = false) r hk => ?_
    simp only [allB] at hA; simp only [hA, hb, ds, Nat.reduceEqDiff, reduceIte] at hk ⊢; refine F.oq rfl rfl rfl (by simp [go_sem]) fun d K h => ?_; go_simp; refine h _ ?_; clear h K d; try walk_nrm
    exact hk
  · refine fun b (hA : allB true b [17,20]) (hb : b 21 = false) r hk => ?_
    simp only [allB] at hA; simp only [hA, hb, ds, Nat.reduceEqDiff, reduceIte] at hk ⊢; refine F.oq rfl rfl rfl (by simp [go_sem]) fun d K h => ?_; go_simp; refine h _ ?_; clear h K d; try walk_nrm
    exact hk
  · refine fun b (hA : allB true b [17,21]) (hb : b 22 = false) r hk => ?_
    simp only [allB] at hA; simp only [hA, hb, ds, Nat.reduceEqDiff, reduceIte] at hk ⊢; refine F.ol rfl rfl rfl fun d K h => ?_; go_simp; refine h _ (fun e m => ?_) ?_; simp [go_sem, *] at m; subst m; exact evr (w := w0) (by assumption) (by first | assumption | exact hrb _ rfl | (apply hfr <;> dsimp only <;> omega)); clear h K d; try walk_nrm
    exact hk
  · refine fun b (hA : allB true b [17,22]) (hb : b 23 = false) r hk => ?_
    simp only [allB] at hA; simp only [hA, hb, ds, Nat.reduceEqDiff, reduceIte] at hk ⊢; refine F.oq rfl rfl rfl (by simp [go_sem]) fun d K h => ?_; go_simp; refine h _ ?_; clear h K d; try walk_nrm
    exact hk
  · refine fun b (hA : allB true b [2,17,23]) (hb : b 24 = false) r hk => ?_
    simp only [allB] at hA; simp only [hA, hb, ds, Nat.reduceEqDiff, reduceIte] at hk ⊢; refine F.oq rfl rfl rfl (by simp [go_sem]) fun d K h => ?_; go_simp; refine h _ ?_; clear h K d; try walk_nrm
    exact hk
  · refine fun b (hA : allB true b [2,17,24]) (hb : b 25 = false) r hk => ?_
    simp only [allB] at hA; simp only [hA, hb, ds, Nat.reduceEqDiff, reduceIte] at hk ⊢; refine F.oq rfl rfl rfl (by simp [go_sem]) fun d K h => ?_; go_simp; refine h _ ?_; clear h K d; try walk_nrm
    exact hk
  · refine fun b (hA : allB true b [25]) (hb : b 26 = false) r hk => ?_
    simp only [allB] at hA; simp only [hA, hb, ds, Nat.reduceEqDiff, reduceIte] at hk ⊢; refine F.oq rfl rfl rfl (by simp [go_sem]) fun d K h => ?_; go_simp; refine h _ ?_; clear h K d; try walk_nrm
    exact hk
  · refine fun b (hA : allB true b [25,26]) (hb : b 27 = false) r hk => ?_
    simp only [allB] at hA; simp only [hA, hb, ds, Nat.reduceEqDiff, reduceIte] at hk ⊢; refine F.ol rfl rfl rfl fun d K h => ?_; go_simp; refine h _ (fun e m => ?_) ?_; simp [go_sem, *] at m; subst m; exact evr (w := w0) (by assumption) (by first | assumption | exact hrb _ rfl | (apply hfr <;> dsimp only <;> omega)); clear h K d; try walk_nrm
    exact hk
  · refine fun b (hA : allB true b [25,27]) (hb : b 28 = false) r hk => ?_
    simp only [allB] at hA; simp only [hA, hb, ds, Nat.reduceEqDiff, reduceIte] at hk ⊢; refine F.oq rfl rfl rfl (by simp [go_sem]) fun d K h => ?_; go_simp; refine h _ ?_; clear h K d; try walk_nrm
    exact hk
  · refine fun b (hA : allB true b [25,28]) (hb : b 29 = false) r hk => ?_
    simp only [allB] at hA; simp only [hA, hb, ds, Nat.reduceEqDiff, reduceIte] at hk ⊢; refine F.oq rfl rfl rfl (by simp [go_sem]) fun d K h => ?_; go_simp; refine h _ ?_; clear h K d; try walk_nrm
    exact hk
  · refine fun b (hA : allB true b [25,29]) (hb : b 30 = false) r hk => ?_
    simp only [allB] at hA; simp only [hA, hb, ds, Nat.reduceEqDiff, reduceIte] at hk ⊢; refine F.ol rfl rfl rfl fun d K h => ?_; go_simp; refine h _ (fun e m => ?_) ?_; simp [go_sem, *] at m; subst m; exact evr (w := w0) (by assumption) (by first | assumption | exact hrb _ rfl | (apply hfr <;> dsimp only <;> omega)); clear h K d; try walk_nrm
    exact hk
  · refine fun b (hA : allB true b [25]) (hb : b 31 = false) r hk => ?_
    simp only [allB] at hA; simp only [hA, hb, ds, Nat.reduceEqDiff, reduceIte] at hk ⊢; refine F.oq rfl rfl rfl (by simp [go_sem]) fun d K h => ?_; go_simp; refine h _ ?_; clear h K d; try walk_nrm
    exact hk
  · refine fun b (hA : allB true b [25,31]) (hb : b 32 = false) r hk => ?_
    simp only [allB] at hA; simp only [hA, hb, ds, Nat.reduceEqDiff, reduceIte] at hk ⊢; refine F.ol rfl rfl rfl fun d K h => ?_; go_simp; refine h _ (fun e m => ?_) ?_; simp [go_sem, *] at m; subst m; exact evr (w := w0) (by assumption) (by first | assumption | exact hrb _ rfl | (apply hfr <;> dsimp only <;> omega)); clear h K d; try walk_nrm
    exact hk
  · refine fun b (hA : allB true b [25,32]) (hb : b 33 = false) r hk => ?_
    simp only [allB] at hA; simp only [hA, hb, ds, Nat.reduceEqDiff, reduceIte] at hk ⊢; refine F.oq rfl rfl rfl (by simp [go_sem]) fun d K h => ?_; go_simp; refine h _ ?_; clear h K d; try walk_nrm
    exact hk
  · refine fun b (hA : allB true b [25,30,33]) (hb : b 34 = false) r hk => ?_
    simp only [allB] at hA; simp only [hA, hb, ds, Nat.reduceEqDiff, reduceIte] at hk ⊢; refine F.oq rfl rfl rfl (by simp [go_sem]) fun d K h => ?_; go_simp; refine h _ ?_; clear h K d; try walk_nrm
    exact hk
  · refine fun b (hA : allB true b [2,25,34]) (hb : b 35 = false) r hk => ?_
    simp only [allB] at hA; simp only [hA, hb, ds, Nat.reduceEqDiff, reduceIte] at hk ⊢; refine F.oq rfl rfl rfl (by simp [go_sem]) fun d K h => ?_; go_simp; refine h _ ?_; clear h K d; try walk_nrm
    exact hk
  · refine fun b (hA : allB true b [2,35]) (hb : b 36 = false) r hk => ?_
    simp only [allB] at hA; simp only [hA, hb, ds, Nat.reduceEqDiff, reduceIte] at hk ⊢; refine F.oq rfl rfl rfl (by simp [go_sem]) fun d K h => ?_; go_simp; refine h _ ?_; clear h K d; try walk_nrm
    exact hk
  intro b hall; replace hall : allB true b [0,1,2,3,4,5,6,7,8,9,10,11,12,13,14,15,16,17,18,19,20,21,22,23,24,25,26,27,28,29,30,31,32,33,34,35,36] := hall; simp only [allB] at hall; simp only [hall, ds]; refine F.re ?_; refine F.cf rfl ?_; refine F.sk ?_; refine F.ib ?_; refine F.rr ?_; simp only [rg, Nat.reduceAdd]; iterate 3 (refine F.oq rfl rfl rfl (by simp [go_sem]) fun d K h => ?_; go_simp; refine h _ ?_; clear h K d; try walk_nrm)
  refine F.re ?_; refine F.ctl (fun _ => stepG_inLoop) ?_; exact hnext _ _ _ _ _ _ _ _ _ _ _ _ _ _ _ _ _ _ _ _ _ _ _ _ _ _ _ _ _ _ _ _ _ _ _ _ _ _ _ _ _ _ _ _ _ _ _ _ _ _ _ _ _ _ _ _ _ _ _ _ _ _ _ _ _ _ _ _ _ _ _ _ _ _ _ _ _ _ _ _ _ _ _ _ _ _ _ _ _ _ _ _ _ _ _ _ _ _ _ _ _ _ _ _ _ _ _ _ _ _ _
end
end Go.Proofs.YtobagnjnbmgidaaGreatDoor
