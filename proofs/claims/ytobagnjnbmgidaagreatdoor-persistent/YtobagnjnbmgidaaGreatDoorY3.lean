/- The backend's Enter, for every turn. -/
import Derived.Test.YtobagnjnbmgidaaGreatDoorX18
import Derived.Test.YtobagnjnbmgidaaGreatDoorY2
import Derived.Test.YtobagnjnbmgidaaGreatDoorX14
import Derived.Test.YtobagnjnbmgidaaGreatDoorX32
set_option linter.unusedSimpArgs false
set_option linter.unusedVariables false
namespace Go.Proofs.YtobagnjnbmgidaaGreatDoor
open Go.Conc Go.RowKit
variable {Ok : Addr → Bool → Prop}

/-- What is left of a list of statements. -/
def dropSeq : Nat → Code → Code
  | 0, c => c
  | n + 1, .seq _ c => dropSeq n c
  | _, c => c
/-- How a call ends: it returns a value, or it blows up with one. -/
def ends (c : Frame) : Value ⊕ Value → Frame
  | .inl v => c.finish v
  | .inr v => c.raise (blown v)
def CallsO (e : Env) (Ok : Addr → Bool → Prop) (f : FuncId) (args : Array Value) (w : World) (Post : Value ⊕ Value → World → Prop) : Prop :=
  ∀ Ψ0 Ψ1, FutW e Ok Ψ0 Ψ1 → ∀ c cs, (∀ r w', Post r w' → Ψ0 (G (ends c r) cs) w') → Ψ0 (G (Frame.enter Tryz.prog f args .normal) (c :: cs)) w

/-- The backend's blocks; the turns lie anywhere, and are only read. -/
structure BgS (e : Env) (Ok : Addr → Bool → Prop) (B HD C : Nat) (ta : Option Addr) (n : Nat) : Prop where
  lB : B < e.N
  lH : HD < e.N
  lC : C < e.N
  bB : B ≠ HD ∧ B ≠ e.J ∧ B ≠ e.A ∧ B ≠ e.T
  bC : C ≠ HD ∧ C ≠ e.J ∧ C ≠ e.A ∧ C ≠ e.T
  bH : HD ≠ e.J ∧ HD ≠ e.A ∧ HD ≠ e.T
  ok : ∀ a wr, a.block = B ∨ a.block = HD ∨ a.block = C → Ok a wr
  tl : 0 < n → ∀ p : Addr, ta = some p → p.block < e.N ∧ p.block ≠ HD ∧ p.block ≠ e.J ∧ p.block ≠ e.A ∧ p.block ≠ e.T
  tr : 0 < n → ∀ p : Addr, ta = some p → ∀ a : Addr, a.block = p.block → Ok a false
structure Bg (e : Env) (B HD C : Nat) (ta : Option Addr) (n cap : Nat) (T : Nat → Nat → Int) (w : World) (k : Nat) : Prop where
  b1 : w.cell? ⟨B, 1, none⟩ = some (.int .i64 (-1))
  b2 : w.cell? ⟨B, 2, none⟩ = some (.pointer (some ⟨e.J, 0, none⟩))
  b3 : w.cell? ⟨B, 3, none⟩ = some (.slice (some ⟨C, 0, none⟩) 1 1)
  b4 : w.cell? ⟨B, 4, none⟩ = some (.slice (some ⟨HD, 0, none⟩) 1 1)
  c1 : w.cell? ⟨C, 1, none⟩ = some (.slice ta n cap)
  h0 : w.cell? ⟨HD, 0, none⟩ = some (.int .i64 k)
  zh : w.frozen? ⟨HD, 0, none⟩ = false
  tb : TurnsAt w ta n T

section
variable {e : Env} {B HD C : Nat} {ta : Option Addr} {n cap : Nat} {T : Nat → Nat → Int} {w w' : World} {k k' : Nat} {en ev en' ev' : Value} {now : Int} {m : List Value}
theorem Bg.ru (S : BgS e Ok B HD C ta n) (h : Bg e B HD C ta n cap T w k) (r : Ru e HD w en ev w' en' ev') (H : CW e w now en ev m) (hh : w'.cell? ⟨HD, 0, none⟩ = some (.int .i64 k')) (zh : w'.frozen? ⟨HD, 0, none⟩ = false) : Bg e B HD C ta n cap T w' k' :=
  ⟨r.stat H S.lB S.bB.2.1 S.bB.1 S.bB.2.2.1 S.bB.2.2.2 h.b1, r.stat H S.lB S.bB.2.1 S.bB.1 S.bB.2.2.1 S.bB.2.2.2 h.b2, r.stat H S.lB S.bB.2.1 S.bB.1 S.bB.2.2.1 S.bB.2.2.2 h.b3, r.stat H S.lB S.bB.2.1 S.bB.1 S.bB.2.2.1 S.bB.2.2.2 h.b4,
    r.stat H S.lC S.bC.2.1 S.bC.1 S.bC.2.2.1 S.bC.2.2.2 h.c1, hh, zh, fun i hi => by
      obtain ⟨b, o, ee, hj⟩ := h.tb i hi
      obtain ⟨q1, q2, q3, q4, q5⟩ := S.tl (by omega) _ ee
      exact ⟨b, o, ee, fun j hj' => r.stat H q1 q3 q2 q4 q5 (hj j hj')⟩⟩
theorem Bg.told (S : BgS e Ok B HD C ta n) (h : Bg e B HD C ta n cap T w k) (H : CW e w now en ev m) (k6 : Kp (e.J :: rowL ev) w w') (v6 : ∀ g ∈ rowL ev', g ∈ rowL ev ∨ w.heap.size ≤ g) : Bg e B HD C ta n cap T w' k := by
  have x := Bk.had (e := e) ⟨S.lH, S.bH⟩ k6 (fun x hx => by simp at hx; rcases hx with y | y; exact .inl y; exact .inr (H.rowN y).1) (by simp) h.h0 h.zh
  exact h.ru S (Ru.tell k6 v6) H x.1 x.2
end

/-- The k-th turn (behind the last one they are values 0). -/
def turnK (T : Nat → Nat → Int) (n k j : Nat) : Int := if k < n then T k j else if j = 0 then 1 else 0

/-- A link. -/
structure LinkAt (w : World) (q : Nat) (kd ly nn : Int) (nx : Value) : Prop where
  c0 : w.cell? ⟨q, 0, none⟩ = some (.int .i64 kd)
  c1 : w.cell? ⟨q, 1, none⟩ = some (.int .i64 ly)
  c2 : w.cell? ⟨q, 2, none⟩ = some (.int .i64 nn)
  c3 : w.cell? ⟨q, 3, none⟩ = some nx
/-- What the backend answers. -/
def BackR (kd nn : Int) (w0 w' : World) (en ev : Value) (r : Value ⊕ Value) : Prop :=
  (kd = 1 ∧ r = .inl (.tuple #[.int .i64 nn, .nilIface])) ∨
  ((kd = 2 ∨ kd = 3) ∧ ∃ q, r = .inl (.tuple #[.int .i64 0, .iface 168 (.pointer (some ⟨q, 0, none⟩))]) ∧ w0.heap.size ≤ q ∧ q < w'.heap.size ∧ q ∉ rowL ev ∧ q ∉ rowL en ∧ LinkAt w' q (kd - 1) (-1) nn .nilIface) ∨
  (kd = 4 ∧ r = .inr (.iface 166 (.int .i64 nn)))

set_option maxRecDepth 100000 in
set_option maxHeartbeats 8000000 in
theorem sw1 (e : Env) (K : EnvOk e Ok) {Ψ0 : Goroutine → World → Prop} {Ψ1 : Nat → Goroutine → World → Prop} (W : FutW e Ok Ψ0 Ψ1) (c : Frame) (cs : List Frame) (B HD C : Nat) (ta : Option Addr) (n cap : Nat) (T : Nat → Nat → Int) {y2 y3 y6 y8 y9 y10 y11 y12 y13 y14 y15 y16 y17 y18 y19 y20 y21 y22 y23 y24 y25 y26 y27 y28 y29 y30 y31 y32 y33 y34 y35 y36 y37 y38 y39 y40 y41 y42 y43 y44 y45 y46 y47 y48 y49 y50 y51 y52 y53 y54 y55 y56 y57 y58 y59 y60 y61 y62 : Value} (now nn : Int) (en ev : Value) (m : List Value) (k q : Nat) (w0 : World) (H : CW e w0 now en ev m) (S : BgS e Ok B HD C ta n) (Q : Bg e B HD C ta n cap T w0 k) (lq : e.X + 1 ≤ q) (f0 : w0.cell? ⟨q, 0, none⟩ = some (.int .i64 1)) (f1 : w0.cell? ⟨q, 1, none⟩ = some (.int .i64 nn))
    (hc : ∀ r w', CW e w' now en ev m → Bg e B HD C ta n cap T w' k → Ru e HD w0 en ev w' en ev → BackR 1 nn w0 w' en ev r → Ψ0 (G (ends c r) cs) w') :
    Ψ0 (G ((base 146).at ⟨#[.pointer (some ⟨B, 0, none⟩), .pointer (some ⟨e.T, 0, none⟩), y2, y3, .int .i64 0, .nilIface, y6, .pointer (some ⟨q, 0, none⟩), y8, y9, y10, y11, y12, y13, y14, y15, y16, y17, y18, y19, y20, y21, y22, y23, y24, y25, y26, y27, y28, y29, y30, y31, y32, y33, y34, y35, y36, y37, y38, y39, y40, y41, y42, y43, y44, y45, y46, y47, y48, y49, y50, y51, y52, y53, y54, y55, y56, y57, y58, y59, y60, y61, y62], []⟩ [.code (dropSeq 5 (Tryz.f146.body.getD .skip))]) (c :: cs)) w0 := by
  have F := W.f0
  have l1 := K.lA
  have l2 := K.lT
  have l3 := K.lJ
  have hsz := H.size
  have hsX := H.sX
  have hnX := H.nX
  have hfr : ∀ (a : Addr) (wr : Bool), e.X + 1 ≤ a.block → Ok a wr := fun a wr h => K.fr a wr (by omega) (by omega)
  unfold dropSeq
  refine F.sq ?_
  refine F.sr ?_
  simp only [rg, Nat.reduceAdd]
  refine F.oq rfl rfl rfl (fun _ => by simp [go_sem]) fun d K hK => ?_; go_simp; refine hK _ ?_; clear hK K d; try walk_nrm
  refine F.ol rfl rfl rfl fun d K hK => ?_
  go_simp
  refine hK _ (fun e hm => ?_) ?_
  · simp [go_sem, *] at hm
    subst hm
    exact evr (w := w0) (by assumption) (by first | assumption | (apply hfr <;> dsimp only <;> omega))
  clear hK K d
  try walk_nrm
  refine F.re ?_
  refine F.bl ?_
  refine F.sr ?_
  simp only [rg, Nat.reduceAdd]
  iterate 2 (refine F.oq rfl rfl rfl (fun _ => by simp [go_sem]) fun d K hK => ?_; go_simp; refine hK _ ?_; clear hK K d; try walk_nrm)
  refine F.re ?_
  refine F.cf rfl ?_
  refine F.sr ?_
  simp only [rg, Nat.reduceAdd]
  iterate 2 (refine F.oq rfl rfl rfl (fun _ => by simp [go_sem]) fun d K hK => ?_; go_simp; refine hK _ ?_; clear hK K d; try walk_nrm)
  refine F.re ?_
  refine F.cf rfl ?_
  refine F.sr ?_
  simp only [rg, Nat.reduceAdd]
  iterate 2 (refine F.oq rfl rfl rfl (fun _ => by simp [go_sem]) fun d K hK => ?_; go_simp; refine hK _ ?_; clear hK K d; try walk_nrm)
  refine F.re ?_
  refine F.cf rfl ?_
  refine F.sk ?_
  refine F.ib ?_
  refine F.sr ?_
  simp only [rg, Nat.reduceAdd]
  refine F.oq rfl rfl rfl (fun _ => by simp [go_sem]) fun d K hK => ?_; go_simp; refine hK _ ?_; clear hK K d; try walk_nrm
  refine F.ol rfl rfl rfl fun d K hK => ?_
  go_simp
  refine hK _ (fun e hm => ?_) ?_
  · simp [go_sem, *] at hm
    subst hm
    exact evr (w := w0) (by assumption) (by first | assumption | (apply hfr <;> dsimp only <;> omega))
  clear hK K d
  try walk_nrm
  iterate 2 (refine F.oq rfl rfl rfl (fun _ => by simp [go_sem]) fun d K hK => ?_; go_simp; refine hK _ ?_; clear hK K d; try walk_nrm)
  refine F.re ?_
  refine F.ctl (fun _ => stepG_ret') ?_
  refine F.leave rfl rfl Tryz.func146 (resultsC_tmp2 (by rfl) _) ?_
  exact hc (.inl _) _ H Q Ru.refl (.inl ⟨rfl, rfl⟩)

set_option maxRecDepth 100000 in
set_option maxHeartbeats 8000000 in
theorem sw4 (e : Env) (K : EnvOk e Ok) {Ψ0 : Goroutine → World → Prop} {Ψ1 : Nat → Goroutine → World → Prop} (W : FutW e Ok Ψ0 Ψ1) (c : Frame) (cs : List Frame) (B HD C : Nat) (ta : Option Addr) (n cap : Nat) (T : Nat → Nat → Int) {y2 y3 y6 y8 y9 y10 y11 y12 y13 y14 y15 y16 y17 y18 y19 y20 y21 y22 y23 y24 y25 y26 y27 y28 y29 y30 y31 y32 y33 y34 y35 y36 y37 y38 y39 y40 y41 y42 y43 y44 y45 y46 y47 y48 y49 y50 y51 y52 y53 y54 y55 y56 y57 y58 y59 y60 y61 y62 : Value} (now nn : Int) (en ev : Value) (m : List Value) (k q : Nat) (w0 : World) (H : CW e w0 now en ev m) (S : BgS e Ok B HD C ta n) (Q : Bg e B HD C ta n cap T w0 k) (lq : e.X + 1 ≤ q) (f0 : w0.cell? ⟨q, 0, none⟩ = some (.int .i64 4)) (f1 : w0.cell? ⟨q, 1, none⟩ = some (.int .i64 nn))
    (hc : ∀ r w', CW e w' now en ev m → Bg e B HD C ta n cap T w' k → Ru e HD w0 en ev w' en ev → BackR 4 nn w0 w' en ev r → Ψ0 (G (ends c r) cs) w') :
    Ψ0 (G ((base 146).at ⟨#[.pointer (some ⟨B, 0, none⟩), .pointer (some ⟨e.T, 0, none⟩), y2, y3, .int .i64 0, .nilIface, y6, .pointer (some ⟨q, 0, none⟩), y8, y9, y10, y11, y12, y13, y14, y15, y16, y17, y18, y19, y20, y21, y22, y23, y24, y25, y26, y27, y28, y29, y30, y31, y32, y33, y34, y35, y36, y37, y38, y39, y40, y41, y42, y43, y44, y45, y46, y47, y48, y49, y50, y51, y52, y53, y54, y55, y56, y57, y58, y59, y60, y61, y62], []⟩ [.code (dropSeq 5 (Tryz.f146.body.getD .skip))]) (c :: cs)) w0 := by
  have F := W.f0
  have l1 := K.lA
  have l2 := K.lT
  have l3 := K.lJ
  have hsz := H.size
  have hsX := H.sX
  have hnX := H.nX
  have hfr : ∀ (a : Addr) (wr : Bool), e.X + 1 ≤ a.block → Ok a wr := fun a wr h => K.fr a wr (by omega) (by omega)
  unfold dropSeq
  refine F.sq ?_
  refine F.sr ?_
  simp only [rg, Nat.reduceAdd]
  refine F.oq rfl rfl rfl (fun _ => by simp [go_sem]) fun d K hK => ?_; go_simp; refine hK _ ?_; clear hK K d; try walk_nrm
  refine F.ol rfl rfl rfl fun d K hK => ?_
  go_simp
  refine hK _ (fun e hm => ?_) ?_
  · simp [go_sem, *] at hm
    subst hm
    exact evr (w := w0) (by assumption) (by first | assumption | (apply hfr <;> dsimp only <;> omega))
  clear hK K d
  try walk_nrm
  refine F.re ?_
  refine F.bl ?_
  refine F.sr ?_
  simp only [rg, Nat.reduceAdd]
  iterate 2 (refine F.oq rfl rfl rfl (fun _ => by simp [go_sem]) fun d K hK => ?_; go_simp; refine hK _ ?_; clear hK K d; try walk_nrm)
  refine F.re ?_
  refine F.cf rfl ?_
  refine F.sr ?_
  simp only [rg, Nat.reduceAdd]
  iterate 2 (refine F.oq rfl rfl rfl (fun _ => by simp [go_sem]) fun d K hK => ?_; go_simp; refine hK _ ?_; clear hK K d; try walk_nrm)
  refine F.re ?_
  refine F.cf rfl ?_
  refine F.sr ?_
  simp only [rg, Nat.reduceAdd]
  iterate 2 (refine F.oq rfl rfl rfl (fun _ => by simp [go_sem]) fun d K hK => ?_; go_simp; refine hK _ ?_; clear hK K d; try walk_nrm)
  refine F.re ?_
  refine F.ct rfl ?_
  refine F.rr ?_
  simp only [rg, Nat.reduceAdd]
  refine F.oq rfl rfl rfl (fun _ => by simp [go_sem]) fun d K hK => ?_; go_simp; refine hK _ ?_; clear hK K d; try walk_nrm
  refine F.ol rfl rfl rfl fun d K hK => ?_
  go_simp
  refine hK _ (fun e hm => ?_) ?_
  · simp [go_sem, *] at hm
    subst hm
    exact evr (w := w0) (by assumption) (by first | assumption | (apply hfr <;> dsimp only <;> omega))
  clear hK K d
  try walk_nrm
  refine F.oq rfl rfl rfl (fun _ => by first | (simp [go_sem]; done) | simp [go_sem, Instr.makeInterface, Instr.makeFunc, *]) fun d K hK => ?_; go_simp; refine hK _ ?_; clear hK K d; try walk_nrm
  refine F.panic rfl rfl rfl rfl rfl ?_
  refine F.outwards rfl Tryz.func146 ?_
  exact hc (.inr _) _ H Q Ru.refl (.inr (.inr ⟨rfl, rfl⟩))

set_option maxRecDepth 100000 in
set_option maxHeartbeats 8000000 in
theorem sw2 (e : Env) (K : EnvOk e Ok) {Ψ0 : Goroutine → World → Prop} {Ψ1 : Nat → Goroutine → World → Prop} (W : FutW e Ok Ψ0 Ψ1) (c : Frame) (cs : List Frame) (B HD C : Nat) (ta : Option Addr) (n cap : Nat) (T : Nat → Nat → Int) {y2 y3 y6 y8 y9 y10 y11 y12 y13 y14 y15 y16 y17 y18 y19 y20 y21 y22 y23 y24 y25 y26 y27 y28 y29 y30 y31 y32 y33 y34 y35 y36 y37 y38 y39 y40 y41 y42 y43 y44 y45 y46 y47 y48 y49 y50 y51 y52 y53 y54 y55 y56 y57 y58 y59 y60 y61 y62 : Value} (now nn : Int) (en ev : Value) (m : List Value) (k q : Nat) (w0 : World) (H : CW e w0 now en ev m) (S : BgS e Ok B HD C ta n) (Q : Bg e B HD C ta n cap T w0 k) (lq : e.X + 1 ≤ q) (f0 : w0.cell? ⟨q, 0, none⟩ = some (.int .i64 2)) (f1 : w0.cell? ⟨q, 1, none⟩ = some (.int .i64 nn))
    (hc : ∀ r w', CW e w' now en ev m → Bg e B HD C ta n cap T w' k → Ru e HD w0 en ev w' en ev → BackR 2 nn w0 w' en ev r → Ψ0 (G (ends c r) cs) w') :
    Ψ0 (G ((base 146).at ⟨#[.pointer (some ⟨B, 0, none⟩), .pointer (some ⟨e.T, 0, none⟩), y2, y3, .int .i64 0, .nilIface, y6, .pointer (some ⟨q, 0, none⟩), y8, y9, y10, y11, y12, y13, y14, y15, y16, y17, y18, y19, y20, y21, y22, y23, y24, y25, y26, y27, y28, y29, y30, y31, y32, y33, y34, y35, y36, y37, y38, y39, y40, y41, y42, y43, y44, y45, y46, y47, y48, y49, y50, y51, y52, y53, y54, y55, y56, y57, y58, y59, y60, y61, y62], []⟩ [.code (dropSeq 5 (Tryz.f146.body.getD .skip))]) (c :: cs)) w0 := by
  have F := W.f0
  have l1 := K.lA
  have l2 := K.lT
  have l3 := K.lJ
  have hsz := H.size
  have hsX := H.sX
  have hnX := H.nX
  have hfr : ∀ (a : Addr) (wr : Bool), e.X + 1 ≤ a.block → Ok a wr := fun a wr h => K.fr a wr (by omega) (by omega)
  unfold dropSeq
  refine F.sq ?_
  refine F.sr ?_
  simp only [rg, Nat.reduceAdd]
  refine F.oq rfl rfl rfl (fun _ => by simp [go_sem]) fun d K hK => ?_; go_simp; refine hK _ ?_; clear hK K d; try walk_nrm
  refine F.ol rfl rfl rfl fun d K hK => ?_
  go_simp
  refine hK _ (fun e hm => ?_) ?_
  · simp [go_sem, *] at hm
    subst hm
    exact evr (w := w0) (by assumption) (by first | assumption | (apply hfr <;> dsimp only <;> omega))
  clear hK K d
  try walk_nrm
  refine F.re ?_
  refine F.bl ?_
  refine F.sr ?_
  simp only [rg, Nat.reduceAdd]
  iterate 2 (refine F.oq rfl rfl rfl (fun _ => by simp [go_sem]) fun d K hK => ?_; go_simp; refine hK _ ?_; clear hK K d; try walk_nrm)
  refine F.re ?_
  refine F.ct rfl ?_
  refine F.sq ?_
  have okB := S.ok ⟨B, 1, none⟩ false (by simp)
  have hB1 := Q.b1
  refine F.drawB (γ := Unit) (n := 10) mixed [[], [0], [1], [], [3], [2, 4], [5], [5], [0, 1, 2, 3, 4, 5, 6, 7], [0, 1, 2, 3, 4, 5, 6, 7, 8]] rfl (by kernel_rfl) (fun b g => [(38, sel (b 0) (.pointer (some ⟨B, 0, none⟩)) (y38)), (39, sel (b 1) (.pointer (some ⟨B, 0, none⟩)) (y39)), (40, sel (b 2) (.pointer (some ⟨B, 0, none⟩)) (y40)), (41, sel (b 3) (.pointer (some ⟨q, 1, none⟩)) (y41)), (42, sel (b 4) (.int .i64 nn) (y42)), (43, sel (b 5) (.tuple #[.int .i64 0, .iface 168 (.pointer (some ⟨w0.heap.size, 0, none⟩))]) (y43)), (44, sel (b 6) (.int .i64 0) (y44)), (45, sel (b 7) (.iface 168 (.pointer (some ⟨w0.heap.size, 0, none⟩))) (y45)), (4, sel (b 8) (.int .i64 0) (.int .i64 0)), (5, sel (b 9) (.iface 168 (.pointer (some ⟨w0.heap.size, 0, none⟩))) (.nilIface))]) (fun b g w => (b 5 = false → w = w0) ∧ (b 5 = true → w = w0.alloc (.cells #[.int .i64 1, .int .i64 (-1), .int .i64 nn, .nilIface] 173))) (()) (by simp only [pu, Nat.reduceAdd, Nat.reduceEqDiff, reduceIte]) (⟨fun _ => rfl, fun h => by cases h⟩) (all_cons ?_ (all_cons ?_ (all_cons ?_ (all_cons ?_ (all_cons ?_ (all_cons ?_ (all_cons ?_ (all_cons ?_ (all_cons ?_ (all_cons ?_ (all_nil))))))))))) ?_
  · intro b g w hI hcl hbi hdp rest hre hkk
    obtain ⟨hwf, hwt⟩ := hI
    replace hbi : b 0 = false := hbi
    have nb1 := nbf (hcl 1 0 rfl) hbi
    have nb2 := nbf (hcl 2 1 rfl) nb1
    have nb5 := nbf (hcl 5 2 rfl) nb2
    have nb8 := nbf (hcl 8 0 rfl) hbi
    have nb9 := nbf (hcl 9 0 rfl) hbi
    simp only [nb1, nb2, nb5, nb8, nb9, hbi, pu, Nat.reduceAdd, Nat.reduceEqDiff, reduceIte]
    have ewc := (hwf nb5).symm
    subst ewc
    refine F.oq rfl rfl rfl (fun _ => by simp [go_sem]) fun d K hK => ?_; go_simp; refine hK _ ?_; clear hK K d; try walk_nrm
    have hk2 := hkk g _ ⟨fun _ => rfl, fun h => no nb5 h⟩
    simp only [nb1, nb2, nb5, nb8, nb9, hbi, pu, Nat.reduceAdd, Nat.reduceEqDiff, reduceIte] at hk2
    exact hk2
  · intro b g w hI hcl hbi hdp rest hre hkk
    obtain ⟨hwf, hwt⟩ := hI
    replace hbi : b 1 = false := hbi
    have d0 := hdp 0 rfl
    have nb2 := nbf (hcl 2 1 rfl) hbi
    have nb5 := nbf (hcl 5 2 rfl) nb2
    have nb8 := nbf (hcl 8 1 rfl) hbi
    have nb9 := nbf (hcl 9 1 rfl) hbi
    simp only [d0, nb2, nb5, nb8, nb9, hbi, pu, Nat.reduceAdd, Nat.reduceEqDiff, reduceIte]
    have ewc := (hwf nb5).symm
    subst ewc
    refine F.oq rfl rfl rfl (fun _ => by simp [go_sem]) fun d K hK => ?_; go_simp; refine hK _ ?_; clear hK K d; try walk_nrm
    have hk2 := hkk g _ ⟨fun _ => rfl, fun h => no nb5 h⟩
    simp only [d0, nb2, nb5, nb8, nb9, hbi, pu, Nat.reduceAdd, Nat.reduceEqDiff, reduceIte] at hk2
    exact hk2
  · intro b g w hI hcl hbi hdp rest hre hkk
    obtain ⟨hwf, hwt⟩ := hI
    replace hbi : b 2 = false := hbi
    have d1 := hdp 1 rfl
    have d0 := hcl 1 0 rfl d1
    have nb5 := nbf (hcl 5 2 rfl) hbi
    have nb8 := nbf (hcl 8 2 rfl) hbi
    have nb9 := nbf (hcl 9 2 rfl) hbi
    simp only [d1, d0, nb5, nb8, nb9, hbi, pu, Nat.reduceAdd, Nat.reduceEqDiff, reduceIte]
    have ewc := (hwf nb5).symm
    subst ewc
    refine F.oq rfl rfl rfl (fun _ => by simp [go_sem]) fun d K hK => ?_; go_simp; refine hK _ ?_; clear hK K d; try walk_nrm
    have hk2 := hkk g _ ⟨fun _ => rfl, fun h => no nb5 h⟩
    simp only [d1, d0, nb5, nb8, nb9, hbi, pu, Nat.reduceAdd, Nat.reduceEqDiff, reduceIte] at hk2
    exact hk2
  · intro b g w hI hcl hbi hdp rest hre hkk
    obtain ⟨hwf, hwt⟩ := hI
    replace hbi : b 3 = false := hbi
    have nb4 := nbf (hcl 4 3 rfl) hbi
    have nb5 := nbf (hcl 5 4 rfl) nb4
    have nb8 := nbf (hcl 8 3 rfl) hbi
    have nb9 := nbf (hcl 9 3 rfl) hbi
    simp only [nb4, nb5, nb8, nb9, hbi, pu, Nat.reduceAdd, Nat.reduceEqDiff, reduceIte]
    have ewc := (hwf nb5).symm
    subst ewc
    refine F.oq rfl rfl rfl (fun _ => by simp [go_sem]) fun d K hK => ?_; go_simp; refine hK _ ?_; clear hK K d; try walk_nrm
    have hk2 := hkk g _ ⟨fun _ => rfl, fun h => no nb5 h⟩
    simp only [nb4, nb5, nb8, nb9, hbi, pu, Nat.reduceAdd, Nat.reduceEqDiff, reduceIte] at hk2
    exact hk2
  · intro b g w hI hcl hbi hdp rest hre hkk
    obtain ⟨hwf, hwt⟩ := hI
    replace hbi : b 4 = false := hbi
    have d3 := hdp 3 rfl
    have nb5 := nbf (hcl 5 4 rfl) hbi
    have nb8 := nbf (hcl 8 4 rfl) hbi
    have nb9 := nbf (hcl 9 4 rfl) hbi
    simp only [d3, nb5, nb8, nb9, hbi, pu, Nat.reduceAdd, Nat.reduceEqDiff, reduceIte]
    have ewc := (hwf nb5).symm
    subst ewc
    refine F.ol rfl rfl rfl fun d K hK => ?_
    go_simp
    refine hK _ (fun e hm => ?_) ?_
    · simp [go_sem, *] at hm
      subst hm
      exact evr (w := w0) (by assumption) (by first | assumption | (apply hfr <;> dsimp only <;> omega))
    clear hK K d
    try walk_nrm
    have hk2 := hkk g _ ⟨fun _ => rfl, fun h => no nb5 h⟩
    simp only [d3, nb5, nb8, nb9, hbi, pu, Nat.reduceAdd, Nat.reduceEqDiff, reduceIte] at hk2
    exact hk2
  · intro b g w hI hcl hbi hdp rest hre hkk
    obtain ⟨hwf, hwt⟩ := hI
    replace hbi : b 5 = false := hbi
    have d2 := hdp 2 rfl
    have d4 := hdp 4 rfl
    have d3 := hcl 4 3 rfl d4
    have d1 := hcl 2 1 rfl d2
    have d0 := hcl 1 0 rfl d1
    have nb6 := nbf (hcl 6 5 rfl) hbi
    have nb7 := nbf (hcl 7 5 rfl) hbi
    have nb8 := nbf (hcl 8 5 rfl) hbi
    have nb9 := nbf (hcl 9 5 rfl) hbi
    simp only [d2, d4, d3, d1, d0, nb6, nb7, nb8, nb9, hbi, pu, Nat.reduceAdd, Nat.reduceEqDiff, reduceIte]
    have ewc := (hwf hbi).symm
    subst ewc
    refine F.enter rfl rfl (by decide) (fun _ => run_call_body rfl Tryz.func151 (by rfl) (by rfl)) (fun _ => events_call_body rfl Tryz.func151 (by rfl) (by rfl) _) ?_
    walk_nrm
    refine fail_x B 1 (-1) nn w0 hB1 okB _ F _ _ (fun v w9 hp => ?_)
    obtain ⟨rfl, hw9⟩ := hp
    rw [Frame.finish_at]
    try walk_nrm
    have hk2 := hkk g _ ⟨fun h => by simp [tick] at h, fun _ => hw9⟩
    simp only [d2, d4, d3, d1, d0, nb6, nb7, nb8, nb9, hbi, pu, Nat.reduceAdd, Nat.reduceEqDiff, reduceIte] at hk2
    exact hk2
  · intro b g w hI hcl hbi hdp rest hre hkk
    obtain ⟨hwf, hwt⟩ := hI
    replace hbi : b 6 = false := hbi
    have d5 := hdp 5 rfl
    have d2 := hcl 5 2 rfl d5
    have d4 := hcl 5 4 rfl d5
    have d3 := hcl 4 3 rfl d4
    have d1 := hcl 2 1 rfl d2
    have d0 := hcl 1 0 rfl d1
    have nb8 := nbf (hcl 8 6 rfl) hbi
    have nb9 := nbf (hcl 9 6 rfl) hbi
    simp only [d5, d2, d4, d3, d1, d0, nb8, nb9, hbi, pu, Nat.reduceAdd, Nat.reduceEqDiff, reduceIte]
    have ewt := hwt d5
    subst ewt
    refine F.oq rfl rfl rfl (fun _ => by simp [go_sem]) fun d K hK => ?_; go_simp; refine hK _ ?_; clear hK K d; try walk_nrm
    have hk2 := hkk g _ ⟨fun h => absurd (show b 5 = false from h) (by rw [d5]; decide), fun _ => rfl⟩
    simp only [d5, d2, d4, d3, d1, d0, nb8, nb9, hbi, pu, Nat.reduceAdd, Nat.reduceEqDiff, reduceIte] at hk2
    exact hk2
  · intro b g w hI hcl hbi hdp rest hre hkk
    obtain ⟨hwf, hwt⟩ := hI
    replace hbi : b 7 = false := hbi
    have d5 := hdp 5 rfl
    have d2 := hcl 5 2 rfl d5
    have d4 := hcl 5 4 rfl d5
    have d3 := hcl 4 3 rfl d4
    have d1 := hcl 2 1 rfl d2
    have d0 := hcl 1 0 rfl d1
    have nb8 := nbf (hcl 8 7 rfl) hbi
    have nb9 := nbf (hcl 9 7 rfl) hbi
    simp only [d5, d2, d4, d3, d1, d0, nb8, nb9, hbi, pu, Nat.reduceAdd, Nat.reduceEqDiff, reduceIte]
    have ewt := hwt d5
    subst ewt
    refine F.oq rfl rfl rfl (fun _ => by simp [go_sem]) fun d K hK => ?_; go_simp; refine hK _ ?_; clear hK K d; try walk_nrm
    have hk2 := hkk g _ ⟨fun h => absurd (show b 5 = false from h) (by rw [d5]; decide), fun _ => rfl⟩
    simp only [d5, d2, d4, d3, d1, d0, nb8, nb9, hbi, pu, Nat.reduceAdd, Nat.reduceEqDiff, reduceIte] at hk2
    exact hk2
  · intro b g w hI hcl hbi hdp rest hre hkk
    obtain ⟨hwf, hwt⟩ := hI
    replace hbi : b 8 = false := hbi
    have d0 := hdp 0 rfl
    have d1 := hdp 1 rfl
    have d2 := hdp 2 rfl
    have d3 := hdp 3 rfl
    have d4 := hdp 4 rfl
    have d5 := hdp 5 rfl
    have d6 := hdp 6 rfl
    have d7 := hdp 7 rfl
    have nb9 := nbf (hcl 9 8 rfl) hbi
    simp only [d0, d1, d2, d3, d4, d5, d6, d7, nb9, hbi, pu, Nat.reduceAdd, Nat.reduceEqDiff, reduceIte]
    have ewt := hwt d5
    subst ewt
    refine F.oq rfl rfl rfl (fun _ => by simp [go_sem]) fun d K hK => ?_; go_simp; refine hK _ ?_; clear hK K d; try walk_nrm
    have hk2 := hkk g _ ⟨fun h => absurd (show b 5 = false from h) (by rw [d5]; decide), fun _ => rfl⟩
    simp only [d0, d1, d2, d3, d4, d5, d6, d7, nb9, hbi, pu, Nat.reduceAdd, Nat.reduceEqDiff, reduceIte] at hk2
    exact hk2
  · intro b g w hI hcl hbi hdp rest hre hkk
    obtain ⟨hwf, hwt⟩ := hI
    replace hbi : b 9 = false := hbi
    have d0 := hdp 0 rfl
    have d1 := hdp 1 rfl
    have d2 := hdp 2 rfl
    have d3 := hdp 3 rfl
    have d4 := hdp 4 rfl
    have d5 := hdp 5 rfl
    have d6 := hdp 6 rfl
    have d7 := hdp 7 rfl
    have d8 := hdp 8 rfl
    simp only [d0, d1, d2, d3, d4, d5, d6, d7, d8, hbi, pu, Nat.reduceAdd, Nat.reduceEqDiff, reduceIte]
    have ewt := hwt d5
    subst ewt
    refine F.oq rfl rfl rfl (fun _ => by simp [go_sem]) fun d K hK => ?_; go_simp; refine hK _ ?_; clear hK K d; try walk_nrm
    have hk2 := hkk g _ ⟨fun h => absurd (show b 5 = false from h) (by rw [d5]; decide), fun _ => rfl⟩
    simp only [d0, d1, d2, d3, d4, d5, d6, d7, d8, hbi, pu, Nat.reduceAdd, Nat.reduceEqDiff, reduceIte] at hk2
    exact hk2
  intro b g w hI hall
  obtain ⟨hwf, hwt⟩ := hI
  simp only [hall 0 (by decide), hall 1 (by decide), hall 2 (by decide), hall 3 (by decide), hall 4 (by decide), hall 5 (by decide), hall 6 (by decide), hall 7 (by decide), hall 8 (by decide), hall 9 (by decide), pu, Nat.reduceAdd, Nat.reduceEqDiff, reduceIte]
  refine F.re ?_
  refine F.ctl (fun _ => stepG_ret') ?_
  refine F.leave rfl rfl Tryz.func146 (resultsC_tmp2 (by rfl) _) ?_
  have hw9 := hwt (hall 5 (by decide))
  generalize hn9 : w0.heap.size = q9 at *
  have r9 : Ru e HD w0 en ev w en ev := Ru.own (Kp.alloc (L := []) hw9.symm) (by simp)
  have sz9 := sz_al hw9.symm hn9
  have H9 : CW e w _ en ev m := H.keep (Kp.alloc (L := []) hw9.symm) (by simp) l1 l2 l3 (by simp)
  have c0 := cl_new (i := 0) hw9.symm hn9 rfl
  have c1 := cl_new (i := 1) hw9.symm hn9 rfl
  have c2 := cl_new (i := 2) hw9.symm hn9 rfl
  have c3 := cl_new (i := 3) hw9.symm hn9 rfl
  have k9 : Kp [] w0 w := Kp.alloc hw9.symm
  refine hc (.inl _) _ H9 (Q.ru S r9 H (k9.cell _ _ (by simp) Q.h0) ((k9.froz _ _ (by simp) Q.h0).trans Q.zh)) r9 (.inr (.inl ⟨by simp, q9, rfl, by omega, by omega, fun z => by have := (H.rowN z).2; omega, fun z => by have := (H.entN z).2; omega, ⟨c0, c1, c2, c3⟩⟩))

set_option maxRecDepth 100000 in
set_option maxHeartbeats 8000000 in
theorem sw3 (e : Env) (K : EnvOk e Ok) {Ψ0 : Goroutine → World → Prop} {Ψ1 : Nat → Goroutine → World → Prop} (W : FutW e Ok Ψ0 Ψ1) (c : Frame) (cs : List Frame) (B HD C : Nat) (ta : Option Addr) (n cap : Nat) (T : Nat → Nat → Int) {y2 y3 y6 y8 y9 y10 y11 y12 y13 y14 y15 y16 y17 y18 y19 y20 y21 y22 y23 y24 y25 y26 y27 y28 y29 y30 y31 y32 y33 y34 y35 y36 y37 y38 y39 y40 y41 y42 y43 y44 y45 y46 y47 y48 y49 y50 y51 y52 y53 y54 y55 y56 y57 y58 y59 y60 y61 y62 : Value} (now nn : Int) (en ev : Value) (m : List Value) (k q : Nat) (w0 : World) (H : CW e w0 now en ev m) (S : BgS e Ok B HD C ta n) (Q : Bg e B HD C ta n cap T w0 k) (lq : e.X + 1 ≤ q) (f0 : w0.cell? ⟨q, 0, none⟩ = some (.int .i64 3)) (f1 : w0.cell? ⟨q, 1, none⟩ = some (.int .i64 nn))
    (hc : ∀ r w', CW e w' now en ev m → Bg e B HD C ta n cap T w' k → Ru e HD w0 en ev w' en ev → BackR 3 nn w0 w' en ev r → Ψ0 (G (ends c r) cs) w') :
    Ψ0 (G ((base 146).at ⟨#[.pointer (some ⟨B, 0, none⟩), .pointer (some ⟨e.T, 0, none⟩), y2, y3, .int .i64 0, .nilIface, y6, .pointer (some ⟨q, 0, none⟩), y8, y9, y10, y11, y12, y13, y14, y15, y16, y17, y18, y19, y20, y21, y22, y23, y24, y25, y26, y27, y28, y29, y30, y31, y32, y33, y34, y35, y36, y37, y38, y39, y40, y41, y42, y43, y44, y45, y46, y47, y48, y49, y50, y51, y52, y53, y54, y55, y56, y57, y58, y59, y60, y61, y62], []⟩ [.code (dropSeq 5 (Tryz.f146.body.getD .skip))]) (c :: cs)) w0 := by
  have F := W.f0
  have l1 := K.lA
  have l2 := K.lT
  have l3 := K.lJ
  have hsz := H.size
  have hsX := H.sX
  have hnX := H.nX
  have hfr : ∀ (a : Addr) (wr : Bool), e.X + 1 ≤ a.block → Ok a wr := fun a wr h => K.fr a wr (by omega) (by omega)
  unfold dropSeq
  refine F.sq ?_
  refine F.sr ?_
  simp only [rg, Nat.reduceAdd]
  refine F.oq rfl rfl rfl (fun _ => by simp [go_sem]) fun d K hK => ?_; go_simp; refine hK _ ?_; clear hK K d; try walk_nrm
  refine F.ol rfl rfl rfl fun d K hK => ?_
  go_simp
  refine hK _ (fun e hm => ?_) ?_
  · simp [go_sem, *] at hm
    subst hm
    exact evr (w := w0) (by assumption) (by first | assumption | (apply hfr <;> dsimp only <;> omega))
  clear hK K d
  try walk_nrm
  refine F.re ?_
  refine F.bl ?_
  refine F.sr ?_
  simp only [rg, Nat.reduceAdd]
  iterate 2 (refine F.oq rfl rfl rfl (fun _ => by simp [go_sem]) fun d K hK => ?_; go_simp; refine hK _ ?_; clear hK K d; try walk_nrm)
  refine F.re ?_
  refine F.cf rfl ?_
  refine F.sr ?_
  simp only [rg, Nat.reduceAdd]
  iterate 2 (refine F.oq rfl rfl rfl (fun _ => by simp [go_sem]) fun d K hK => ?_; go_simp; refine hK _ ?_; clear hK K d; try walk_nrm)
  refine F.re ?_
  refine F.ct rfl ?_
  refine F.sq ?_
  have okB := S.ok ⟨B, 1, none⟩ false (by simp)
  have hB1 := Q.b1
  refine F.drawB (γ := Unit) (n := 10) mixed [[], [0], [1], [], [3], [2, 4], [5], [5], [0, 1, 2, 3, 4, 5, 6, 7], [0, 1, 2, 3, 4, 5, 6, 7, 8]] rfl (by kernel_rfl) (fun b g => [(48, sel (b 0) (.pointer (some ⟨B, 0, none⟩)) (y48)), (49, sel (b 1) (.pointer (some ⟨B, 0, none⟩)) (y49)), (50, sel (b 2) (.pointer (some ⟨B, 0, none⟩)) (y50)), (51, sel (b 3) (.pointer (some ⟨q, 1, none⟩)) (y51)), (52, sel (b 4) (.int .i64 nn) (y52)), (53, sel (b 5) (.tuple #[.int .i64 0, .iface 168 (.pointer (some ⟨w0.heap.size, 0, none⟩))]) (y53)), (54, sel (b 6) (.int .i64 0) (y54)), (55, sel (b 7) (.iface 168 (.pointer (some ⟨w0.heap.size, 0, none⟩))) (y55)), (4, sel (b 8) (.int .i64 0) (.int .i64 0)), (5, sel (b 9) (.iface 168 (.pointer (some ⟨w0.heap.size, 0, none⟩))) (.nilIface))]) (fun b g w => (b 5 = false → w = w0) ∧ (b 5 = true → w = w0.alloc (.cells #[.int .i64 2, .int .i64 (-1), .int .i64 nn, .nilIface] 173))) (()) (by simp only [pu, Nat.reduceAdd, Nat.reduceEqDiff, reduceIte]) (⟨fun _ => rfl, fun h => by cases h⟩) (all_cons ?_ (all_cons ?_ (all_cons ?_ (all_cons ?_ (all_cons ?_ (all_cons ?_ (all_cons ?_ (all_cons ?_ (all_cons ?_ (all_cons ?_ (all_nil))))))))))) ?_
  · intro b g w hI hcl hbi hdp rest hre hkk
    obtain ⟨hwf, hwt⟩ := hI
    replace hbi : b 0 = false := hbi
    have nb1 := nbf (hcl 1 0 rfl) hbi
    have nb2 := nbf (hcl 2 1 rfl) nb1
    have nb5 := nbf (hcl 5 2 rfl) nb2
    have nb8 := nbf (hcl 8 0 rfl) hbi
    have nb9 := nbf (hcl 9 0 rfl) hbi
    simp only [nb1, nb2, nb5, nb8, nb9, hbi, pu, Nat.reduceAdd, Nat.reduceEqDiff, reduceIte]
    have ewc := (hwf nb5).symm
    subst ewc
    refine F.oq rfl rfl rfl (fun _ => by simp [go_sem]) fun d K hK => ?_; go_simp; refine hK _ ?_; clear hK K d; try walk_nrm
    have hk2 := hkk g _ ⟨fun _ => rfl, fun h => no nb5 h⟩
    simp only [nb1, nb2, nb5, nb8, nb9, hbi, pu, Nat.reduceAdd, Nat.reduceEqDiff, reduceIte] at hk2
    exact hk2
  · intro b g w hI hcl hbi hdp rest hre hkk
    obtain ⟨hwf, hwt⟩ := hI
    replace hbi : b 1 = false := hbi
    have d0 := hdp 0 rfl
    have nb2 := nbf (hcl 2 1 rfl) hbi
    have nb5 := nbf (hcl 5 2 rfl) nb2
    have nb8 := nbf (hcl 8 1 rfl) hbi
    have nb9 := nbf (hcl 9 1 rfl) hbi
    simp only [d0, nb2, nb5, nb8, nb9, hbi, pu, Nat.reduceAdd, Nat.reduceEqDiff, reduceIte]
    have ewc := (hwf nb5).symm
    subst ewc
    refine F.oq rfl rfl rfl (fun _ => by simp [go_sem]) fun d K hK => ?_; go_simp; refine hK _ ?_; clear hK K d; try walk_nrm
    have hk2 := hkk g _ ⟨fun _ => rfl, fun h => no nb5 h⟩
    simp only [d0, nb2, nb5, nb8, nb9, hbi, pu, Nat.reduceAdd, Nat.reduceEqDiff, reduceIte] at hk2
    exact hk2
  · intro b g w hI hcl hbi hdp rest hre hkk
    obtain ⟨hwf, hwt⟩ := hI
    replace hbi : b 2 = false := hbi
    have d1 := hdp 1 rfl
    have d0 := hcl 1 0 rfl d1
    have nb5 := nbf (hcl 5 2 rfl) hbi
    have nb8 := nbf (hcl 8 2 rfl) hbi
    have nb9 := nbf (hcl 9 2 rfl) hbi
    simp only [d1, d0, nb5, nb8, nb9, hbi, pu, Nat.reduceAdd, Nat.reduceEqDiff, reduceIte]
    have ewc := (hwf nb5).symm
    subst ewc
    refine F.oq rfl rfl rfl (fun _ => by simp [go_sem]) fun d K hK => ?_; go_simp; refine hK _ ?_; clear hK K d; try walk_nrm
    have hk2 := hkk g _ ⟨fun _ => rfl, fun h => no nb5 h⟩
    simp only [d1, d0, nb5, nb8, nb9, hbi, pu, Nat.reduceAdd, Nat.reduceEqDiff, reduceIte] at hk2
    exact hk2
  · intro b g w hI hcl hbi hdp rest hre hkk
    obtain ⟨hwf, hwt⟩ := hI
    replace hbi : b 3 = false := hbi
    have nb4 := nbf (hcl 4 3 rfl) hbi
    have nb5 := nbf (hcl 5 4 rfl) nb4
    have nb8 := nbf (hcl 8 3 rfl) hbi
    have nb9 := nbf (hcl 9 3 rfl) hbi
    simp only [nb4, nb5, nb8, nb9, hbi, pu, Nat.reduceAdd, Nat.reduceEqDiff, reduceIte]
    have ewc := (hwf nb5).symm
    subst ewc
    refine F.oq rfl rfl rfl (fun _ => by simp [go_sem]) fun d K hK => ?_; go_simp; refine hK _ ?_; clear hK K d; try walk_nrm
    have hk2 := hkk g _ ⟨fun _ => rfl, fun h => no nb5 h⟩
    simp only [nb4, nb5, nb8, nb9, hbi, pu, Nat.reduceAdd, Nat.reduceEqDiff, reduceIte] at hk2
    exact hk2
  · intro b g w hI hcl hbi hdp rest hre hkk
    obtain ⟨hwf, hwt⟩ := hI
    replace hbi : b 4 = false := hbi
    have d3 := hdp 3 rfl
    have nb5 := nbf (hcl 5 4 rfl) hbi
    have nb8 := nbf (hcl 8 4 rfl) hbi
    have nb9 := nbf (hcl 9 4 rfl) hbi
    simp only [d3, nb5, nb8, nb9, hbi, pu, Nat.reduceAdd, Nat.reduceEqDiff, reduceIte]
    have ewc := (hwf nb5).symm
    subst ewc
    refine F.ol rfl rfl rfl fun d K hK => ?_
    go_simp
    refine hK _ (fun e hm => ?_) ?_
    · simp [go_sem, *] at hm
      subst hm
      exact evr (w := w0) (by assumption) (by first | assumption | (apply hfr <;> dsimp only <;> omega))
    clear hK K d
    try walk_nrm
    have hk2 := hkk g _ ⟨fun _ => rfl, fun h => no nb5 h⟩
    simp only [d3, nb5, nb8, nb9, hbi, pu, Nat.reduceAdd, Nat.reduceEqDiff, reduceIte] at hk2
    exact hk2
  · intro b g w hI hcl hbi hdp rest hre hkk
    obtain ⟨hwf, hwt⟩ := hI
    replace hbi : b 5 = false := hbi
    have d2 := hdp 2 rfl
    have d4 := hdp 4 rfl
    have d3 := hcl 4 3 rfl d4
    have d1 := hcl 2 1 rfl d2
    have d0 := hcl 1 0 rfl d1
    have nb6 := nbf (hcl 6 5 rfl) hbi
    have nb7 := nbf (hcl 7 5 rfl) hbi
    have nb8 := nbf (hcl 8 5 rfl) hbi
    have nb9 := nbf (hcl 9 5 rfl) hbi
    simp only [d2, d4, d3, d1, d0, nb6, nb7, nb8, nb9, hbi, pu, Nat.reduceAdd, Nat.reduceEqDiff, reduceIte]
    have ewc := (hwf hbi).symm
    subst ewc
    refine F.enter rfl rfl (by decide) (fun _ => run_call_body rfl Tryz.func151 (by rfl) (by rfl)) (fun _ => events_call_body rfl Tryz.func151 (by rfl) (by rfl) _) ?_
    walk_nrm
    refine fail_x B 2 (-1) nn w0 hB1 okB _ F _ _ (fun v w9 hp => ?_)
    obtain ⟨rfl, hw9⟩ := hp
    rw [Frame.finish_at]
    try walk_nrm
    have hk2 := hkk g _ ⟨fun h => by simp [tick] at h, fun _ => hw9⟩
    simp only [d2, d4, d3, d1, d0, nb6, nb7, nb8, nb9, hbi, pu, Nat.reduceAdd, Nat.reduceEqDiff, reduceIte] at hk2
    exact hk2
  · intro b g w hI hcl hbi hdp rest hre hkk
    obtain ⟨hwf, hwt⟩ := hI
    replace hbi : b 6 = false := hbi
    have d5 := hdp 5 rfl
    have d2 := hcl 5 2 rfl d5
    have d4 := hcl 5 4 rfl d5
    have d3 := hcl 4 3 rfl d4
    have d1 := hcl 2 1 rfl d2
    have d0 := hcl 1 0 rfl d1
    have nb8 := nbf (hcl 8 6 rfl) hbi
    have nb9 := nbf (hcl 9 6 rfl) hbi
    simp only [d5, d2, d4, d3, d1, d0, nb8, nb9, hbi, pu, Nat.reduceAdd, Nat.reduceEqDiff, reduceIte]
    have ewt := hwt d5
    subst ewt
    refine F.oq rfl rfl rfl (fun _ => by simp [go_sem]) fun d K hK => ?_; go_simp; refine hK _ ?_; clear hK K d; try walk_nrm
    have hk2 := hkk g _ ⟨fun h => absurd (show b 5 = false from h) (by rw [d5]; decide), fun _ => rfl⟩
    simp only [d5, d2, d4, d3, d1, d0, nb8, nb9, hbi, pu, Nat.reduceAdd, Nat.reduceEqDiff, reduceIte] at hk2
    exact hk2
  · intro b g w hI hcl hbi hdp rest hre hkk
    obtain ⟨hwf, hwt⟩ := hI
    replace hbi : b 7 = false := hbi
    have d5 := hdp 5 rfl
    have d2 := hcl 5 2 rfl d5
    have d4 := hcl 5 4 rfl d5
    have d3 := hcl 4 3 rfl d4
    have d1 := hcl 2 1 rfl d2
    have d0 := hcl 1 0 rfl d1
    have nb8 := nbf (hcl 8 7 rfl) hbi
    have nb9 := nbf (hcl 9 7 rfl) hbi
    simp only [d5, d2, d4, d3, d1, d0, nb8, nb9, hbi, pu, Nat.reduceAdd, Nat.reduceEqDiff, reduceIte]
    have ewt := hwt d5
    subst ewt
    refine F.oq rfl rfl rfl (fun _ => by simp [go_sem]) fun d K hK => ?_; go_simp; refine hK _ ?_; clear hK K d; try walk_nrm
    have hk2 := hkk g _ ⟨fun h => absurd (show b 5 = false from h) (by rw [d5]; decide), fun _ => rfl⟩
    simp only [d5, d2, d4, d3, d1, d0, nb8, nb9, hbi, pu, Nat.reduceAdd, Nat.reduceEqDiff, reduceIte] at hk2
    exact hk2
  · intro b g w hI hcl hbi hdp rest hre hkk
    obtain ⟨hwf, hwt⟩ := hI
    replace hbi : b 8 = false := hbi
    have d0 := hdp 0 rfl
    have d1 := hdp 1 rfl
    have d2 := hdp 2 rfl
    have d3 := hdp 3 rfl
    have d4 := hdp 4 rfl
    have d5 := hdp 5 rfl
    have d6 := hdp 6 rfl
    have d7 := hdp 7 rfl
    have nb9 := nbf (hcl 9 8 rfl) hbi
    simp only [d0, d1, d2, d3, d4, d5, d6, d7, nb9, hbi, pu, Nat.reduceAdd, Nat.reduceEqDiff, reduceIte]
    have ewt := hwt d5
    subst ewt
    refine F.oq rfl rfl rfl (fun _ => by simp [go_sem]) fun d K hK => ?_; go_simp; refine hK _ ?_; clear hK K d; try walk_nrm
    have hk2 := hkk g _ ⟨fun h => absurd (show b 5 = false from h) (by rw [d5]; decide), fun _ => rfl⟩
    simp only [d0, d1, d2, d3, d4, d5, d6, d7, nb9, hbi, pu, Nat.reduceAdd, Nat.reduceEqDiff, reduceIte] at hk2
    exact hk2
  · intro b g w hI hcl hbi hdp rest hre hkk
    obtain ⟨hwf, hwt⟩ := hI
    replace hbi : b 9 = false := hbi
    have d0 := hdp 0 rfl
    have d1 := hdp 1 rfl
    have d2 := hdp 2 rfl
    have d3 := hdp 3 rfl
    have d4 := hdp 4 rfl
    have d5 := hdp 5 rfl
    have d6 := hdp 6 rfl
    have d7 := hdp 7 rfl
    have d8 := hdp 8 rfl
    simp only [d0, d1, d2, d3, d4, d5, d6, d7, d8, hbi, pu, Nat.reduceAdd, Nat.reduceEqDiff, reduceIte]
    have ewt := hwt d5
    subst ewt
    refine F.oq rfl rfl rfl (fun _ => by simp [go_sem]) fun d K hK => ?_; go_simp; refine hK _ ?_; clear hK K d; try walk_nrm
    have hk2 := hkk g _ ⟨fun h => absurd (show b 5 = false from h) (by rw [d5]; decide), fun _ => rfl⟩
    simp only [d0, d1, d2, d3, d4, d5, d6, d7, d8, hbi, pu, Nat.reduceAdd, Nat.reduceEqDiff, reduceIte] at hk2
    exact hk2
  intro b g w hI hall
  obtain ⟨hwf, hwt⟩ := hI
  simp only [hall 0 (by decide), hall 1 (by decide), hall 2 (by decide), hall 3 (by decide), hall 4 (by decide), hall 5 (by decide), hall 6 (by decide), hall 7 (by decide), hall 8 (by decide), hall 9 (by decide), pu, Nat.reduceAdd, Nat.reduceEqDiff, reduceIte]
  refine F.re ?_
  refine F.ctl (fun _ => stepG_ret') ?_
  refine F.leave rfl rfl Tryz.func146 (resultsC_tmp2 (by rfl) _) ?_
  have hw9 := hwt (hall 5 (by decide))
  generalize hn9 : w0.heap.size = q9 at *
  have r9 : Ru e HD w0 en ev w en ev := Ru.own (Kp.alloc (L := []) hw9.symm) (by simp)
  have sz9 := sz_al hw9.symm hn9
  have H9 : CW e w _ en ev m := H.keep (Kp.alloc (L := []) hw9.symm) (by simp) l1 l2 l3 (by simp)
  have c0 := cl_new (i := 0) hw9.symm hn9 rfl
  have c1 := cl_new (i := 1) hw9.symm hn9 rfl
  have c2 := cl_new (i := 2) hw9.symm hn9 rfl
  have c3 := cl_new (i := 3) hw9.symm hn9 rfl
  have k9 : Kp [] w0 w := Kp.alloc hw9.symm
  refine hc (.inl _) _ H9 (Q.ru S r9 H (k9.cell _ _ (by simp) Q.h0) ((k9.froz _ _ (by simp) Q.h0).trans Q.zh)) r9 (.inr (.inl ⟨by simp, q9, rfl, by omega, by omega, fun z => by have := (H.rowN z).2; omega, fun z => by have := (H.entN z).2; omega, ⟨c0, c1, c2, c3⟩⟩))

end Go.Proofs.YtobagnjnbmgidaaGreatDoor

/-! The backend's Enter, for every turn: the whole. -/
namespace Go.Proofs.YtobagnjnbmgidaaGreatDoor
open Go.Conc Go.RowKit
variable {Ok : Addr → Bool → Prop}

theorem BackR.mono {kd nn : Int} {w0 w1 w' : World} {en ev : Value} {r : Value ⊕ Value} (h : BackR kd nn w1 w' en ev r) (hle : w0.heap.size ≤ w1.heap.size) : BackR kd nn w0 w' en ev r := by
  rcases h with h | ⟨h, q, h1, h2, h3⟩ | h
  · exact .inl h
  · exact .inr (.inl ⟨h, q, h1, Nat.le_trans hle h2, h3⟩)
  · exact .inr (.inr h)

set_option maxRecDepth 100000 in
set_option maxHeartbeats 8000000 in
theorem bk_tell (e : Env) (K : EnvOk e Ok) {Ψ0 : Goroutine → World → Prop} {Ψ1 : Nat → Goroutine → World → Prop} (W : FutW e Ok Ψ0 Ψ1) (c : Frame) (cs : List Frame) (B HD C : Nat) (ta : Option Addr) (n cap : Nat) (T : Nat → Nat → Int) {y2 y3 y8 y9 y10 y11 y12 y13 y14 y15 y16 y17 y18 y19 y20 y21 y22 y23 y24 y25 y26 y27 y28 y29 y30 y31 y32 y33 y34 y35 y36 y37 y38 y39 y40 y41 y42 y43 y44 y45 y46 y47 y48 y49 y50 y51 y52 y53 y54 y55 y56 y57 y58 y59 y60 y61 y62 : Value} (now kd nn : Int) (en ev : Value) (m : List Value) (k q : Nat) (kn : Int) (w0 : World) (H : CW e w0 now en ev m) (hm : m.length < 4800) (S : BgS e Ok B HD C ta n) (Q : Bg e B HD C ta n cap T w0 k) (lq : e.X + 1 ≤ q) (nq1 : q ∉ rowL ev) (nq2 : q ∉ rowL en) (f0 : w0.cell? ⟨q, 0, none⟩ = some (.int .i64 kd)) (f1 : w0.cell? ⟨q, 1, none⟩ = some (.int .i64 nn)) (hkd : kd = 1 ∨ kd = 2 ∨ kd = 3 ∨ kd = 4)
    (hc : ∀ r en' ev' w', CW e w' now en' ev' (m ++ evc now e.cl (-1) 2 kn) → Bg e B HD C ta n cap T w' k → Ru e HD w0 en ev w' en' ev' → BackR kd nn w0 w' en' ev' r → Ψ0 (G (ends c r) cs) w') :
    Ψ0 (G ((base 146).at ⟨#[.pointer (some ⟨B, 0, none⟩), .pointer (some ⟨e.T, 0, none⟩), y2, y3, .int .i64 0, .nilIface, .int .i64 kn, .pointer (some ⟨q, 0, none⟩), y8, y9, y10, y11, y12, y13, y14, y15, y16, y17, y18, y19, y20, y21, y22, y23, y24, y25, y26, y27, y28, y29, y30, y31, y32, y33, y34, y35, y36, y37, y38, y39, y40, y41, y42, y43, y44, y45, y46, y47, y48, y49, y50, y51, y52, y53, y54, y55, y56, y57, y58, y59, y60, y61, y62], []⟩ [.code (dropSeq 4 (Tryz.f146.body.getD .skip))]) (c :: cs)) w0 := by
  have F := W.f0
  have l1 := K.lA
  have l2 := K.lT
  have l3 := K.lJ
  have s1 := S.bH
  have s2 := S.bB
  have hsz := H.size
  have hsX := H.sX
  have hnX := H.nX
  have sB := S.lB
  have sH := S.lH
  have sC := S.lC
  have hfr : ∀ (a : Addr) (wr : Bool), e.X + 1 ≤ a.block → Ok a wr := fun a wr h => K.fr a wr (by omega) (by omega)
  unfold dropSeq
  refine F.sr ?_
  simp only [rg, Nat.reduceAdd]
  iterate 5 (refine F.oq rfl rfl rfl (fun _ => by simp [go_sem]) fun d K hK => ?_; go_simp; refine hK _ ?_; clear hK K d; try walk_nrm)
  refine F.enter rfl rfl (by decide) (fun _ => run_call_body rfl Tryz.func149 (by rfl) (by rfl)) (fun _ => events_call_body rfl Tryz.func149 (by rfl) (by rfl) _) ?_
  walk_nrm
  refine tell_w e K now en ev m w0 H (by omega) B (-1) 2 kn S.lB (Ne.symm s2.2.1) Q.b1 Q.b2 (S.ok _ _ (by simp)) (S.ok _ _ (by simp)) _ F _ _ (fun v w8 hp => ?_)
  obtain ⟨rfl, ev2, H8, k8, v8⟩ := hp
  have r8 : Ru e HD w0 en ev w8 en ev2 := Ru.tell k8 v8
  obtain ⟨f0, _, g1, g2⟩ := r8.temp K S.lH (by omega) nq1 nq2 f0
  obtain ⟨f1, _, _⟩ := r8.temp K S.lH (by omega) nq1 nq2 f1
  have Q8 := Q.told S H k8 v8
  have hs8 := k8.size
  rw [Frame.finish_at]
  try walk_nrm
  refine F.re ?_
  have hc' : ∀ r w', CW e w' now en ev2 (m ++ evc now e.cl (-1) 2 kn) → Bg e B HD C ta n cap T w' k → Ru e HD w8 en ev2 w' en ev2 → BackR kd nn w8 w' en ev2 r → Ψ0 (G (ends c r) cs) w' := fun r w' a1 a2 a3 a4 => hc r en ev2 w' a1 a2 (r8.trans a3) (a4.mono hs8)
  rcases hkd with rfl | rfl | rfl | rfl
  · exact sw1 e K W c cs B HD C ta n cap T now nn en ev2 _ k q w8 H8 S Q8 lq f0 f1 hc'
  · exact sw2 e K W c cs B HD C ta n cap T now nn en ev2 _ k q w8 H8 S Q8 lq f0 f1 hc'
  · exact sw3 e K W c cs B HD C ta n cap T now nn en ev2 _ k q w8 H8 S Q8 lq f0 f1 hc'
  · exact sw4 e K W c cs B HD C ta n cap T now nn en ev2 _ k q w8 H8 S Q8 lq f0 f1 hc'

set_option maxRecDepth 100000 in
set_option maxHeartbeats 8000000 in
theorem bk_mid (e : Env) (K : EnvOk e Ok) {Ψ0 : Goroutine → World → Prop} {Ψ1 : Nat → Goroutine → World → Prop} (W : FutW e Ok Ψ0 Ψ1) (c : Frame) (cs : List Frame) (B HD C : Nat) (ta : Option Addr) (n cap : Nat) (T : Nat → Nat → Int) {y2 y3 y8 y9 y10 y11 y12 y13 y14 y15 y16 y17 y18 y19 y20 y21 y22 y23 y24 y25 y26 y27 y28 y29 y30 y31 y32 y33 y34 y35 y36 y37 y38 y39 y40 y41 y42 y43 y44 y45 y46 y47 y48 y49 y50 y51 y52 y53 y54 y55 y56 y57 y58 y59 y60 y61 y62 : Value} (now kd nn tk : Int) (en ev : Value) (m : List Value) (k q : Nat) (kn : Int) (w0 : World) (H : CW e w0 now en ev m) (hm : m.length < 4800) (S : BgS e Ok B HD C ta n) (Q : Bg e B HD C ta n cap T w0 k) (lq : e.X + 1 ≤ q) (nq1 : q ∉ rowL ev) (nq2 : q ∉ rowL en) (f0 : w0.cell? ⟨q, 0, none⟩ = some (.int .i64 kd)) (f1 : w0.cell? ⟨q, 1, none⟩ = some (.int .i64 nn)) (f2 : w0.cell? ⟨q, 2, none⟩ = some (.int .i64 tk)) (hkd : kd = 1 ∨ kd = 2 ∨ kd = 3 ∨ kd = 4) (htk : 0 ≤ tk) (hwr : IntKind.i64.wrap (now + tk) = now + tk)
    (hc : ∀ r en' ev' w', CW e w' (now + tk) en' ev' (m ++ evc (now + tk) e.cl (-1) 2 kn) → Bg e B HD C ta n cap T w' k → Ru e HD w0 en ev w' en' ev' → BackR kd nn w0 w' en' ev' r → Ψ0 (G (ends c r) cs) w') :
    Ψ0 (G ((base 146).at ⟨#[.pointer (some ⟨B, 0, none⟩), .pointer (some ⟨e.T, 0, none⟩), y2, y3, .int .i64 0, .nilIface, .int .i64 kn, .pointer (some ⟨q, 0, none⟩), y8, y9, y10, y11, y12, y13, y14, y15, y16, y17, y18, y19, y20, y21, y22, y23, y24, y25, y26, y27, y28, y29, y30, y31, y32, y33, y34, y35, y36, y37, y38, y39, y40, y41, y42, y43, y44, y45, y46, y47, y48, y49, y50, y51, y52, y53, y54, y55, y56, y57, y58, y59, y60, y61, y62], []⟩ [.code (dropSeq 3 (Tryz.f146.body.getD .skip))]) (c :: cs)) w0 := by
  have F := W.f0
  have l1 := K.lA
  have l2 := K.lT
  have l3 := K.lJ
  have s1 := S.bH
  have s2 := S.bB
  have hsz := H.size
  have hsX := H.sX
  have hnX := H.nX
  have sB := S.lB
  have sH := S.lH
  have sC := S.lC
  have hfr : ∀ (a : Addr) (wr : Bool), e.X + 1 ≤ a.block → Ok a wr := fun a wr h => K.fr a wr (by omega) (by omega)
  unfold dropSeq
  by_cases htp : (0 : Int) < tk
  · refine F.ctl (fun _ => stepG_seq) ?_
    refine F.sr ?_
    simp only [rg, Nat.reduceAdd]
    refine F.oq rfl rfl rfl (fun _ => by simp [go_sem]) fun d K hK => ?_; go_simp; refine hK _ ?_; clear hK K d; try walk_nrm
    refine F.ol rfl rfl rfl fun d K hK => ?_
    go_simp
    refine hK _ (fun e hm => ?_) ?_
    · simp [go_sem, *] at hm
      subst hm
      exact evr (w := w0) (by assumption) (by first | assumption | (apply hfr <;> dsimp only <;> omega))
    clear hK K d
    try walk_nrm
    refine F.oq rfl rfl rfl (fun _ => by simp [go_sem]) fun d K hK => ?_; go_simp; refine hK _ ?_; clear hK K d; try walk_nrm
    refine F.re ?_
    refine F.ct rfl ?_
    refine F.rr ?_
    simp only [rg, Nat.reduceAdd]
    iterate 2 (refine F.oq rfl rfl rfl (fun _ => by simp [go_sem]) fun d K hK => ?_; go_simp; refine hK _ ?_; clear hK K d; try walk_nrm)
    refine F.ol rfl rfl rfl fun d K hK => ?_
    go_simp
    refine hK _ (fun e hm => ?_) ?_
    · simp [go_sem, *] at hm
      subst hm
      exact evr (w := w0) (by assumption) (by first | assumption | (apply hfr <;> dsimp only <;> omega))
    clear hK K d
    try walk_nrm
    refine F.enter rfl rfl (by decide) (fun _ => run_call_body rfl Tryz.func150 (by rfl) (by rfl)) (fun _ => events_call_body rfl Tryz.func150 (by rfl) (by rfl) _) ?_
    walk_nrm
    refine sleep_w e K now tk en ev m w0 H hwr Ψ0 Ψ1 W _ _ (fun v w7 hp => ?_)
    obtain ⟨rfl, en1, H7, k7, v7⟩ := hp
    have r7 : Ru e HD w0 en ev w7 en1 ev := Ru.wait k7 (by simp) v7
    obtain ⟨f0, _, g1, g2⟩ := r7.temp K S.lH (by omega) nq1 nq2 f0
    obtain ⟨f1, _, _⟩ := r7.temp K S.lH (by omega) nq1 nq2 f1
    have Q7 : Bg e B HD C ta n cap T w7 k := by
      have x := Bk.had (e := e) ⟨S.lH, S.bH⟩ k7 (fun x hx => .inr (H.entN hx).1) (by simp) Q.h0 Q.zh
      exact Q.ru S r7 H x.1 x.2
    have hs7 := k7.size
    rw [Frame.finish_at]
    try walk_nrm
    refine F.re ?_
    exact bk_tell e K W c cs B HD C ta n cap T (now + tk) kd nn en1 ev m k q kn w7 H7 hm S Q7 lq g1 g2 f0 f1 hkd fun r en' ev' w' a1 a2 a3 a4 => hc r en' ev' w' a1 a2 (r7.trans a3) (a4.mono hs7)
  · have htz : tk = 0 := by omega
    subst htz
    refine F.sq ?_
    refine F.sr ?_
    simp only [rg, Nat.reduceAdd]
    refine F.oq rfl rfl rfl (fun _ => by simp [go_sem]) fun d K hK => ?_; go_simp; refine hK _ ?_; clear hK K d; try walk_nrm
    refine F.ol rfl rfl rfl fun d K hK => ?_
    go_simp
    refine hK _ (fun e hm => ?_) ?_
    · simp [go_sem, *] at hm
      subst hm
      exact evr (w := w0) (by assumption) (by first | assumption | (apply hfr <;> dsimp only <;> omega))
    clear hK K d
    try walk_nrm
    refine F.oq rfl rfl rfl (fun _ => by simp [go_sem]) fun d K hK => ?_; go_simp; refine hK _ ?_; clear hK K d; try walk_nrm
    refine F.re ?_
    refine F.cf rfl ?_
    refine F.sk ?_
    rw [Int.add_zero] at hc
    exact bk_tell e K W c cs B HD C ta n cap T now kd nn en ev m k q kn w0 H hm S Q lq nq1 nq2 f0 f1 hkd hc

set_option maxRecDepth 100000 in
set_option maxHeartbeats 8000000 in
theorem bk_preG (e : Env) (K : EnvOk e Ok) {Ψ0 : Goroutine → World → Prop} {Ψ1 : Nat → Goroutine → World → Prop} (W : FutW e Ok Ψ0 Ψ1) (c : Frame) (cs : List Frame) (hcl : e.cl = 0) (B HD C : Nat) (ta : Option Addr) (n cap : Nat) (T : Nat → Nat → Int) (now : Int) (en ev : Value) (m : List Value) (k : Nat) (w0 : World) (H : CW e w0 now en ev m) (hm : m.length < 4700) (S : BgS e Ok B HD C ta n) (Q : Bg e B HD C ta n cap T w0 k) (hk : k < n) (hwk : IntKind.i64.wrap ((k : Int) + 1) = k + 1) (hkd : T k 0 = 1 ∨ T k 0 = 2 ∨ T k 0 = 3 ∨ T k 0 = 4) (htk : (0 : Int) ≤ T k 2) (hwr : IntKind.i64.wrap (now + T k 2) = now + T k 2)
    (hc : ∀ r en' ev' w', CW e w' (now + T k 2) en' ev' (m ++ evc now e.cl (-1) 1 k ++ evc (now + T k 2) e.cl (-1) 2 k) → Bg e B HD C ta n cap T w' (k + 1) → Ru e HD w0 en ev w' en' ev' → BackR (T k 0) (T k 1) w0 w' en' ev' r → Ψ0 (G (ends c r) cs) w') :
    Ψ0 (G (Frame.enter Tryz.prog 146 #[.pointer (some ⟨B, 0, none⟩), .pointer (some ⟨e.T, 0, none⟩)] .normal) (c :: cs)) w0 := by
  have F := W.f0
  have l1 := K.lA
  have l2 := K.lT
  have l3 := K.lJ
  have s1 := S.bH
  have s2 := S.bB
  have hsz := H.size
  have hsX := H.sX
  have hnX := H.nX
  have sB := S.lB
  have sH := S.lH
  have sC := S.lC
  have hfr : ∀ (a : Addr) (wr : Bool), e.X + 1 ≤ a.block → Ok a wr := fun a wr h => K.fr a wr (by omega) (by omega)
  have ht2 := H.t2
  rw [hcl] at ht2
  have okt2 := K.t2
  obtain ⟨tb, o, rfl, tj⟩ := Q.tb k hk
  obtain ⟨tl1, tl2, _⟩ := S.tl (by omega) _ rfl
  dsimp only at tl1 tl2
  have trd := S.tr (by omega) _ rfl
  rw [enter_at _ Tryz.func146 rfl]
  simp only [Tryz.ntmps146, List.size_toArray, List.length_cons, List.length_nil, Nat.reduceAdd, Nat.reduceSub, Array.replicate_succ, Array.replicate_zero, List.push_toArray, List.append_toArray, List.nil_append, List.cons_append]
  refine F.sr ?_
  simp only [rg, Nat.reduceAdd]
  iterate 2 (refine F.oq rfl rfl rfl (fun _ => by simp [go_sem]) fun d K hK => ?_; go_simp; refine hK _ ?_; clear hK K d; try walk_nrm)
  refine F.esr ?_
  simp only [rg, Nat.reduceAdd]
  iterate 2 (refine F.oq rfl rfl rfl (fun _ => by simp [go_sem]) fun d K hK => ?_; go_simp; refine hK _ ?_; clear hK K d; try walk_nrm)
  refine F.enter rfl rfl (by decide) (fun _ => run_call_body rfl Tryz.func148 (by rfl) (by rfl)) (fun _ => events_call_body rfl Tryz.func148 (by rfl) (by rfl) _) ?_
  walk_nrm
  refine client_x e.T 0 w0 ht2 okt2 _ F _ _ (fun v wq hp => ?_)
  obtain ⟨rfl, hq⟩ := hp
  have hq := hq.symm
  subst hq
  rw [Frame.finish_at]
  try walk_nrm
  refine F.enter rfl rfl (by decide) (fun _ => run_call_body rfl Tryz.func147 (by rfl) (by rfl)) (fun _ => events_call_body rfl Tryz.func147 (by rfl) (by rfl) _) ?_
  walk_nrm
  refine nextG_x (e.X + 1) B HD C tb o k n cap (T k 0) (T k 1) (T k 2) w0 (by omega) (by omega) hwk (by omega) (by omega) (by omega) (by omega) (by omega) S.bB.1 S.bC.1 tl2 Q.b4 Q.b3 Q.h0 Q.zh Q.c1 (tj 0 (by decide)) (tj 1 (by decide)) (tj 2 (by decide)) S.ok trd hfr _ F _ _ (fun v w1 hp => ?_)
  obtain ⟨rfl, kn, hh, zh⟩ := hp
  have kp : Kp [HD] w0 w1 := kn
  have hs1 := kn.size
  rw [Frame.finish_at]
  try walk_nrm
  iterate 3 (refine F.oq rfl rfl rfl (fun _ => by simp [go_sem]) fun d K hK => ?_; go_simp; refine hK _ ?_; clear hK K d; try walk_nrm)
  refine F.op rfl rfl (by decide) (fun d K hK => ?_)
  go_simp
  rw [alloc_at']
  refine hK _ _ ⟨DX.alloc _ _ (fun e he => ?_), ?_⟩
  · have hm := mem_listed he
    simp [go_sem] at hm
  clear hK K d
  try walk_nrm
  generalize ew2 : World.alloc w1 _ = w2
  generalize hn2 : (World.heap w1).size = n2
  have sz2 := sz_al2 ew2 hn2
  replace zh := fz_al zh hh ew2
  replace hh := cl_al hh ew2
  have hu0 := cl_new (i := 0) ew2 hn2 rfl
  have zu0 := fz_new ew2 hn2 0
  have hu1 := cl_new (i := 1) ew2 hn2 rfl
  have zu1 := fz_new ew2 hn2 1
  have hu2 := cl_new (i := 2) ew2 hn2 rfl
  have zu2 := fz_new ew2 hn2 2
  try simp only [List.getElem_toArray, List.getElem_cons_zero, List.getElem_cons_succ] at hu0 hu1 hu2
  replace kp := kp.alN ew2
  refine F.oq rfl rfl rfl (fun _ => by simp [go_sem]) fun d K hK => ?_; go_simp; refine hK _ ?_; clear hK K d; try walk_nrm
  refine F.op rfl rfl (by decide) (fun d K hK => ?_)
  go_simp
  repeat rw [setCell_at']
  refine hK _ _ ⟨DX.set3 _ (by (first | assumption | (apply hfr <;> dsimp only <;> omega))) (by (first | assumption | (apply hfr <;> dsimp only <;> omega))) (by (first | assumption | (apply hfr <;> dsimp only <;> omega))) (fun e he => ?_), ?_⟩
  · have hm := mem_listed he
    simp [go_sem, storedEv, evst_slice, evst_ptr, evst_iface, evst_nil, evst_bool, *] at hm
    rcases hm with rfl | rfl | rfl <;> exact .inl ⟨_, rfl, rfl, by (first | assumption | (apply hfr <;> dsimp only <;> omega)), by simp only [size_at, size_set]; first | omega | exact lt_of_cell (by assumption)⟩
  clear hK K d
  try walk_nrm
  generalize ew3 : World.setCell w2 _ _ = w3
  have sz3 := sz_st2 ew3
  replace zh := fz_st zh ew3
  replace zu0 := fz_st zu0 ew3
  replace zu1 := fz_st zu1 ew3
  replace zu2 := fz_st zu2 ew3
  replace hh := cl_st hh ew3 (by intro e; simp at e <;> omega)
  replace hu0 := cl_st' hu0 ew3
  replace hu1 := cl_st hu1 ew3 (by intro e; simp at e <;> omega)
  replace hu2 := cl_st hu2 ew3 (by intro e; simp at e <;> omega)
  replace kp := kp.stN ew3 (by first | (left; simp; done) | (right; left; simp; done) | (right; right; dsimp only; omega))
  generalize ew4 : World.setCell w3 _ _ = w4
  have sz4 := sz_st2 ew4
  replace zh := fz_st zh ew4
  replace zu0 := fz_st zu0 ew4
  replace zu1 := fz_st zu1 ew4
  replace zu2 := fz_st zu2 ew4
  replace hh := cl_st hh ew4 (by intro e; simp at e <;> omega)
  replace hu0 := cl_st hu0 ew4 (by intro e; simp at e <;> omega)
  replace hu1 := cl_st' hu1 ew4
  replace hu2 := cl_st hu2 ew4 (by intro e; simp at e <;> omega)
  replace kp := kp.stN ew4 (by first | (left; simp; done) | (right; left; simp; done) | (right; right; dsimp only; omega))
  generalize ew5 : World.setCell w4 _ _ = w5
  have sz5 := sz_st2 ew5
  replace zh := fz_st zh ew5
  replace zu0 := fz_st zu0 ew5
  replace zu1 := fz_st zu1 ew5
  replace zu2 := fz_st zu2 ew5
  replace hh := cl_st hh ew5 (by intro e; simp at e <;> omega)
  replace hu0 := cl_st hu0 ew5 (by intro e; simp at e <;> omega)
  replace hu1 := cl_st hu1 ew5 (by intro e; simp at e <;> omega)
  replace hu2 := cl_st' hu2 ew5
  replace kp := kp.stN ew5 (by first | (left; simp; done) | (right; left; simp; done) | (right; right; dsimp only; omega))
  refine F.re ?_
  have H5 : CW e w5 now en ev m := H.keep kp (by intro x hx; simp at hx; subst hx; left; omega) l1 l2 l3 (by simp)
  have r5 : Ru e HD w0 en ev w5 en ev := Ru.own kp (by simp)
  have Q5 : Bg e B HD C _ n cap T w5 (k + 1) := Q.ru S r5 H (by rw [hh]; simp) zh
  refine F.sr ?_
  simp only [rg, Nat.reduceAdd]
  iterate 5 (refine F.oq rfl rfl rfl (fun _ => by simp [go_sem]) fun d K hK => ?_; go_simp; refine hK _ ?_; clear hK K d; try walk_nrm)
  refine F.enter rfl rfl (by decide) (fun _ => run_call_body rfl Tryz.func149 (by rfl) (by rfl)) (fun _ => events_call_body rfl Tryz.func149 (by rfl) (by rfl) _) ?_
  walk_nrm
  refine tell_w e K now en ev m w5 H5 (by omega) B (-1) 1 k S.lB (Ne.symm s2.2.1) Q5.b1 Q5.b2 (S.ok _ _ (by simp)) (S.ok _ _ (by simp)) _ F _ _ (fun v w6 hp => ?_)
  obtain ⟨rfl, ev1, H6, k6, v6⟩ := hp
  have r6 : Ru e HD w5 en ev w6 en ev1 := Ru.tell k6 v6
  have n5 : n2 ∉ rowL ev := fun z => by have := (H.rowN z).2; omega
  have n5' : n2 ∉ rowL en := fun z => by have := (H.entN z).2; omega
  obtain ⟨f0, f0', g1, g2⟩ := r6.temp K S.lH (by omega) n5 n5' hu0
  obtain ⟨f1, f1', _⟩ := r6.temp K S.lH (by omega) n5 n5' hu1
  obtain ⟨f2, f2', _⟩ := r6.temp K S.lH (by omega) n5 n5' hu2
  have Q6 := Q5.told S H5 k6 v6
  have hs6 := k6.size
  have hs5 := r5.kp.size
  clear hu0 hu1 hu2 zu0 zu1 zu2 hh zh
  rw [Frame.finish_at]
  try walk_nrm
  refine F.re ?_
  exact bk_mid e K W c cs B HD C _ n cap T now (T k 0) (T k 1) (T k 2) en ev1 (m ++ evc now e.cl (-1) 1 k) (k + 1) n2 k w6 H6 (by simp only [List.length_append, List.length_cons, List.length_nil]; omega) S Q6 (by omega) g1 g2 f0 f1 f2 hkd htk hwr fun r en' ev' w' a1 a2 a3 a4 => hc r en' ev' w' a1 a2 (r5.trans (r6.trans a3)) (a4.mono (by omega))

set_option maxRecDepth 100000 in
set_option maxHeartbeats 8000000 in
theorem bk_preP (e : Env) (K : EnvOk e Ok) {Ψ0 : Goroutine → World → Prop} {Ψ1 : Nat → Goroutine → World → Prop} (W : FutW e Ok Ψ0 Ψ1) (c : Frame) (cs : List Frame) (hcl : e.cl = 0) (B HD C : Nat) (ta : Option Addr) (n cap : Nat) (T : Nat → Nat → Int) (now : Int) (en ev : Value) (m : List Value) (k : Nat) (w0 : World) (H : CW e w0 now en ev m) (hm : m.length < 4700) (S : BgS e Ok B HD C ta n) (Q : Bg e B HD C ta n cap T w0 k) (hk : ¬ k < n) (hwk : IntKind.i64.wrap ((k : Int) + 1) = k + 1)  (htk : (0 : Int) ≤ 0) (hwr : IntKind.i64.wrap (now + 0) = now + 0)
    (hc : ∀ r en' ev' w', CW e w' (now + 0) en' ev' (m ++ evc now e.cl (-1) 1 k ++ evc (now + 0) e.cl (-1) 2 k) → Bg e B HD C ta n cap T w' (k + 1) → Ru e HD w0 en ev w' en' ev' → BackR (1) (0) w0 w' en' ev' r → Ψ0 (G (ends c r) cs) w') :
    Ψ0 (G (Frame.enter Tryz.prog 146 #[.pointer (some ⟨B, 0, none⟩), .pointer (some ⟨e.T, 0, none⟩)] .normal) (c :: cs)) w0 := by
  have F := W.f0
  have l1 := K.lA
  have l2 := K.lT
  have l3 := K.lJ
  have s1 := S.bH
  have s2 := S.bB
  have hsz := H.size
  have hsX := H.sX
  have hnX := H.nX
  have sB := S.lB
  have sH := S.lH
  have sC := S.lC
  have hfr : ∀ (a : Addr) (wr : Bool), e.X + 1 ≤ a.block → Ok a wr := fun a wr h => K.fr a wr (by omega) (by omega)
  have ht2 := H.t2
  rw [hcl] at ht2
  have okt2 := K.t2
  have hkd : (1 : Int) = 1 ∨ (1 : Int) = 2 ∨ (1 : Int) = 3 ∨ (1 : Int) = 4 := .inl rfl
  rw [enter_at _ Tryz.func146 rfl]
  simp only [Tryz.ntmps146, List.size_toArray, List.length_cons, List.length_nil, Nat.reduceAdd, Nat.reduceSub, Array.replicate_succ, Array.replicate_zero, List.push_toArray, List.append_toArray, List.nil_append, List.cons_append]
  refine F.sr ?_
  simp only [rg, Nat.reduceAdd]
  iterate 2 (refine F.oq rfl rfl rfl (fun _ => by simp [go_sem]) fun d K hK => ?_; go_simp; refine hK _ ?_; clear hK K d; try walk_nrm)
  refine F.esr ?_
  simp only [rg, Nat.reduceAdd]
  iterate 2 (refine F.oq rfl rfl rfl (fun _ => by simp [go_sem]) fun d K hK => ?_; go_simp; refine hK _ ?_; clear hK K d; try walk_nrm)
  refine F.enter rfl rfl (by decide) (fun _ => run_call_body rfl Tryz.func148 (by rfl) (by rfl)) (fun _ => events_call_body rfl Tryz.func148 (by rfl) (by rfl) _) ?_
  walk_nrm
  refine client_x e.T 0 w0 ht2 okt2 _ F _ _ (fun v wq hp => ?_)
  obtain ⟨rfl, hq⟩ := hp
  have hq := hq.symm
  subst hq
  rw [Frame.finish_at]
  try walk_nrm
  refine F.enter rfl rfl (by decide) (fun _ => run_call_body rfl Tryz.func147 (by rfl) (by rfl)) (fun _ => events_call_body rfl Tryz.func147 (by rfl) (by rfl) _) ?_
  walk_nrm
  refine nextP_x (e.X + 1) B HD C k n cap ta w0 (by omega) (by omega) hwk (by omega) (by omega) (by omega) (by omega) S.bB.1 S.bC.1 Q.b4 Q.b3 Q.h0 Q.zh Q.c1 S.ok hfr _ F _ _ (fun v w1 hp => ?_)
  obtain ⟨rfl, kn, hh, zh⟩ := hp
  have kp : Kp [HD] w0 w1 := kn
  have hs1 := kn.size
  rw [Frame.finish_at]
  try walk_nrm
  iterate 3 (refine F.oq rfl rfl rfl (fun _ => by simp [go_sem]) fun d K hK => ?_; go_simp; refine hK _ ?_; clear hK K d; try walk_nrm)
  refine F.op rfl rfl (by decide) (fun d K hK => ?_)
  go_simp
  rw [alloc_at']
  refine hK _ _ ⟨DX.alloc _ _ (fun e he => ?_), ?_⟩
  · have hm := mem_listed he
    simp [go_sem] at hm
  clear hK K d
  try walk_nrm
  generalize ew2 : World.alloc w1 _ = w2
  generalize hn2 : (World.heap w1).size = n2
  have sz2 := sz_al2 ew2 hn2
  replace zh := fz_al zh hh ew2
  replace hh := cl_al hh ew2
  have hu0 := cl_new (i := 0) ew2 hn2 rfl
  have zu0 := fz_new ew2 hn2 0
  have hu1 := cl_new (i := 1) ew2 hn2 rfl
  have zu1 := fz_new ew2 hn2 1
  have hu2 := cl_new (i := 2) ew2 hn2 rfl
  have zu2 := fz_new ew2 hn2 2
  try simp only [List.getElem_toArray, List.getElem_cons_zero, List.getElem_cons_succ] at hu0 hu1 hu2
  replace kp := kp.alN ew2
  refine F.oq rfl rfl rfl (fun _ => by simp [go_sem]) fun d K hK => ?_; go_simp; refine hK _ ?_; clear hK K d; try walk_nrm
  refine F.op rfl rfl (by decide) (fun d K hK => ?_)
  go_simp
  repeat rw [setCell_at']
  refine hK _ _ ⟨DX.set3 _ (by (first | assumption | (apply hfr <;> dsimp only <;> omega))) (by (first | assumption | (apply hfr <;> dsimp only <;> omega))) (by (first | assumption | (apply hfr <;> dsimp only <;> omega))) (fun e he => ?_), ?_⟩
  · have hm := mem_listed he
    simp [go_sem, storedEv, evst_slice, evst_ptr, evst_iface, evst_nil, evst_bool, *] at hm
    rcases hm with rfl | rfl | rfl <;> exact .inl ⟨_, rfl, rfl, by (first | assumption | (apply hfr <;> dsimp only <;> omega)), by simp only [size_at, size_set]; first | omega | exact lt_of_cell (by assumption)⟩
  clear hK K d
  try walk_nrm
  generalize ew3 : World.setCell w2 _ _ = w3
  have sz3 := sz_st2 ew3
  replace zh := fz_st zh ew3
  replace zu0 := fz_st zu0 ew3
  replace zu1 := fz_st zu1 ew3
  replace zu2 := fz_st zu2 ew3
  replace hh := cl_st hh ew3 (by intro e; simp at e <;> omega)
  replace hu0 := cl_st' hu0 ew3
  replace hu1 := cl_st hu1 ew3 (by intro e; simp at e <;> omega)
  replace hu2 := cl_st hu2 ew3 (by intro e; simp at e <;> omega)
  replace kp := kp.stN ew3 (by first | (left; simp; done) | (right; left; simp; done) | (right; right; dsimp only; omega))
  generalize ew4 : World.setCell w3 _ _ = w4
  have sz4 := sz_st2 ew4
  replace zh := fz_st zh ew4
  replace zu0 := fz_st zu0 ew4
  replace zu1 := fz_st zu1 ew4
  replace zu2 := fz_st zu2 ew4
  replace hh := cl_st hh ew4 (by intro e; simp at e <;> omega)
  replace hu0 := cl_st hu0 ew4 (by intro e; simp at e <;> omega)
  replace hu1 := cl_st' hu1 ew4
  replace hu2 := cl_st hu2 ew4 (by intro e; simp at e <;> omega)
  replace kp := kp.stN ew4 (by first | (left; simp; done) | (right; left; simp; done) | (right; right; dsimp only; omega))
  generalize ew5 : World.setCell w4 _ _ = w5
  have sz5 := sz_st2 ew5
  replace zh := fz_st zh ew5
  replace zu0 := fz_st zu0 ew5
  replace zu1 := fz_st zu1 ew5
  replace zu2 := fz_st zu2 ew5
  replace hh := cl_st hh ew5 (by intro e; simp at e <;> omega)
  replace hu0 := cl_st hu0 ew5 (by intro e; simp at e <;> omega)
  replace hu1 := cl_st hu1 ew5 (by intro e; simp at e <;> omega)
  replace hu2 := cl_st' hu2 ew5
  replace kp := kp.stN ew5 (by first | (left; simp; done) | (right; left; simp; done) | (right; right; dsimp only; omega))
  refine F.re ?_
  have H5 : CW e w5 now en ev m := H.keep kp (by intro x hx; simp at hx; subst hx; left; omega) l1 l2 l3 (by simp)
  have r5 : Ru e HD w0 en ev w5 en ev := Ru.own kp (by simp)
  have Q5 : Bg e B HD C _ n cap T w5 (k + 1) := Q.ru S r5 H (by rw [hh]; simp) zh
  refine F.sr ?_
  simp only [rg, Nat.reduceAdd]
  iterate 5 (refine F.oq rfl rfl rfl (fun _ => by simp [go_sem]) fun d K hK => ?_; go_simp; refine hK _ ?_; clear hK K d; try walk_nrm)
  refine F.enter rfl rfl (by decide) (fun _ => run_call_body rfl Tryz.func149 (by rfl) (by rfl)) (fun _ => events_call_body rfl Tryz.func149 (by rfl) (by rfl) _) ?_
  walk_nrm
  refine tell_w e K now en ev m w5 H5 (by omega) B (-1) 1 k S.lB (Ne.symm s2.2.1) Q5.b1 Q5.b2 (S.ok _ _ (by simp)) (S.ok _ _ (by simp)) _ F _ _ (fun v w6 hp => ?_)
  obtain ⟨rfl, ev1, H6, k6, v6⟩ := hp
  have r6 : Ru e HD w5 en ev w6 en ev1 := Ru.tell k6 v6
  have n5 : n2 ∉ rowL ev := fun z => by have := (H.rowN z).2; omega
  have n5' : n2 ∉ rowL en := fun z => by have := (H.entN z).2; omega
  obtain ⟨f0, f0', g1, g2⟩ := r6.temp K S.lH (by omega) n5 n5' hu0
  obtain ⟨f1, f1', _⟩ := r6.temp K S.lH (by omega) n5 n5' hu1
  obtain ⟨f2, f2', _⟩ := r6.temp K S.lH (by omega) n5 n5' hu2
  have Q6 := Q5.told S H5 k6 v6
  have hs6 := k6.size
  have hs5 := r5.kp.size
  clear hu0 hu1 hu2 zu0 zu1 zu2 hh zh
  rw [Frame.finish_at]
  try walk_nrm
  refine F.re ?_
  exact bk_mid e K W c cs B HD C _ n cap T now (1) (0) (0) en ev1 (m ++ evc now e.cl (-1) 1 k) (k + 1) n2 k w6 H6 (by simp only [List.length_append, List.length_cons, List.length_nil]; omega) S Q6 (by omega) g1 g2 f0 f1 f2 hkd htk hwr fun r en' ev' w' a1 a2 a3 a4 => hc r en' ev' w' a1 a2 (r5.trans (r6.trans a3)) (a4.mono (by omega))

theorem back_o (e : Env) (K : EnvOk e Ok) (hcl : e.cl = 0) (B HD C : Nat) (ta : Option Addr) (n cap : Nat) (T : Nat → Nat → Int) (now : Int) (en ev : Value) (m : List Value) (k : Nat) (w0 : World) (H : CW e w0 now en ev m) (hm : m.length < 4700) (S : BgS e Ok B HD C ta n) (Q : Bg e B HD C ta n cap T w0 k) (hwk : IntKind.i64.wrap ((k : Int) + 1) = k + 1)
    (hkd : turnK T n k 0 = 1 ∨ turnK T n k 0 = 2 ∨ turnK T n k 0 = 3 ∨ turnK T n k 0 = 4) (htk : 0 ≤ turnK T n k 2) (hwr : IntKind.i64.wrap (now + turnK T n k 2) = now + turnK T n k 2) :
    CallsO e Ok 146 #[.pointer (some ⟨B, 0, none⟩), .pointer (some ⟨e.T, 0, none⟩)] w0 fun r w' => ∃ en' ev', CW e w' (now + turnK T n k 2) en' ev' (m ++ evc now e.cl (-1) 1 k ++ evc (now + turnK T n k 2) e.cl (-1) 2 k) ∧ Bg e B HD C ta n cap T w' (k + 1) ∧ Ru e HD w0 en ev w' en' ev' ∧ BackR (turnK T n k 0) (turnK T n k 1) w0 w' en' ev' r := by
  intro Ψ0 Ψ1 W c cs hc
  by_cases hk : k < n
  · have e0 : ∀ j, turnK T n k j = T k j := fun j => if_pos hk
    simp only [e0] at hkd htk hwr hc
    exact bk_preG e K W c cs hcl B HD C ta n cap T now en ev m k w0 H hm S Q hk hwk hkd htk hwr fun r en' ev' w' a1 a2 a3 a4 => hc r w' ⟨en', ev', a1, a2, a3, a4⟩
  · have e0 : turnK T n k 0 = 1 := by simp [turnK, hk]
    have e1 : turnK T n k 1 = 0 := by simp [turnK, hk]
    have e2 : turnK T n k 2 = 0 := by simp [turnK, hk]
    rw [e2] at hwr
    rw [e0, e1, e2] at hc
    exact bk_preP e K W c cs hcl B HD C ta n cap T now en ev m k w0 H hm S Q hk hwk (Int.le_refl _) hwr fun r en' ev' w' a1 a2 a3 a4 => hc r w' ⟨en', ev', a1, a2, a3, a4⟩

end Go.Proofs.YtobagnjnbmgidaaGreatDoor

/-! errors.Is on a fatal error; a pause of no length; min. -/
namespace Go.Proofs.YtobagnjnbmgidaaGreatDoor
open Go.Conc Go.RowKit Go.Extern

section
variable {Ok : Addr → Bool → Prop} {main : Bool}

theorem evEqF (w : World) : (binOp .eql 121 (.iface 171 (.int .i64 2)) (.iface 171 (.int .i64 2))).events Tryz.prog w #[] = #[] := by kernel_rfl
set_option maxRecDepth 100000 in
theorem linkIsF_x (q : Nat) (w0 : World) (h0 : w0.cell? ⟨q, 0, none⟩ = some (.int .i64 2)) (o1 : Ok ⟨q, 0, none⟩ false) :
    CallsX Tryz.prog main (DX Ok) 213 #[.pointer (some ⟨q, 0, none⟩), .iface 171 (.int .i64 2)] w0 fun v w' => v = .bool true ∧ w' = w0 := by
  intro Ψ F c cs hc
  rw [enter_at _ Tryz.func213 rfl]
  simp only [Tryz.ntmps213, List.size_toArray, List.length_cons, List.length_nil, Nat.reduceAdd, Nat.reduceSub, Array.replicate_succ, Array.replicate_zero, List.push_toArray, List.append_toArray, List.nil_append, List.cons_append]
  refine F.sr ?_
  simp only [rg, Nat.reduceAdd]
  refine F.oq rfl rfl rfl (fun _ => by simp [go_sem]) fun d K hK => ?_; go_simp; refine hK _ ?_; clear hK K d; try walk_nrm
  refine F.esr ?_
  simp only [rg, Nat.reduceAdd]
  iterate 4 (refine F.oq rfl rfl rfl (fun _ => by simp [go_sem]) fun d K hK => ?_; go_simp; refine hK _ ?_; clear hK K d; try walk_nrm)
  refine F.ol rfl rfl rfl fun d K hK => ?_
  go_simp
  refine hK _ (fun e hm => ?_) ?_
  · simp [go_sem, *] at hm
    subst hm
    exact evr (w := w0) (by assumption) (by first | assumption | (apply hfr <;> dsimp only <;> omega))
  clear hK K d
  try walk_nrm
  refine F.oq rfl rfl rfl (fun _ => by first | (simp [go_sem]; done) | simp [go_sem, Instr.makeInterface, Instr.makeFunc, *]) fun d K hK => ?_; go_simp; refine hK _ ?_; clear hK K d; try walk_nrm
  have evE := evEqF
  iterate 2 (refine F.oq rfl rfl rfl (fun _ => by first | (simp [go_sem]; done) | simp [go_sem, Instr.makeInterface, Instr.makeFunc, *]) fun d K hK => ?_; go_simp; refine hK _ ?_; clear hK K d; try walk_nrm)
  refine F.re ?_
  refine F.ctl (fun _ => stepG_ret') ?_
  refine F.leave rfl rfl Tryz.func213 (resultsC_tmp (by rfl) _) ?_
  exact hc _ _ ⟨rfl, rfl⟩

set_option maxRecDepth 100000 in
set_option maxHeartbeats 4000000 in
theorem isF_x (q : Nat) (w0 : World) (h0 : w0.cell? ⟨q, 0, none⟩ = some (.int .i64 2)) (o1 : Ok ⟨q, 0, none⟩ false) :
    CallsX Tryz.prog main (DX Ok) 164 #[.iface 168 (.pointer (some ⟨q, 0, none⟩)), .iface 171 (.int .i64 2), .bool true] w0 fun v w' => v = .bool true ∧ w' = w0 := by
  intro Ψ F c cs hc
  rw [enter_at _ Tryz.func164 rfl]
  simp only [Tryz.ntmps164, List.size_toArray, List.length_cons, List.length_nil, Nat.reduceAdd, Nat.reduceSub, Array.replicate_succ, Array.replicate_zero, List.push_toArray, List.append_toArray, List.nil_append, List.cons_append]
  have evE := evEqP
  have t1 := taIs
  have t2 := taUn
  have t3 := taUne
  have t4 := fI
  have t5 := evNil
  have t6 := evNN
  refine F.sr ?_
  simp only [rg, Nat.reduceAdd]
  refine F.oq rfl rfl rfl (fun _ => by simp [go_sem]) fun d K hK => ?_; go_simp; refine hK _ ?_; clear hK K d; try walk_nrm
  refine F.re ?_
  refine F.bl ?_
  refine F.ctl (fun _ => stepG_loop) ?_
  refine F.bl ?_
  refine F.sq ?_
  refine F.sr ?_
  simp only [rg, Nat.reduceAdd]
  iterate 6 (refine F.oq rfl rfl rfl (fun _ => by first | (simp [go_sem]; done) | simp [go_sem, Instr.makeInterface, Instr.makeFunc, *]) fun d K hK => ?_; go_simp; refine hK _ ?_; clear hK K d; try walk_nrm)
  refine F.re ?_
  refine F.cf rfl ?_
  refine F.sk ?_
  refine F.sq ?_
  refine F.sr ?_
  simp only [rg, Nat.reduceAdd]
  iterate 7 (refine F.oq rfl rfl rfl (fun _ => by first | (simp [go_sem]; done) | simp [go_sem, Instr.makeInterface, Instr.makeFunc, *]) fun d K hK => ?_; go_simp; refine hK _ ?_; clear hK K d; try walk_nrm)
  refine F.esr ?_
  simp only [rg, Nat.reduceAdd]
  iterate 4 (refine F.oq rfl rfl rfl (fun _ => by simp [go_sem]) fun d K hK => ?_; go_simp; refine hK _ ?_; clear hK K d; try walk_nrm)
  refine F.invoke rfl rfl (by decide) rfl rfl (mIs _) (mIse _) Tryz.func213 (by rfl) (by rfl) ?_
  walk_nrm
  refine linkIsF_x q w0 h0 o1 _ F _ _ (fun v wq hp => ?_)
  obtain ⟨rfl, hq⟩ := hp
  have hq := hq.symm
  subst hq
  rw [Frame.finish_at]
  try walk_nrm
  refine F.oq rfl rfl rfl (fun _ => by simp [go_sem]) fun d K hK => ?_; go_simp; refine hK _ ?_; clear hK K d; try walk_nrm
  refine F.re ?_
  refine F.ct rfl ?_
  refine F.sr ?_
  simp only [rg, Nat.reduceAdd]
  refine F.oq rfl rfl rfl (fun _ => by simp [go_sem]) fun d K hK => ?_; go_simp; refine hK _ ?_; clear hK K d; try walk_nrm
  refine F.re ?_
  refine F.ctl (fun _ => stepG_ret') ?_
  refine F.leave rfl rfl Tryz.func164 (resultsC_tmp (by rfl) _) ?_
  exact hc _ _ ⟨rfl, rfl⟩

set_option maxRecDepth 100000 in
set_option maxHeartbeats 4000000 in
theorem errIsF_x (q : Nat) (w0 : World) (h0 : w0.cell? ⟨q, 0, none⟩ = some (.int .i64 2)) (o1 : Ok ⟨q, 0, none⟩ false) :
    CallsX Tryz.prog main (DX Ok) 163 #[.iface 168 (.pointer (some ⟨q, 0, none⟩)), .iface 171 (.int .i64 2)] w0 fun v w' => v = .bool true ∧ w' = w0 := by
  intro Ψ F c cs hc
  rw [enter_at _ Tryz.func163 rfl]
  simp only [Tryz.ntmps163, List.size_toArray, List.length_cons, List.length_nil, Nat.reduceAdd, Nat.reduceSub, Array.replicate_succ, Array.replicate_zero, List.push_toArray, List.append_toArray, List.nil_append, List.cons_append]
  have t5 := evNil
  refine F.sr ?_
  simp only [rg, Nat.reduceAdd]
  refine F.oq rfl rfl rfl (fun _ => by simp [go_sem]) fun d K hK => ?_; go_simp; refine hK _ ?_; clear hK K d; try walk_nrm
  refine F.es ?_
  refine F.sr ?_
  simp only [rg, Nat.reduceAdd]
  iterate 6 (refine F.oq rfl rfl rfl (fun _ => by first | (simp [go_sem]; done) | simp [go_sem, Instr.makeInterface, Instr.makeFunc, *]) fun d K hK => ?_; go_simp; refine hK _ ?_; clear hK K d; try walk_nrm)
  refine F.re ?_
  refine F.cf rfl ?_
  refine F.sk ?_
  refine F.sr ?_
  simp only [rg, Nat.reduceAdd]
  refine F.oq rfl rfl rfl (fun _ => by simp [go_sem]) fun d K hK => ?_; go_simp; refine hK _ ?_; clear hK K d; try walk_nrm
  refine F.ext0c rfl rfl (by decide) rfl Tryz.func112 (by kernel_rfl) (by kernel_rfl) (by kernel_rfl) (by kernel_rfl) (x := ReflectliteType.typeOf) (fun d => by walk_nrm; exact ty171 _ _) (fun d es => by walk_nrm; exact ty171e _ _ _) ?_
  walk_nrm
  refine F.ext0m rfl rfl (by decide) rfl rfl (mComparable _) (mComparablee _) Tryz.func221 (by kernel_rfl) (by kernel_rfl) (by kernel_rfl) (by kernel_rfl) (x := ReflectliteType.method fun t => do Rtype.noPackHeld "Comparable" t; pure (.bool (← typeInfo t).comparable)) (fun d => by walk_nrm; exact comp171 _) (fun d es => by walk_nrm; exact comp171e _ _) ?_
  walk_nrm
  refine F.oq rfl rfl rfl (fun _ => by simp [go_sem]) fun d K hK => ?_; go_simp; refine hK _ ?_; clear hK K d; try walk_nrm
  refine F.esr ?_
  simp only [rg, Nat.reduceAdd]
  iterate 3 (refine F.oq rfl rfl rfl (fun _ => by simp [go_sem]) fun d K hK => ?_; go_simp; refine hK _ ?_; clear hK K d; try walk_nrm)
  refine F.enter rfl rfl (by decide) (fun _ => run_call_body rfl Tryz.func164 (by rfl) (by rfl)) (fun _ => events_call_body rfl Tryz.func164 (by rfl) (by rfl) _) ?_
  walk_nrm
  refine isF_x q w0 h0 o1 _ F _ _ (fun v wq hp => ?_)
  obtain ⟨rfl, hq⟩ := hp
  have hq := hq.symm
  subst hq
  rw [Frame.finish_at]
  try walk_nrm
  refine F.oq rfl rfl rfl (fun _ => by simp [go_sem]) fun d K hK => ?_; go_simp; refine hK _ ?_; clear hK K d; try walk_nrm
  refine F.re ?_
  refine F.ctl (fun _ => stepG_ret') ?_
  refine F.leave rfl rfl Tryz.func163 (resultsC_tmp (by rfl) _) ?_
  exact hc _ _ ⟨rfl, rfl⟩

set_option maxRecDepth 100000 in
set_option maxHeartbeats 4000000 in
theorem hopelessF_x (q : Nat) (w0 : World) (h0 : w0.cell? ⟨q, 0, none⟩ = some (.int .i64 2)) (o1 : Ok ⟨q, 0, none⟩ false) :
    CallsX Tryz.prog main (DX Ok) 158 #[.iface 168 (.pointer (some ⟨q, 0, none⟩))] w0 fun v w' => v = .bool true ∧ w' = w0 := by
  intro Ψ F c cs hc
  rw [enter_at _ Tryz.func158 rfl]
  simp only [Tryz.ntmps158, List.size_toArray, List.length_cons, List.length_nil, Nat.reduceAdd, Nat.reduceSub, Array.replicate_succ, Array.replicate_zero, List.push_toArray, List.append_toArray, List.nil_append, List.cons_append]
  refine F.sr ?_
  simp only [rg, Nat.reduceAdd]
  refine F.oq rfl rfl rfl (fun _ => by simp [go_sem]) fun d K hK => ?_; go_simp; refine hK _ ?_; clear hK K d; try walk_nrm
  refine F.esr ?_
  simp only [rg, Nat.reduceAdd]
  iterate 2 (refine F.oq rfl rfl rfl (fun _ => by first | (simp [go_sem]; done) | simp [go_sem, Instr.makeInterface, Instr.makeFunc, *]) fun d K hK => ?_; go_simp; refine hK _ ?_; clear hK K d; try walk_nrm)
  refine F.enter rfl rfl (by decide) (fun _ => run_call_body rfl Tryz.func163 (by rfl) (by rfl)) (fun _ => events_call_body rfl Tryz.func163 (by rfl) (by rfl) _) ?_
  walk_nrm
  refine errIsF_x q w0 h0 o1 _ F _ _ (fun v wq hp => ?_)
  obtain ⟨rfl, hq⟩ := hp
  have hq := hq.symm
  subst hq
  rw [Frame.finish_at]
  try walk_nrm
  refine F.oq rfl rfl rfl (fun _ => by simp [go_sem]) fun d K hK => ?_; go_simp; refine hK _ ?_; clear hK K d; try walk_nrm
  refine F.unwanted rfl rfl ?_
  try walk_nrm
  refine F.unwanted rfl rfl ?_
  try walk_nrm
  refine F.unwanted rfl rfl ?_
  try walk_nrm
  iterate 2 (refine F.oq rfl rfl rfl (fun _ => by simp [go_sem]) fun d K hK => ?_; go_simp; refine hK _ ?_; clear hK K d; try walk_nrm)
  refine F.re ?_
  refine F.ctl (fun _ => stepG_ret') ?_
  refine F.leave rfl rfl Tryz.func158 (resultsC_tmp (by rfl) _) ?_
  exact hc _ _ ⟨rfl, rfl⟩
end

section
variable {Ok : Addr → Bool → Prop}
set_option maxRecDepth 100000 in
set_option maxHeartbeats 4000000 in
theorem rest0_w (e : Env) (K : EnvOk e Ok) (now num : Int) (en ev : Value) (m : List Value) (R HD : Nat) (w0 : World) (H : CW e w0 now en ev m) (hm : m.length < 4500) (hR : R < e.N) (hRJ : e.J ≠ R) (hR1 : w0.cell? ⟨R, 1, none⟩ = some (.int .i64 num)) (hR2 : w0.cell? ⟨R, 2, none⟩ = some (.pointer (some ⟨e.J, 0, none⟩))) (oR : ∀ i, Ok ⟨R, i, none⟩ false) :
    CallsW e Ok 157 #[.pointer (some ⟨R, 0, none⟩), .pointer (some ⟨e.T, 0, none⟩), .int .i64 0] w0 fun v w' => v = .bool true ∧ ∃ ev', CW e w' now en ev' (m ++ evc now e.cl num 3 0) ∧ Kp (e.J :: rowL ev) w0 w' ∧ ∀ g ∈ rowL ev', g ∈ rowL ev ∨ w0.heap.size ≤ g := by
  intro Ψ0 Ψ1 W c cs hc
  have F := W.f0
  have hsz := H.size
  rw [enter_at _ Tryz.func157 rfl]
  simp only [Tryz.ntmps157, List.size_toArray, List.length_cons, List.length_nil, Nat.reduceAdd, Nat.reduceSub, Array.replicate_succ, Array.replicate_zero, List.push_toArray, List.append_toArray, List.nil_append, List.cons_append]
  refine F.sr ?_
  simp only [rg, Nat.reduceAdd]
  refine F.oq rfl rfl rfl (fun _ => by simp [go_sem]) fun d K hK => ?_; go_simp; refine hK _ ?_; clear hK K d; try walk_nrm
  refine F.esr ?_
  simp only [rg, Nat.reduceAdd]
  iterate 5 (refine F.oq rfl rfl rfl (fun _ => by simp [go_sem]) fun d K hK => ?_; go_simp; refine hK _ ?_; clear hK K d; try walk_nrm)
  refine F.enter rfl rfl (by decide) (fun _ => run_call_body rfl Tryz.func149 (by rfl) (by rfl)) (fun _ => events_call_body rfl Tryz.func149 (by rfl) (by rfl) _) ?_
  walk_nrm
  refine tell_w e K now en ev m w0 H (by omega) R num 3 0 hR hRJ hR1 hR2 (oR _) (oR _) _ F _ _ (fun v w1 hp => ?_)
  obtain ⟨rfl, ev1, H1, k1, v1⟩ := hp
  rw [Frame.finish_at]
  try walk_nrm
  refine F.es ?_
  refine F.sr ?_
  simp only [rg, Nat.reduceAdd]
  refine F.oq rfl rfl rfl (fun _ => by simp [go_sem]) fun d K hK => ?_; go_simp; refine hK _ ?_; clear hK K d; try walk_nrm
  refine F.enter rfl rfl (by decide) (fun _ => run_call_body rfl Tryz.func161 (by rfl) (by rfl)) (fun _ => events_call_body rfl Tryz.func161 (by rfl) (by rfl) _) ?_
  walk_nrm
  refine cancelled_x e.T w1 H1.t6 K.t6 _ F _ _ (fun v wq hp => ?_)
  obtain ⟨rfl, hq⟩ := hp
  have hq := hq.symm
  subst hq
  rw [Frame.finish_at]
  try walk_nrm
  refine F.re ?_
  refine F.cf rfl ?_
  refine F.sk ?_
  refine F.sr ?_
  simp only [rg, Nat.reduceAdd]
  iterate 3 (refine F.oq rfl rfl rfl (fun _ => by simp [go_sem]) fun d K hK => ?_; go_simp; refine hK _ ?_; clear hK K d; try walk_nrm)
  refine F.unwanted rfl rfl ?_
  try walk_nrm
  refine F.unwanted rfl rfl ?_
  try walk_nrm
  refine F.unwanted rfl rfl ?_
  try walk_nrm
  refine F.unwanted rfl rfl ?_
  try walk_nrm
  refine F.unwanted rfl rfl ?_
  try walk_nrm
  iterate 2 (refine F.oq rfl rfl rfl (fun _ => by simp [go_sem]) fun d K hK => ?_; go_simp; refine hK _ ?_; clear hK K d; try walk_nrm)
  refine F.re ?_
  refine F.ctl (fun _ => stepG_ret') ?_
  refine F.leave rfl rfl Tryz.func157 (resultsC_tmp (by rfl) _) ?_
  exact hc _ _ ⟨rfl, ev1, H1, k1, v1⟩

/-- A pause, of whatever length. -/
theorem restG_w (e : Env) (K : EnvOk e Ok) (now pause num : Int) (en ev : Value) (m : List Value) (R : Nat) (B HD C : Nat) (ta : Option Addr) (n cap : Nat) (T : Nat → Nat → Int) (k : Nat) (w0 : World) (H : CW e w0 now en ev m) (hm : m.length < 4500) (S : BgS e Ok B HD C ta n) (Q : Bg e B HD C ta n cap T w0 k) (hR : R < e.N) (hRJ : e.J ≠ R) (hR1 : w0.cell? ⟨R, 1, none⟩ = some (.int .i64 num)) (hR2 : w0.cell? ⟨R, 2, none⟩ = some (.pointer (some ⟨e.J, 0, none⟩))) (oR : ∀ i, Ok ⟨R, i, none⟩ false) (hp0 : 0 ≤ pause) (hwr : IntKind.i64.wrap (now + pause) = now + pause) :
    CallsW e Ok 157 #[.pointer (some ⟨R, 0, none⟩), .pointer (some ⟨e.T, 0, none⟩), .int .i64 pause] w0 fun v w' => v = .bool true ∧ ∃ en' ev', CW e w' (now + pause) en' ev' (m ++ evc now e.cl num 3 pause) ∧ Ru e HD w0 en ev w' en' ev' ∧ Bg e B HD C ta n cap T w' k := by
  by_cases h : (0 : Int) < pause
  · intro Ψ0 Ψ1 W c cs hc
    refine rest_w e K now pause num en ev m R HD w0 H hm hR hRJ hR1 hR2 oR h (by simp; omega) hwr Ψ0 Ψ1 W c cs fun v w' hp => ?_
    obtain ⟨rfl, en', ev', H', r', hh⟩ := hp
    obtain ⟨x1, x2⟩ := hh _ S.lH S.bH.1 S.bH.2.1 S.bH.2.2 Q.h0 Q.zh
    exact hc _ _ ⟨rfl, en', ev', H', r', Q.ru S r' H x1 x2⟩
  · have hz : pause = 0 := by omega
    subst hz
    intro Ψ0 Ψ1 W c cs hc
    refine rest0_w e K now num en ev m R HD w0 H hm hR hRJ hR1 hR2 oR Ψ0 Ψ1 W c cs fun v w' hp => ?_
    obtain ⟨rfl, ev', H', k', v'⟩ := hp
    rw [Int.add_zero] at hc
    exact hc _ _ ⟨rfl, en, ev', H', Ru.tell k' v', Q.told S H k' v'⟩
end

theorem min_run (p d : Int) (w : World) : (Builtin.min_ #[3, 3] 3 #[.int .i64 p, .int .i64 d]).run Tryz.prog w = .ok (.int .i64 (min p d)) w := by
  simp [Builtin.min_, Builtin.min2]
  split <;> simp [Int.min_def] <;> omega
theorem min_ev (p d : Int) (w : World) : (Builtin.min_ #[3, 3] 3 #[.int .i64 p, .int .i64 d]).events Tryz.prog w #[] = #[] := by
  simp [Builtin.min_, Builtin.min2]
end Go.Proofs.YtobagnjnbmgidaaGreatDoor
