/- The retry, for every layer and every client. -/
import Derived.Test.YtobagnjnbmgidaaGreatDoorY3
import Derived.IntWalk
set_option linter.unusedSimpArgs false
set_option linter.unusedVariables false
namespace Go.Proofs.YtobagnjnbmgidaaGreatDoor
open Go.Conc Go.RowKit Go.Extern
variable {Ok : Addr → Bool → Prop}

def loopIn : Code → Code
  | .block _ (.loop b) => b
  | c => c
theorem raise_base (f : FuncId) (a : Act) (todo : List Item) (ch : List PanicEntry) : ((base f).at a todo).raise ch = { (base f).at a todo with mode := .panicking ch } := rfl

/-- The pauses, capped at every step; the time at which an attempt begins. -/
def pzK (b c d : Int) : Nat → Int
  | 0 => min b d
  | k + 1 => min (pzK b c d k * c) d
def tmK (st : Int) (tk pz : Nat → Int) : Nat → Int
  | 0 => st
  | k + 1 => tmK st tk pz k + tk k + pz k
theorem pzK_in {b c d : Int} (hb : 0 ≤ b) (hc : 0 ≤ c) (hd : 0 ≤ d) : ∀ k, 0 ≤ pzK b c d k ∧ pzK b c d k ≤ d
  | 0 => by unfold pzK; omega
  | k + 1 => by
    have h := pzK_in hb hc hd k
    have := Int.mul_nonneg h.1 hc
    unfold pzK
    omega
theorem tmK_in {st : Int} {tk pz : Nat → Int} (h0 : 0 ≤ st ∧ st ≤ 1000) (ht : ∀ k, 0 ≤ tk k ∧ tk k ≤ 1000) (hp : ∀ k, 0 ≤ pz k ∧ pz k ≤ 10000) : ∀ k : Nat, 0 ≤ tmK st tk pz k ∧ tmK st tk pz k ≤ 1000 + 11000 * k
  | 0 => by unfold tmK; omega
  | k + 1 => by
    have h := tmK_in h0 ht hp k
    have h1 := ht k
    have h2 := hp k
    unfold tmK
    omega

/-- The retry's block. -/
structure Rg (e : Env) (R B : Nat) (a b c d : Int) (w : World) : Prop where
  r0 : w.cell? ⟨R, 0, none⟩ = some (.iface 138 (.pointer (some ⟨B, 0, none⟩)))
  r1 : w.cell? ⟨R, 1, none⟩ = some (.int .i64 0)
  r2 : w.cell? ⟨R, 2, none⟩ = some (.pointer (some ⟨e.J, 0, none⟩))
  r3 : w.cell? ⟨R, 3, none⟩ = some (.int .i64 a)
  r4 : w.cell? ⟨R, 4, none⟩ = some (.int .i64 b)
  r5 : w.cell? ⟨R, 5, none⟩ = some (.int .i64 c)
  r6 : w.cell? ⟨R, 6, none⟩ = some (.int .i64 d)
/-- .. apart from what a walk writes. -/
structure RgS (e : Env) (Ok : Addr → Bool → Prop) (R HD : Nat) : Prop where
  lR : R < e.N
  n1 : R ≠ e.J
  n2 : R ≠ HD
  n3 : R ≠ e.A
  n4 : R ≠ e.T
  ok : ∀ i, Ok ⟨R, i, none⟩ false
theorem Rg.ru {e : Env} {R B HD : Nat} {a b c d : Int} {w w' : World} {en ev en' ev' : Value} {now : Int} {m : List Value} (h : Rg e R B a b c d w) (r : Ru e HD w en ev w' en' ev') (H : CW e w now en ev m) (s : RgS e Ok R HD) : Rg e R B a b c d w' :=
  ⟨r.stat H s.lR s.n1 s.n2 s.n3 s.n4 h.r0, r.stat H s.lR s.n1 s.n2 s.n3 s.n4 h.r1, r.stat H s.lR s.n1 s.n2 s.n3 s.n4 h.r2, r.stat H s.lR s.n1 s.n2 s.n3 s.n4 h.r3, r.stat H s.lR s.n1 s.n2 s.n3 s.n4 h.r4, r.stat H s.lR s.n1 s.n2 s.n3 s.n4 h.r5, r.stat H s.lR s.n1 s.n2 s.n3 s.n4 h.r6⟩

/-- A block that a walk made and nobody else knows. -/
def Fresh (w0 w' : World) (en ev : Value) (q : Nat) : Prop := w0.heap.size ≤ q ∧ q < w'.heap.size ∧ q ∉ rowL ev ∧ q ∉ rowL en
/-- What the retry answers; kd, nn: of the last turn; last: it was the last attempt. -/
def RetryR (kd nn : Int) (last : Prop) (w0 w' : World) (en ev : Value) (r : Value ⊕ Value) : Prop :=
  (kd = 1 ∧ r = .inl (.tuple #[.int .i64 nn, .nilIface])) ∨
  (kd = 3 ∧ ∃ q, r = .inl (.tuple #[.int .i64 0, .iface 168 (.pointer (some ⟨q, 0, none⟩))]) ∧ Fresh w0 w' en ev q ∧ LinkAt w' q 2 (-1) nn .nilIface) ∨
  (kd = 4 ∧ r = .inr (.iface 166 (.int .i64 nn))) ∨
  (kd = 2 ∧ last ∧ ∃ p q, r = .inl (.tuple #[.int .i64 0, .iface 168 (.pointer (some ⟨p, 0, none⟩))]) ∧ Fresh w0 w' en ev p ∧ Fresh w0 w' en ev q ∧ LinkAt w' p 7 0 0 (.iface 168 (.pointer (some ⟨q, 0, none⟩))) ∧ LinkAt w' q 1 (-1) nn .nilIface)
theorem RetryR.mono {kd nn : Int} {last : Prop} {w0 w1 w' : World} {en ev : Value} {r : Value ⊕ Value} (h : RetryR kd nn last w1 w' en ev r) (hle : w0.heap.size ≤ w1.heap.size) : RetryR kd nn last w0 w' en ev r := by
  rcases h with h | ⟨h, q, h1, h2, h3⟩ | h | ⟨h, hl, p, q, h1, h2, h3, h4⟩
  · exact .inl h
  · exact .inr (.inl ⟨h, q, h1, ⟨Nat.le_trans hle h2.1, h2.2⟩, h3⟩)
  · exact .inr (.inr (.inl h))
  · exact .inr (.inr (.inr ⟨h, hl, p, q, h1, ⟨Nat.le_trans hle h2.1, h2.2⟩, ⟨Nat.le_trans hle h3.1, h3.2⟩, h4⟩))

/-- The turns are as Check lets them be. -/
def GoodT (T : Nat → Nat → Int) (n : Nat) : Prop := ∀ k, (turnK T n k 0 = 1 ∨ turnK T n k 0 = 2 ∨ turnK T n k 0 = 3 ∨ turnK T n k 0 = 4) ∧ 0 ≤ turnK T n k 2 ∧ turnK T n k 2 ≤ 1000

set_option maxRecDepth 100000 in
set_option maxHeartbeats 20000000 in
theorem retry_loop (e : Env) (K : EnvOk e Ok) (hcl : e.cl = 0) {Ψ0 : Goroutine → World → Prop} {Ψ1 : Nat → Goroutine → World → Prop} (W : FutW e Ok Ψ0 Ψ1) (c : Frame) (cs : List Frame) (R B HD C : Nat) (ta : Option Addr) (n cap : Nat) (T : Nat → Nat → Int) (A : Nat) (a b cc d st : Int) (pz tm : Nat → Int)
    (hA : A ≤ 9) (ha : a ≤ A ∧ (A : Int) ≤ a) (hT : GoodT T n) (hcc : 0 ≤ cc ∧ cc ≤ 9) (hd : 0 ≤ d ∧ d ≤ 10000) (hpz : ∀ k, 0 ≤ pz k ∧ pz k ≤ d) (hpn : ∀ k, pz (k + 1) = min (pz k * cc) d) (htm : ∀ k : Nat, 0 ≤ tm k ∧ tm k ≤ 1000 + 11000 * k) (htn : ∀ k, tm (k + 1) = tm k + turnK T n k 2 + pz k) (S : BgS e Ok B HD C ta n) (s : RgS e Ok R HD) :
    ∀ (left k : Nat) {y2 y3 y8 y9 y10 y11 y12 y13 y14 y15 y16 y17 y18 y19 y20 y21 y22 y23 y24 y25 y26 y27 y28 y29 y30 y31 y32 y33 y34 y35 y36 y37 y38 y39 y40 y41 y42 y43 y44 y45 y46 y47 y48 y49 y50 y51 y52 y53 y54 y55 y56 y57 y58 y59 y60 y61 y62 y63 y64 y65 y66 y67 y68 y69 y70 y71 y72 y73 y74 y75 y76 y77 y78 y79 : Value} (p at1 : Int) (en ev : Value) (m : List Value) (w0 : World), k + 1 + left = A → pz k = p → (at1 ≤ k + 1 ∧ (k : Int) + 1 ≤ at1) → CW e w0 (tm k) en ev m → m.length ≤ 20 * k → Bg e B HD C ta n cap T w0 k → Rg e R B a b cc d w0 →
    (∀ k' r en' ev' m' w', k ≤ k' → k' < A → (∀ i, k ≤ i → i < k' → turnK T n i 0 = 2) → m'.length ≤ 300 → CW e w' (tm k' + turnK T n k' 2) en' ev' m' → Ru e HD w0 en ev w' en' ev' → RetryR (turnK T n k' 0) (turnK T n k' 1) (k' + 1 = A) w0 w' en' ev' r → Ψ0 (G (ends c r) cs) w') →
    Ψ0 (G ((base 156).at ⟨(List.toArray ((.pointer (some ⟨R, 0, none⟩)) :: (.pointer (some ⟨e.T, 0, none⟩)) :: y2 :: y3 :: (.int .i64 0) :: (.nilIface) :: (.int .i64 p) :: (.int .i64 at1) :: y8 :: y9 :: y10 :: y11 :: y12 :: y13 :: y14 :: y15 :: y16 :: y17 :: y18 :: y19 :: y20 :: y21 :: y22 :: y23 :: y24 :: y25 :: y26 :: y27 :: y28 :: y29 :: y30 :: y31 :: y32 :: y33 :: y34 :: y35 :: y36 :: y37 :: y38 :: y39 :: y40 :: y41 :: y42 :: y43 :: y44 :: y45 :: y46 :: y47 :: y48 :: y49 :: y50 :: y51 :: y52 :: y53 :: y54 :: y55 :: y56 :: y57 :: y58 :: y59 :: y60 :: y61 :: y62 :: y63 :: y64 :: y65 :: y66 :: y67 :: y68 :: y69 :: y70 :: y71 :: y72 :: y73 :: y74 :: y75 :: y76 :: y77 :: y78 :: y79 :: [])), []⟩ [.code (loopIn (dropSeq 3 (Tryz.f156.body.getD .skip))), .inLoop (loopIn (dropSeq 3 (Tryz.f156.body.getD .skip))), .inBlock 0]) (c :: cs)) w0 := by
  intro left
  induction left using Nat.strongRecOn with
  | _ left ih =>
  intro k y2 y3 y8 y9 y10 y11 y12 y13 y14 y15 y16 y17 y18 y19 y20 y21 y22 y23 y24 y25 y26 y27 y28 y29 y30 y31 y32 y33 y34 y35 y36 y37 y38 y39 y40 y41 y42 y43 y44 y45 y46 y47 y48 y49 y50 y51 y52 y53 y54 y55 y56 y57 y58 y59 y60 y61 y62 y63 y64 y65 y66 y67 y68 y69 y70 y71 y72 y73 y74 y75 y76 y77 y78 y79 p at1 en ev m w0 hkl hpq hat H hm Q X hc
  have F := W.f0
  have l1 := K.lA
  have l2 := K.lT
  have l3 := K.lJ
  have hsz := H.size
  have hsX := H.sX
  have hnX := H.nX
  have hfr : ∀ (a : Addr) (wr : Bool), e.X + 1 ≤ a.block → Ok a wr := fun a wr h => K.fr a wr (by omega) (by omega)
  have hN0 := s.ok 0
  have hN1 := s.ok 1
  have hN3 := s.ok 3
  have hN4 := s.ok 4
  have hN5 := s.ok 5
  have hN6 := s.ok 6
  have t5 := evNil
  have t6 := evNN
  have mR := min_run
  have mE := min_ev
  have gt := hT k
  have hpk := hpz k
  rw [hpq] at hpk
  have htk := htm k
  have htk1 := htm (k + 1)
  have hmul : IntKind.i64.wrap (p * cc) = p * cc := IntWalk.i64_in _ (by
    have h1 : 0 ≤ p * cc := Int.mul_nonneg hpk.1 hcc.1
    have h2 : p * cc ≤ p * 9 := Int.mul_le_mul_of_nonneg_left hcc.2 hpk.1
    omega)
  have hat1 : IntKind.i64.wrap (at1 + 1) = at1 + 1 := IntWalk.i64_in _ (by omega)
  have hst1 := s.n1
  obtain ⟨x0, x1, x2, x3, x4, x5, x6⟩ := id X
  unfold dropSeq loopIn
  refine F.sq ?_
  refine F.bl ?_
  refine F.sr ?_
  simp only [rg, Nat.reduceAdd]
  iterate 4 (refine F.oq rfl rfl rfl (by simp [go_sem]) fun d K h => ?_; go_simp; refine h _ ?_; clear h K d; try walk_nrm)
  refine F.ol rfl rfl rfl fun d K h => ?_; go_simp; refine h _ (fun e m => ?_) ?_; simp [go_sem, *] at m; subst m; exact evr (w := w0) (by assumption) (by first | assumption | (apply hfr <;> dsimp only <;> omega)); clear h K d; try walk_nrm
  refine F.oq rfl rfl rfl (by simp [go_sem]) fun d K h => ?_; go_simp; refine h _ ?_; clear h K d; try walk_nrm
  refine F.invoke rfl rfl (by decide) rfl rfl (mEnter138 _) (mEnter138e _) Tryz.func146 (by rfl) (by rfl) ?_
  walk_nrm
  refine back_o e K hcl B HD C ta n cap T (tm k) en ev m k w0 H (by omega) S Q (IntWalk.i64_in _ (by omega)) gt.1 gt.2.1 (IntWalk.i64_in _ (by omega)) Ψ0 Ψ1 W _ _ (fun r w1 hp' => ?_)
  obtain ⟨en1, ev1, H1, Q1, r1, hb⟩ := hp'
  have X1 := X.ru r1 H s
  have hs1 := r1.kp.size
  clear x0 x1 x2 x3 x4 x5 x6
  obtain ⟨x0, x1, x2, x3, x4, x5, x6⟩ := id X1
  have hml : (m ++ evc (tm k) e.cl (-1) 1 k ++ evc (tm k + turnK T n k 2) e.cl (-1) 2 k).length ≤ 20 * k + 10 := by simp only [List.length_append, List.length_cons, List.length_nil]; omega
  rcases hb with ⟨hk1, rfl⟩ | ⟨hk23, q, rfl, hq1, hq2, hq3, hq4, L⟩ | ⟨hk4, rfl⟩
  · simp only [ends]
    rw [Frame.finish_at]
    try walk_nrm
    iterate 5 (refine F.oq rfl rfl rfl (by simp [go_sem]) fun d K h => ?_; go_simp; refine h _ ?_; clear h K d; try walk_nrm)
    refine F.es ?_
    refine F.sr ?_
    simp only [rg, Nat.reduceAdd]
    iterate 3 (refine F.oq rfl rfl rfl (fun _ => by first | (simp [go_sem]; done) | simp [go_sem, Instr.makeInterface, Instr.makeFunc, *]) fun d K hK => ?_; go_simp; refine hK _ ?_; clear hK K d; try walk_nrm)
    refine F.unwanted rfl rfl ?_
    try walk_nrm
    refine F.unwanted rfl rfl ?_
    try walk_nrm
    refine F.oq rfl rfl rfl (by simp [go_sem]) fun d K h => ?_; go_simp; refine h _ ?_; clear h K d; try walk_nrm
    refine F.re ?_
    refine F.ct rfl ?_
    refine F.sr ?_
    simp only [rg, Nat.reduceAdd]
    iterate 4 (refine F.oq rfl rfl rfl (by simp [go_sem]) fun d K h => ?_; go_simp; refine h _ ?_; clear h K d; try walk_nrm)
    refine F.re ?_
    refine F.ctl (fun _ => stepG_ret') ?_
    refine F.leave rfl rfl Tryz.func156 (resultsC_tmp2 (by rfl) _) ?_
    exact hc k (.inl _) en1 ev1 _ w1 (Nat.le_refl _) (by omega) (fun i h1 h2 => absurd h2 (by omega)) (by omega) H1 r1 (.inl ⟨hk1, rfl⟩)
  · rcases hk23 with hk2 | hk3
    · have c0 : w1.cell? ⟨q, 0, none⟩ = some (.int .i64 1) := by have := L.c0; rw [hk2] at this; exact this
      have c1 := L.c1
      have c2 := L.c2
      have c3 := L.c3
      clear L
      simp only [ends]
      rw [Frame.finish_at]
      try walk_nrm
      iterate 5 (refine F.oq rfl rfl rfl (by simp [go_sem]) fun d K h => ?_; go_simp; refine h _ ?_; clear h K d; try walk_nrm)
      refine F.es ?_
      refine F.sr ?_
      simp only [rg, Nat.reduceAdd]
      iterate 4 (refine F.oq rfl rfl rfl (fun _ => by first | (simp [go_sem]; done) | simp [go_sem, Instr.makeInterface, Instr.makeFunc, *]) fun d K hK => ?_; go_simp; refine hK _ ?_; clear hK K d; try walk_nrm)
      refine F.enter rfl rfl (by decide) (fun _ => run_call_body rfl Tryz.func158 (by rfl) (by rfl)) (fun _ => events_call_body rfl Tryz.func158 (by rfl) (by rfl) _) ?_
      walk_nrm
      refine hopeless_x q w1 c0 c3 (hfr _ _ (by dsimp only; omega)) (hfr _ _ (by dsimp only; omega)) _ F _ _ (fun v wq hp => ?_)
      obtain ⟨rfl, hq⟩ := hp
      have hq := hq.symm
      subst hq
      rw [Frame.finish_at]
      try walk_nrm
      by_cases hlast : at1 = a
      · refine F.opq rfl rfl (by decide) (fun _ => (by first | (simp [go_sem]; done) | (simp [go_sem, Instr.makeInterface, Instr.makeFunc]; done) | (simp [go_sem, *]; done))) (fun d K hK => ?_)
        go_simp
        refine hK _ ?_
        clear hK K d
        try walk_nrm
        refine F.re ?_
        refine F.cf rfl ?_
        refine F.sk ?_
        refine F.sq ?_
        refine F.sr ?_
        simp only [rg, Nat.reduceAdd]
        iterate 4 (refine F.oq rfl rfl rfl (by simp [go_sem]) fun d K h => ?_; go_simp; refine h _ ?_; clear h K d; try walk_nrm)
        refine F.ol rfl rfl rfl fun d K h => ?_; go_simp; refine h _ (fun e m => ?_) ?_; simp [go_sem, *] at m; subst m; exact evr (w := w1) (by assumption) (by first | assumption | (apply hfr <;> dsimp only <;> omega)); clear h K d; try walk_nrm
        refine F.oq rfl rfl rfl (by simp [go_sem]) fun d K h => ?_; go_simp; refine h _ ?_; clear h K d; try walk_nrm
        refine F.re ?_
        refine F.ct rfl ?_
        refine F.sr ?_
        simp only [rg, Nat.reduceAdd]
        iterate 4 (refine F.oq rfl rfl rfl (by simp [go_sem]) fun d K h => ?_; go_simp; refine h _ ?_; clear h K d; try walk_nrm)
        refine F.enter rfl rfl (by decide) (fun _ => run_call_body rfl Tryz.func149 (by rfl) (by rfl)) (fun _ => events_call_body rfl Tryz.func149 (by rfl) (by rfl) _) ?_
        walk_nrm
        refine tell_w e K (tm k + turnK T n k 2) en1 ev1 _ w1 H1 (by omega) R 0 4 0 s.lR (Ne.symm s.n1) x1 x2 (s.ok _) (s.ok _) _ F _ _ (fun v w32 hp => ?_)
        obtain ⟨rfl, ev4, H4, k4, v4⟩ := hp
        have r4 : Ru e HD w1 en1 ev1 w32 en1 ev4 := Ru.tell k4 v4
        have x14 := r4.stat H1 s.lR s.n1 s.n2 s.n3 s.n4 x1
        obtain ⟨c0, _, hq3', hq4'⟩ := r4.temp K S.lH (by omega) hq3 hq4 c0
        obtain ⟨c1, _⟩ := r4.temp K S.lH (by omega) hq3 hq4 c1
        obtain ⟨c2, _⟩ := r4.temp K S.lH (by omega) hq3 hq4 c2
        obtain ⟨c3, _⟩ := r4.temp K S.lH (by omega) hq3 hq4 c3
        have r0 := r1.trans r4
        have hs4 := r4.kp.size
        clear x0 x1 x2 x3 x4 x5 x6
        rw [Frame.finish_at]
        try walk_nrm
        refine F.esr ?_
        simp only [rg, Nat.reduceAdd]
        iterate 4 (refine F.oq rfl rfl rfl (by simp [go_sem]) fun d K h => ?_; go_simp; refine h _ ?_; clear h K d; try walk_nrm)
        refine F.ol rfl rfl rfl fun d K h => ?_; go_simp; refine h _ (fun e m => ?_) ?_; simp [go_sem, *] at m; subst m; exact evr (w := w32) (by assumption) (by first | assumption | (apply hfr <;> dsimp only <;> omega)); clear h K d; try walk_nrm
        refine F.oq rfl rfl rfl (by simp [go_sem]) fun d K h => ?_; go_simp; refine h _ ?_; clear h K d; try walk_nrm
        refine F.enter rfl rfl (by decide) (fun _ => run_call_body rfl Tryz.func159 (by rfl) (by rfl)) (fun _ => events_call_body rfl Tryz.func159 (by rfl) (by rfl) _) ?_
        walk_nrm
        refine wrap_x 0 168 (.pointer (some ⟨q, 0, none⟩)) w32 _ F _ _ (fun v w33 hp => ?_)
        obtain ⟨rfl, hw33'⟩ := hp
        have hw33 := hw33'.symm
        clear hw33'
        rw [Frame.finish_at]
        try walk_nrm
        iterate 2 (refine F.oq rfl rfl rfl (by simp [go_sem]) fun d K h => ?_; go_simp; refine h _ ?_; clear h K d; try walk_nrm)
        refine F.re ?_
        refine F.ctl (fun _ => stepG_ret') ?_
        refine F.leave rfl rfl Tryz.func156 (resultsC_tmp2 (by rfl) _) ?_
        generalize hn9 : w32.heap.size = pp at *
        have sz9 := sz_al hw33 hn9
        have k9 : Kp [] w32 w33 := Kp.alloc hw33
        have r9 : Ru e HD w32 en1 ev4 w33 en1 ev4 := Ru.own k9 (by simp)
        have H9 : CW e w33 _ en1 ev4 _ := H4.keep k9 (by simp) l1 l2 l3 (by simp)
        have hr0 := r0.kp.size
        refine hc k (.inl _) en1 ev4 _ w33 (Nat.le_refl _) (by omega) (fun i h1 h2 => absurd h2 (by omega)) (by simp only [List.length_append, List.length_cons, List.length_nil] at hml ⊢; omega) H9 (r0.trans r9) (.inr (.inr (.inr ⟨hk2, by omega, pp, q, rfl, ⟨by omega, by omega, fun z => by have := (H4.rowN z).2; omega, fun z => by have := (H4.entN z).2; omega⟩, ⟨by omega, by omega, hq3', hq4'⟩, ⟨cl_new (i := 0) hw33 hn9 rfl, cl_new (i := 1) hw33 hn9 rfl, cl_new (i := 2) hw33 hn9 rfl, cl_new (i := 3) hw33 hn9 rfl⟩, ⟨k9.cell _ _ (by simp) c0, k9.cell _ _ (by simp) c1, k9.cell _ _ (by simp) c2, k9.cell _ _ (by simp) c3⟩⟩)))
      · have hl1 : (at1 == a) = false := by simpa using hlast
        refine F.oq rfl rfl rfl (by simp [go_sem]) fun d K h => ?_; go_simp; refine h _ ?_; clear h K d; try walk_nrm
        refine F.re ?_
        refine F.cf rfl ?_
        refine F.sk ?_
        refine F.sq ?_
        refine F.sr ?_
        simp only [rg, Nat.reduceAdd]
        iterate 4 (refine F.oq rfl rfl rfl (by simp [go_sem]) fun d K h => ?_; go_simp; refine h _ ?_; clear h K d; try walk_nrm)
        refine F.ol rfl rfl rfl fun d K h => ?_; go_simp; refine h _ (fun e m => ?_) ?_; simp [go_sem, *] at m; subst m; exact evr (w := w1) (by assumption) (by first | assumption | (apply hfr <;> dsimp only <;> omega)); clear h K d; try walk_nrm
        refine F.oq rfl rfl rfl (by simp [go_sem]) fun d K h => ?_; go_simp; refine h _ ?_; clear h K d; try walk_nrm
        refine F.re ?_
        refine F.cf rfl ?_
        refine F.sk ?_
        refine F.sq ?_
        refine F.sr ?_
        simp only [rg, Nat.reduceAdd]
        iterate 3 (refine F.oq rfl rfl rfl (by simp [go_sem]) fun d K h => ?_; go_simp; refine h _ ?_; clear h K d; try walk_nrm)
        refine F.enter rfl rfl (by decide) (fun _ => run_call_body rfl Tryz.func157 (by rfl) (by rfl)) (fun _ => events_call_body rfl Tryz.func157 (by rfl) (by rfl) _) ?_
        walk_nrm
        refine restG_w e K (tm k + turnK T n k 2) p 0 en1 ev1 _ R B HD C ta n cap T (k + 1) w1 H1 (by omega) S Q1 s.lR (Ne.symm s.n1) x1 x2 s.ok hpk.1 (IntWalk.i64_in _ (by omega)) Ψ0 Ψ1 W _ _ (fun v w2 hp' => ?_)
        obtain ⟨rfl, en2, ev2, H2, r2, Q2⟩ := hp'
        have X2 := X1.ru r2 H1 s
        have hs2 := r2.kp.size
        clear x0 x1 x2 x3 x4 x5 x6 c0 c1 c2 c3
        obtain ⟨x0, x1, x2, x3, x4, x5, x6⟩ := id X2
        rw [Frame.finish_at]
        try walk_nrm
        refine F.oq rfl rfl rfl (by simp [go_sem]) fun d K h => ?_; go_simp; refine h _ ?_; clear h K d; try walk_nrm
        refine F.re ?_
        refine F.cf rfl ?_
        refine F.sk ?_
        refine F.drawB (γ := Unit) (n := 12) mixed [[], [], [1], [2], [3], [0, 4], [], [6], [7], [8], [5, 9], [0, 1, 2, 3, 4, 5, 6, 7, 8, 9, 10]] rfl (by kernel_rfl) (fun b g => [(69, sel (b 0) (.int .i64 p) (y69)), (70, sel (b 1) (.pointer (some ⟨R, 0, none⟩)) (y70)), (71, sel (b 2) (.pointer (some ⟨R, 0, none⟩)) (y71)), (72, sel (b 3) (.pointer (some ⟨R, 5, none⟩)) (y72)), (73, sel (b 4) (.int .i64 cc) (y73)), (74, sel (b 5) (.int .i64 (p * cc)) (y74)), (75, sel (b 6) (.pointer (some ⟨R, 0, none⟩)) (y75)), (76, sel (b 7) (.pointer (some ⟨R, 0, none⟩)) (y76)), (77, sel (b 8) (.pointer (some ⟨R, 6, none⟩)) (y77)), (78, sel (b 9) (.int .i64 d) (y78)), (79, sel (b 10) (.int .i64 (min (p * cc) d)) (y79)), (6, sel (b 11) (.int .i64 (min (p * cc) d)) (.int .i64 p))]) (fun b g w => (b 11 = false → w = w2) ∧ (b 11 = true → ( w = w2))) (()) (by simp only [pu, Nat.reduceAdd, Nat.reduceEqDiff, reduceIte]) (⟨fun _ => rfl, fun h => by cases h⟩) (all_cons ?_ (all_cons ?_ (all_cons ?_ (all_cons ?_ (all_cons ?_ (all_cons ?_ (all_cons ?_ (all_cons ?_ (all_cons ?_ (all_cons ?_ (all_cons ?_ (all_cons ?_ (all_nil))))))))))))) ?_
        · intro b g w hI hcl hbi hdp rest hre hkk
          obtain ⟨hwf, hwt⟩ := hI
          replace hbi : b 0 = false := hbi
          have nb5 := nbf (hcl 5 0 rfl) hbi
          have nb11 := nbf (hcl 11 0 rfl) hbi
          have ewc := (hwf nb11).symm
          subst ewc
          simp only [nb5, nb11, hbi, pu, Nat.reduceAdd, Nat.reduceEqDiff, reduceIte]
          refine F.oq rfl rfl rfl (by simp [go_sem]) fun d K h => ?_; go_simp; refine h _ ?_; clear h K d; try walk_nrm
          have hk2 := hkk g _ ⟨fun _ => rfl, fun h => no nb11 h⟩
          simp only [nb5, nb11, hbi, pu, Nat.reduceAdd, Nat.reduceEqDiff, reduceIte] at hk2
          exact hk2
        · intro b g w hI hcl hbi hdp rest hre hkk
          obtain ⟨hwf, hwt⟩ := hI
          replace hbi : b 1 = false := hbi
          have nb2 := nbf (hcl 2 1 rfl) hbi
          have nb11 := nbf (hcl 11 1 rfl) hbi
          have ewc := (hwf nb11).symm
          subst ewc
          simp only [nb2, nb11, hbi, pu, Nat.reduceAdd, Nat.reduceEqDiff, reduceIte]
          refine F.oq rfl rfl rfl (by simp [go_sem]) fun d K h => ?_; go_simp; refine h _ ?_; clear h K d; try walk_nrm
          have hk2 := hkk g _ ⟨fun _ => rfl, fun h => no nb11 h⟩
          simp only [nb2, nb11, hbi, pu, Nat.reduceAdd, Nat.reduceEqDiff, reduceIte] at hk2
          exact hk2
        · intro b g w hI hcl hbi hdp rest hre hkk
          obtain ⟨hwf, hwt⟩ := hI
          replace hbi : b 2 = false := hbi
          have d1 := hdp 1 rfl
          have nb3 := nbf (hcl 3 2 rfl) hbi
          have nb11 := nbf (hcl 11 2 rfl) hbi
          have ewc := (hwf nb11).symm
          subst ewc
          simp only [d1, nb3, nb11, hbi, pu, Nat.reduceAdd, Nat.reduceEqDiff, reduceIte]
          refine F.oq rfl rfl rfl (by simp [go_sem]) fun d K h => ?_; go_simp; refine h _ ?_; clear h K d; try walk_nrm
          have hk2 := hkk g _ ⟨fun _ => rfl, fun h => no nb11 h⟩
          simp only [d1, nb3, nb11, hbi, pu, Nat.reduceAdd, Nat.reduceEqDiff, reduceIte] at hk2
          exact hk2
        · intro b g w hI hcl hbi hdp rest hre hkk
          obtain ⟨hwf, hwt⟩ := hI
          replace hbi : b 3 = false := hbi
          have d2 := hdp 2 rfl
          have d1 := hcl 2 1 rfl d2
          have nb4 := nbf (hcl 4 3 rfl) hbi
          have nb11 := nbf (hcl 11 3 rfl) hbi
          have ewc := (hwf nb11).symm
          subst ewc
          simp only [d2, d1, nb4, nb11, hbi, pu, Nat.reduceAdd, Nat.reduceEqDiff, reduceIte]
          refine F.oq rfl rfl rfl (by simp [go_sem]) fun d K h => ?_; go_simp; refine h _ ?_; clear h K d; try walk_nrm
          have hk2 := hkk g _ ⟨fun _ => rfl, fun h => no nb11 h⟩
          simp only [d2, d1, nb4, nb11, hbi, pu, Nat.reduceAdd, Nat.reduceEqDiff, reduceIte] at hk2
          exact hk2
        · intro b g w hI hcl hbi hdp rest hre hkk
          obtain ⟨hwf, hwt⟩ := hI
          replace hbi : b 4 = false := hbi
          have d3 := hdp 3 rfl
          have d2 := hcl 3 2 rfl d3
          have d1 := hcl 2 1 rfl d2
          have nb5 := nbf (hcl 5 4 rfl) hbi
          have nb11 := nbf (hcl 11 4 rfl) hbi
          have ewc := (hwf nb11).symm
          subst ewc
          simp only [d3, d2, d1, nb5, nb11, hbi, pu, Nat.reduceAdd, Nat.reduceEqDiff, reduceIte]
          refine F.ol rfl rfl rfl fun d K h => ?_; go_simp; refine h _ (fun e m => ?_) ?_; simp [go_sem, *] at m; subst m; exact evr (w := w2) (by assumption) (by first | assumption | (apply hfr <;> dsimp only <;> omega)); clear h K d; try walk_nrm
          have hk2 := hkk g _ ⟨fun _ => rfl, fun h => no nb11 h⟩
          simp only [d3, d2, d1, nb5, nb11, hbi, pu, Nat.reduceAdd, Nat.reduceEqDiff, reduceIte] at hk2
          exact hk2
        · intro b g w hI hcl hbi hdp rest hre hkk
          obtain ⟨hwf, hwt⟩ := hI
          replace hbi : b 5 = false := hbi
          have d0 := hdp 0 rfl
          have d4 := hdp 4 rfl
          have d3 := hcl 4 3 rfl d4
          have d2 := hcl 3 2 rfl d3
          have d1 := hcl 2 1 rfl d2
          have nb10 := nbf (hcl 10 5 rfl) hbi
          have nb11 := nbf (hcl 11 5 rfl) hbi
          have ewc := (hwf nb11).symm
          subst ewc
          simp only [d0, d4, d3, d2, d1, nb10, nb11, hbi, pu, Nat.reduceAdd, Nat.reduceEqDiff, reduceIte]
          refine F.oq rfl rfl rfl (by simp [go_sem]) fun d K h => ?_; go_simp; refine h _ ?_; clear h K d; try walk_nrm
          have hk2 := hkk g _ ⟨fun _ => rfl, fun h => no nb11 h⟩
          simp only [d0, d4, d3, d2, d1, nb10, nb11, hbi, pu, Nat.reduceAdd, Nat.reduceEqDiff, reduceIte] at hk2
          exact hk2
        · intro b g w hI hcl hbi hdp rest hre hkk
          obtain ⟨hwf, hwt⟩ := hI
          replace hbi : b 6 = false := hbi
          have nb7 := nbf (hcl 7 6 rfl) hbi
          have nb11 := nbf (hcl 11 6 rfl) hbi
          have ewc := (hwf nb11).symm
          subst ewc
          simp only [nb7, nb11, hbi, pu, Nat.reduceAdd, Nat.reduceEqDiff, reduceIte]
          refine F.oq rfl rfl rfl (by simp [go_sem]) fun d K h => ?_; go_simp; refine h _ ?_; clear h K d; try walk_nrm
          have hk2 := hkk g _ ⟨fun _ => rfl, fun h => no nb11 h⟩
          simp only [nb7, nb11, hbi, pu, Nat.reduceAdd, Nat.reduceEqDiff, reduceIte] at hk2
          exact hk2
        · intro b g w hI hcl hbi hdp rest hre hkk
          obtain ⟨hwf, hwt⟩ := hI
          replace hbi : b 7 = false := hbi
          have d6 := hdp 6 rfl
          have nb8 := nbf (hcl 8 7 rfl) hbi
          have nb11 := nbf (hcl 11 7 rfl) hbi
          have ewc := (hwf nb11).symm
          subst ewc
          simp only [d6, nb8, nb11, hbi, pu, Nat.reduceAdd, Nat.reduceEqDiff, reduceIte]
          refine F.oq rfl rfl rfl (by simp [go_sem]) fun d K h => ?_; go_simp; refine h _ ?_; clear h K d; try walk_nrm
          have hk2 := hkk g _ ⟨fun _ => rfl, fun h => no nb11 h⟩
          simp only [d6, nb8, nb11, hbi, pu, Nat.reduceAdd, Nat.reduceEqDiff, reduceIte] at hk2
          exact hk2
        · intro b g w hI hcl hbi hdp rest hre hkk
          obtain ⟨hwf, hwt⟩ := hI
          replace hbi : b 8 = false := hbi
          have d7 := hdp 7 rfl
          have d6 := hcl 7 6 rfl d7
          have nb9 := nbf (hcl 9 8 rfl) hbi
          have nb11 := nbf (hcl 11 8 rfl) hbi
          have ewc := (hwf nb11).symm
          subst ewc
          simp only [d7, d6, nb9, nb11, hbi, pu, Nat.reduceAdd, Nat.reduceEqDiff, reduceIte]
          refine F.oq rfl rfl rfl (by simp [go_sem]) fun d K h => ?_; go_simp; refine h _ ?_; clear h K d; try walk_nrm
          have hk2 := hkk g _ ⟨fun _ => rfl, fun h => no nb11 h⟩
          simp only [d7, d6, nb9, nb11, hbi, pu, Nat.reduceAdd, Nat.reduceEqDiff, reduceIte] at hk2
          exact hk2
        · intro b g w hI hcl hbi hdp rest hre hkk
          obtain ⟨hwf, hwt⟩ := hI
          replace hbi : b 9 = false := hbi
          have d8 := hdp 8 rfl
          have d7 := hcl 8 7 rfl d8
          have d6 := hcl 7 6 rfl d7
          have nb10 := nbf (hcl 10 9 rfl) hbi
          have nb11 := nbf (hcl 11 9 rfl) hbi
          have ewc := (hwf nb11).symm
          subst ewc
          simp only [d8, d7, d6, nb10, nb11, hbi, pu, Nat.reduceAdd, Nat.reduceEqDiff, reduceIte]
          refine F.ol rfl rfl rfl fun d K h => ?_; go_simp; refine h _ (fun e m => ?_) ?_; simp [go_sem, *] at m; subst m; exact evr (w := w2) (by assumption) (by first | assumption | (apply hfr <;> dsimp only <;> omega)); clear h K d; try walk_nrm
          have hk2 := hkk g _ ⟨fun _ => rfl, fun h => no nb11 h⟩
          simp only [d8, d7, d6, nb10, nb11, hbi, pu, Nat.reduceAdd, Nat.reduceEqDiff, reduceIte] at hk2
          exact hk2
        · intro b g w hI hcl hbi hdp rest hre hkk
          obtain ⟨hwf, hwt⟩ := hI
          replace hbi : b 10 = false := hbi
          have d5 := hdp 5 rfl
          have d9 := hdp 9 rfl
          have d8 := hcl 9 8 rfl d9
          have d7 := hcl 8 7 rfl d8
          have d6 := hcl 7 6 rfl d7
          have d0 := hcl 5 0 rfl d5
          have d4 := hcl 5 4 rfl d5
          have d3 := hcl 4 3 rfl d4
          have d2 := hcl 3 2 rfl d3
          have d1 := hcl 2 1 rfl d2
          have nb11 := nbf (hcl 11 10 rfl) hbi
          have ewc := (hwf nb11).symm
          subst ewc
          simp only [d5, d9, d8, d7, d6, d0, d4, d3, d2, d1, nb11, hbi, pu, Nat.reduceAdd, Nat.reduceEqDiff, reduceIte]
          refine F.oq rfl rfl rfl (fun _ => by first | (simp [go_sem]; done) | simp [go_sem, Instr.makeInterface, Instr.makeFunc, *]) fun d K hK => ?_; go_simp; refine hK _ ?_; clear hK K d; try walk_nrm
          have hk2 := hkk g _ ⟨fun _ => rfl, fun h => no nb11 h⟩
          simp only [d5, d9, d8, d7, d6, d0, d4, d3, d2, d1, nb11, hbi, pu, Nat.reduceAdd, Nat.reduceEqDiff, reduceIte] at hk2
          exact hk2
        · intro b g w hI hcl hbi hdp rest hre hkk
          obtain ⟨hwf, hwt⟩ := hI
          replace hbi : b 11 = false := hbi
          have d0 := hdp 0 rfl
          have d1 := hdp 1 rfl
          have d2 := hdp 2 rfl
          have d3 := hdp 3 rfl
          have d4 := hdp 4 rfl
          have d5 := hdp 5 rfl
          have d6 := hdp 6 rfl
          have d7 := hdp 7 rfl
          have d8 := hdp 8 rfl
          have d9 := hdp 9 rfl
          have d10 := hdp 10 rfl
          have ewc := (hwf hbi).symm
          subst ewc
          simp only [d0, d1, d2, d3, d4, d5, d6, d7, d8, d9, d10, hbi, pu, Nat.reduceAdd, Nat.reduceEqDiff, reduceIte]
          refine F.oq rfl rfl rfl (by simp [go_sem]) fun d K h => ?_; go_simp; refine h _ ?_; clear h K d; try walk_nrm
          have hk2 := hkk g _ ⟨fun h => by simp [tick] at h, fun _ => rfl⟩
          simp only [d0, d1, d2, d3, d4, d5, d6, d7, d8, d9, d10, hbi, pu, Nat.reduceAdd, Nat.reduceEqDiff, reduceIte] at hk2
          exact hk2
        intro b g w hI hall
        obtain ⟨hwf, hwt⟩ := hI
        simp only [hall 0 (by decide), hall 1 (by decide), hall 2 (by decide), hall 3 (by decide), hall 4 (by decide), hall 5 (by decide), hall 6 (by decide), hall 7 (by decide), hall 8 (by decide), hall 9 (by decide), hall 10 (by decide), hall 11 (by decide), pu, Nat.reduceAdd, Nat.reduceEqDiff, reduceIte]
        have ewf := (hwt (hall 11 (by decide))).symm
        subst ewf
        clear hwf hwt hall g b
        refine F.re ?_
        refine F.ib ?_
        refine F.rr ?_
        simp only [rg, Nat.reduceAdd]
        iterate 3 (refine F.oq rfl rfl rfl (by simp [go_sem]) fun d K h => ?_; go_simp; refine h _ ?_; clear h K d; try walk_nrm)
        refine F.re ?_
        refine F.ctl (fun _ => stepG_inLoop) ?_
        have hnow : tm k + turnK T n k 2 + p = tm (k + 1) := by rw [htn k, hpq]
        rw [hnow] at H2
        exact ih (left - 1) (by omega) (k + 1) (min (p * cc) d) (at1 + 1) en2 ev2 _ w2 (by omega) (by rw [hpn k, hpq]) (by push_cast; omega) H2 (by simp only [List.length_append, List.length_cons, List.length_nil] at hml ⊢; omega) Q2 X2 fun k' r en' ev' m' w' g1 g2 g3 g4 g5 g6 g7 => hc k' r en' ev' m' w' (by omega) g2 (fun i h1 h2 => if hi : i = k then hi ▸ hk2 else g3 i (by omega) h2) g4 g5 (r1.trans (r2.trans g6)) (g7.mono (by omega))
    · have c0 : w1.cell? ⟨q, 0, none⟩ = some (.int .i64 2) := by have := L.c0; rw [hk3] at this; exact this
      simp only [ends]
      rw [Frame.finish_at]
      try walk_nrm
      iterate 5 (refine F.oq rfl rfl rfl (fun _ => by first | (simp [go_sem]; done) | simp [go_sem, Instr.makeInterface, Instr.makeFunc, *]) fun d K hK => ?_; go_simp; refine hK _ ?_; clear hK K d; try walk_nrm)
      refine F.es ?_
      refine F.sr ?_
      simp only [rg, Nat.reduceAdd]
      iterate 4 (refine F.oq rfl rfl rfl (fun _ => by first | (simp [go_sem]; done) | simp [go_sem, Instr.makeInterface, Instr.makeFunc, *]) fun d K hK => ?_; go_simp; refine hK _ ?_; clear hK K d; try walk_nrm)
      refine F.enter rfl rfl (by decide) (fun _ => run_call_body rfl Tryz.func158 (by rfl) (by rfl)) (fun _ => events_call_body rfl Tryz.func158 (by rfl) (by rfl) _) ?_
      walk_nrm
      refine hopelessF_x q w1 c0 (hfr _ _ (by dsimp only; omega)) _ F _ _ (fun v wq hp => ?_)
      obtain ⟨rfl, hq⟩ := hp
      have hq := hq.symm
      subst hq
      rw [Frame.finish_at]
      try walk_nrm
      refine F.oq rfl rfl rfl (by simp [go_sem]) fun d K h => ?_; go_simp; refine h _ ?_; clear h K d; try walk_nrm
      refine F.re ?_
      refine F.ct rfl ?_
      refine F.sr ?_
      simp only [rg, Nat.reduceAdd]
      iterate 4 (refine F.oq rfl rfl rfl (by simp [go_sem]) fun d K h => ?_; go_simp; refine h _ ?_; clear h K d; try walk_nrm)
      refine F.re ?_
      refine F.ctl (fun _ => stepG_ret') ?_
      refine F.leave rfl rfl Tryz.func156 (resultsC_tmp2 (by rfl) _) ?_
      exact hc k (.inl _) en1 ev1 _ w1 (Nat.le_refl _) (by omega) (fun i h1 h2 => absurd h2 (by omega)) (by omega) H1 r1 (.inr (.inl ⟨hk3, q, rfl, ⟨hq1, hq2, hq3, hq4⟩, ⟨c0, L.c1, L.c2, L.c3⟩⟩))
  · simp only [ends, raise_base]
    refine F.outwards rfl Tryz.func156 ?_
    exact hc k (.inr _) en1 ev1 _ w1 (Nat.le_refl _) (by omega) (fun i h1 h2 => absurd h2 (by omega)) (by omega) H1 r1 (.inr (.inr (.inl ⟨hk4, rfl⟩)))

end Go.Proofs.YtobagnjnbmgidaaGreatDoor

/-! The retry's Enter. -/
namespace Go.Proofs.YtobagnjnbmgidaaGreatDoor
open Go.Conc Go.RowKit Go.Extern
variable {Ok : Addr → Bool → Prop}

/-- The layer is as Check lets it be. -/
structure GoodL (A : Nat) (a b c d : Int) : Prop where
  hA : 1 ≤ A ∧ A ≤ 9
  ha : a ≤ A ∧ (A : Int) ≤ a
  hb : 0 ≤ b ∧ b ≤ 1000
  hc : 1 ≤ c ∧ c ≤ 9
  hd : 0 ≤ d ∧ d ≤ 10000

set_option maxRecDepth 100000 in
set_option maxHeartbeats 8000000 in
theorem retry_o (e : Env) (K : EnvOk e Ok) (hcl : e.cl = 0) (R B HD C : Nat) (ta : Option Addr) (n cap : Nat) (T : Nat → Nat → Int) (A : Nat) (a bb cc d st : Int) (en ev : Value) (w0 : World) (hL : GoodL A a bb cc d) (hT : GoodT T n) (hst : 0 ≤ st ∧ st ≤ 1000) (H : CW e w0 st en ev []) (S : BgS e Ok B HD C ta n) (s : RgS e Ok R HD) (Q : Bg e B HD C ta n cap T w0 0) (X : Rg e R B a bb cc d w0) :
    CallsO e Ok 156 #[.pointer (some ⟨R, 0, none⟩), .pointer (some ⟨e.T, 0, none⟩)] w0 fun r w' => ∃ k en' ev' m', k < A ∧ (∀ i, i < k → turnK T n i 0 = 2) ∧ CW e w' (tmK st (fun k => turnK T n k 2) (pzK bb cc d) k + turnK T n k 2) en' ev' m' ∧ Ru e HD w0 en ev w' en' ev' ∧ RetryR (turnK T n k 0) (turnK T n k 1) (k + 1 = A) w0 w' en' ev' r := by
  intro Ψ0 Ψ1 W c cs hc
  have F := W.f0
  have l1 := K.lA
  have l2 := K.lT
  have l3 := K.lJ
  have hsz := H.size
  have hsX := H.sX
  have hnX := H.nX
  have hfr : ∀ (a : Addr) (wr : Bool), e.X + 1 ≤ a.block → Ok a wr := fun a wr h => K.fr a wr (by omega) (by omega)
  have hN0 := s.ok 0
  have hN1 := s.ok 1
  have hN3 := s.ok 3
  have hN4 := s.ok 4
  have hN5 := s.ok 5
  have hN6 := s.ok 6
  have mR := min_run
  have mE := min_ev
  obtain ⟨x0, x1, x2, x3, x4, x5, x6⟩ := id X
  rw [enter_at _ Tryz.func156 rfl]
  simp only [Tryz.ntmps156, List.size_toArray, List.length_cons, List.length_nil, Nat.reduceAdd, Nat.reduceSub, Array.replicate_succ, Array.replicate_zero, List.push_toArray, List.append_toArray, List.nil_append, List.cons_append]
  refine F.sr ?_
  simp only [rg, Nat.reduceAdd]
  iterate 2 (refine F.oq rfl rfl rfl (by simp [go_sem]) fun d K h => ?_; go_simp; refine h _ ?_; clear h K d; try walk_nrm)
  refine F.es ?_
  refine F.drawB (γ := Unit) (n := 10) mixed [[], [0], [1], [2], [], [4], [5], [6], [3, 7], [0, 1, 2, 3, 4, 5, 6, 7, 8]] rfl (by kernel_rfl) (fun b g => [(10, sel (b 0) (.pointer (some ⟨R, 0, none⟩)) (undef)), (11, sel (b 1) (.pointer (some ⟨R, 0, none⟩)) (undef)), (12, sel (b 2) (.pointer (some ⟨R, 4, none⟩)) (undef)), (13, sel (b 3) (.int .i64 bb) (undef)), (14, sel (b 4) (.pointer (some ⟨R, 0, none⟩)) (undef)), (15, sel (b 5) (.pointer (some ⟨R, 0, none⟩)) (undef)), (16, sel (b 6) (.pointer (some ⟨R, 6, none⟩)) (undef)), (17, sel (b 7) (.int .i64 d) (undef)), (18, sel (b 8) (.int .i64 (min bb d)) (undef)), (6, sel (b 9) (.int .i64 (min bb d)) (undef))]) (fun b g w => (b 9 = false → w = w0) ∧ (b 9 = true → ( w = w0))) (()) (by simp only [pu, Nat.reduceAdd, Nat.reduceEqDiff, reduceIte]) (⟨fun _ => rfl, fun h => by cases h⟩) (all_cons ?_ (all_cons ?_ (all_cons ?_ (all_cons ?_ (all_cons ?_ (all_cons ?_ (all_cons ?_ (all_cons ?_ (all_cons ?_ (all_cons ?_ (all_nil))))))))))) ?_
  · intro b g w hI hcl hbi hdp rest hre hkk
    obtain ⟨hwf, hwt⟩ := hI
    replace hbi : b 0 = false := hbi
    have nb1 := nbf (hcl 1 0 rfl) hbi
    have nb9 := nbf (hcl 9 0 rfl) hbi
    have ewc := (hwf nb9).symm
    subst ewc
    simp only [nb1, nb9, hbi, pu, Nat.reduceAdd, Nat.reduceEqDiff, reduceIte]
    refine F.oq rfl rfl rfl (by simp [go_sem]) fun d K h => ?_; go_simp; refine h _ ?_; clear h K d; try walk_nrm
    have hk2 := hkk g _ ⟨fun _ => rfl, fun h => no nb9 h⟩
    simp only [nb1, nb9, hbi, pu, Nat.reduceAdd, Nat.reduceEqDiff, reduceIte] at hk2
    exact hk2
  · intro b g w hI hcl hbi hdp rest hre hkk
    obtain ⟨hwf, hwt⟩ := hI
    replace hbi : b 1 = false := hbi
    have d0 := hdp 0 rfl
    have nb2 := nbf (hcl 2 1 rfl) hbi
    have nb9 := nbf (hcl 9 1 rfl) hbi
    have ewc := (hwf nb9).symm
    subst ewc
    simp only [d0, nb2, nb9, hbi, pu, Nat.reduceAdd, Nat.reduceEqDiff, reduceIte]
    refine F.oq rfl rfl rfl (by simp [go_sem]) fun d K h => ?_; go_simp; refine h _ ?_; clear h K d; try walk_nrm
    have hk2 := hkk g _ ⟨fun _ => rfl, fun h => no nb9 h⟩
    simp only [d0, nb2, nb9, hbi, pu, Nat.reduceAdd, Nat.reduceEqDiff, reduceIte] at hk2
    exact hk2
  · intro b g w hI hcl hbi hdp rest hre hkk
    obtain ⟨hwf, hwt⟩ := hI
    replace hbi : b 2 = false := hbi
    have d1 := hdp 1 rfl
    have d0 := hcl 1 0 rfl d1
    have nb3 := nbf (hcl 3 2 rfl) hbi
    have nb9 := nbf (hcl 9 2 rfl) hbi
    have ewc := (hwf nb9).symm
    subst ewc
    simp only [d1, d0, nb3, nb9, hbi, pu, Nat.reduceAdd, Nat.reduceEqDiff, reduceIte]
    refine F.oq rfl rfl rfl (by simp [go_sem]) fun d K h => ?_; go_simp; refine h _ ?_; clear h K d; try walk_nrm
    have hk2 := hkk g _ ⟨fun _ => rfl, fun h => no nb9 h⟩
    simp only [d1, d0, nb3, nb9, hbi, pu, Nat.reduceAdd, Nat.reduceEqDiff, reduceIte] at hk2
    exact hk2
  · intro b g w hI hcl hbi hdp rest hre hkk
    obtain ⟨hwf, hwt⟩ := hI
    replace hbi : b 3 = false := hbi
    have d2 := hdp 2 rfl
    have d1 := hcl 2 1 rfl d2
    have d0 := hcl 1 0 rfl d1
    have nb8 := nbf (hcl 8 3 rfl) hbi
    have nb9 := nbf (hcl 9 3 rfl) hbi
    have ewc := (hwf nb9).symm
    subst ewc
    simp only [d2, d1, d0, nb8, nb9, hbi, pu, Nat.reduceAdd, Nat.reduceEqDiff, reduceIte]
    refine F.ol rfl rfl rfl fun d K h => ?_; go_simp; refine h _ (fun e m => ?_) ?_; simp [go_sem, *] at m; subst m; exact evr (w := w0) (by assumption) (by first | assumption | (apply hfr <;> dsimp only <;> omega)); clear h K d; try walk_nrm
    have hk2 := hkk g _ ⟨fun _ => rfl, fun h => no nb9 h⟩
    simp only [d2, d1, d0, nb8, nb9, hbi, pu, Nat.reduceAdd, Nat.reduceEqDiff, reduceIte] at hk2
    exact hk2
  · intro b g w hI hcl hbi hdp rest hre hkk
    obtain ⟨hwf, hwt⟩ := hI
    replace hbi : b 4 = false := hbi
    have nb5 := nbf (hcl 5 4 rfl) hbi
    have nb9 := nbf (hcl 9 4 rfl) hbi
    have ewc := (hwf nb9).symm
    subst ewc
    simp only [nb5, nb9, hbi, pu, Nat.reduceAdd, Nat.reduceEqDiff, reduceIte]
    refine F.oq rfl rfl rfl (by simp [go_sem]) fun d K h => ?_; go_simp; refine h _ ?_; clear h K d; try walk_nrm
    have hk2 := hkk g _ ⟨fun _ => rfl, fun h => no nb9 h⟩
    simp only [nb5, nb9, hbi, pu, Nat.reduceAdd, Nat.reduceEqDiff, reduceIte] at hk2
    exact hk2
  · intro b g w hI hcl hbi hdp rest hre hkk
    obtain ⟨hwf, hwt⟩ := hI
    replace hbi : b 5 = false := hbi
    have d4 := hdp 4 rfl
    have nb6 := nbf (hcl 6 5 rfl) hbi
    have nb9 := nbf (hcl 9 5 rfl) hbi
    have ewc := (hwf nb9).symm
    subst ewc
    simp only [d4, nb6, nb9, hbi, pu, Nat.reduceAdd, Nat.reduceEqDiff, reduceIte]
    refine F.oq rfl rfl rfl (by simp [go_sem]) fun d K h => ?_; go_simp; refine h _ ?_; clear h K d; try walk_nrm
    have hk2 := hkk g _ ⟨fun _ => rfl, fun h => no nb9 h⟩
    simp only [d4, nb6, nb9, hbi, pu, Nat.reduceAdd, Nat.reduceEqDiff, reduceIte] at hk2
    exact hk2
  · intro b g w hI hcl hbi hdp rest hre hkk
    obtain ⟨hwf, hwt⟩ := hI
    replace hbi : b 6 = false := hbi
    have d5 := hdp 5 rfl
    have d4 := hcl 5 4 rfl d5
    have nb7 := nbf (hcl 7 6 rfl) hbi
    have nb9 := nbf (hcl 9 6 rfl) hbi
    have ewc := (hwf nb9).symm
    subst ewc
    simp only [d5, d4, nb7, nb9, hbi, pu, Nat.reduceAdd, Nat.reduceEqDiff, reduceIte]
    refine F.oq rfl rfl rfl (by simp [go_sem]) fun d K h => ?_; go_simp; refine h _ ?_; clear h K d; try walk_nrm
    have hk2 := hkk g _ ⟨fun _ => rfl, fun h => no nb9 h⟩
    simp only [d5, d4, nb7, nb9, hbi, pu, Nat.reduceAdd, Nat.reduceEqDiff, reduceIte] at hk2
    exact hk2
  · intro b g w hI hcl hbi hdp rest hre hkk
    obtain ⟨hwf, hwt⟩ := hI
    replace hbi : b 7 = false := hbi
    have d6 := hdp 6 rfl
    have d5 := hcl 6 5 rfl d6
    have d4 := hcl 5 4 rfl d5
    have nb8 := nbf (hcl 8 7 rfl) hbi
    have nb9 := nbf (hcl 9 7 rfl) hbi
    have ewc := (hwf nb9).symm
    subst ewc
    simp only [d6, d5, d4, nb8, nb9, hbi, pu, Nat.reduceAdd, Nat.reduceEqDiff, reduceIte]
    refine F.ol rfl rfl rfl fun d K h => ?_; go_simp; refine h _ (fun e m => ?_) ?_; simp [go_sem, *] at m; subst m; exact evr (w := w0) (by assumption) (by first | assumption | (apply hfr <;> dsimp only <;> omega)); clear h K d; try walk_nrm
    have hk2 := hkk g _ ⟨fun _ => rfl, fun h => no nb9 h⟩
    simp only [d6, d5, d4, nb8, nb9, hbi, pu, Nat.reduceAdd, Nat.reduceEqDiff, reduceIte] at hk2
    exact hk2
  · intro b g w hI hcl hbi hdp rest hre hkk
    obtain ⟨hwf, hwt⟩ := hI
    replace hbi : b 8 = false := hbi
    have d3 := hdp 3 rfl
    have d7 := hdp 7 rfl
    have d6 := hcl 7 6 rfl d7
    have d5 := hcl 6 5 rfl d6
    have d4 := hcl 5 4 rfl d5
    have d2 := hcl 3 2 rfl d3
    have d1 := hcl 2 1 rfl d2
    have d0 := hcl 1 0 rfl d1
    have nb9 := nbf (hcl 9 8 rfl) hbi
    have ewc := (hwf nb9).symm
    subst ewc
    simp only [d3, d7, d6, d5, d4, d2, d1, d0, nb9, hbi, pu, Nat.reduceAdd, Nat.reduceEqDiff, reduceIte]
    refine F.oq rfl rfl rfl (fun _ => by first | (simp [go_sem]; done) | simp [go_sem, Instr.makeInterface, Instr.makeFunc, *]) fun d K hK => ?_; go_simp; refine hK _ ?_; clear hK K d; try walk_nrm
    have hk2 := hkk g _ ⟨fun _ => rfl, fun h => no nb9 h⟩
    simp only [d3, d7, d6, d5, d4, d2, d1, d0, nb9, hbi, pu, Nat.reduceAdd, Nat.reduceEqDiff, reduceIte] at hk2
    exact hk2
  · intro b g w hI hcl hbi hdp rest hre hkk
    obtain ⟨hwf, hwt⟩ := hI
    replace hbi : b 9 = false := hbi
    have d0 := hdp 0 rfl
    have d1 := hdp 1 rfl
    have d2 := hdp 2 rfl
    have d3 := hdp 3 rfl
    have d4 := hdp 4 rfl
    have d5 := hdp 5 rfl
    have d6 := hdp 6 rfl
    have d7 := hdp 7 rfl
    have d8 := hdp 8 rfl
    have ewc := (hwf hbi).symm
    subst ewc
    simp only [d0, d1, d2, d3, d4, d5, d6, d7, d8, hbi, pu, Nat.reduceAdd, Nat.reduceEqDiff, reduceIte]
    refine F.oq rfl rfl rfl (by simp [go_sem]) fun d K h => ?_; go_simp; refine h _ ?_; clear h K d; try walk_nrm
    have hk2 := hkk g _ ⟨fun h => by simp [tick] at h, fun _ => rfl⟩
    simp only [d0, d1, d2, d3, d4, d5, d6, d7, d8, hbi, pu, Nat.reduceAdd, Nat.reduceEqDiff, reduceIte] at hk2
    exact hk2
  intro b g w hI hall
  obtain ⟨hwf, hwt⟩ := hI
  simp only [hall 0 (by decide), hall 1 (by decide), hall 2 (by decide), hall 3 (by decide), hall 4 (by decide), hall 5 (by decide), hall 6 (by decide), hall 7 (by decide), hall 8 (by decide), hall 9 (by decide), pu, Nat.reduceAdd, Nat.reduceEqDiff, reduceIte]
  have ewf := (hwt (hall 9 (by decide))).symm
  subst ewf
  clear hwf hwt hall g b
  refine F.esr ?_
  simp only [rg, Nat.reduceAdd]
  refine F.oq rfl rfl rfl (by simp [go_sem]) fun d K h => ?_; go_simp; refine h _ ?_; clear h K d; try walk_nrm
  refine F.re ?_
  refine F.bl ?_
  refine F.ctl (fun _ => stepG_loop) ?_
  obtain ⟨q1, q2, q3, q4, q5⟩ := hL
  exact retry_loop e K hcl W c cs R B HD C ta n cap T A a bb cc d st (pzK bb cc d) (tmK st (fun k => turnK T n k 2) (pzK bb cc d)) q1.2 q2 hT ⟨by omega, q4.2⟩ q5 (pzK_in q3.1 (by omega) q5.1) (fun _ => rfl) (tmK_in hst (fun k => (hT k).2) fun k => by have := pzK_in q3.1 (by omega : 0 ≤ cc) q5.1 k; omega) (fun _ => rfl) S s (A - 1) 0 (min bb d) 1 en ev [] w0 (by omega) rfl (by omega) H (by simp) Q X
    fun k' r en' ev' m' w' _ g2 g3 _ g5 g6 g7 => hc r w' ⟨k', en', ev', m', g2, fun i hi => g3 i (by omega) hi, g5, g6, g7⟩

end Go.Proofs.YtobagnjnbmgidaaGreatDoor
