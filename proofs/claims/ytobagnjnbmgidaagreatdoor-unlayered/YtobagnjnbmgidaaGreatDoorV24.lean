/- No entry is left: goroutine 0 waits for the group and goes on behind the agenda's run; the loop, whatever has come about. -/
import Derived.Test.YtobagnjnbmgidaaGreatDoorV23
import Derived.Test.YtobagnjnbmgidaaGreatDoorM9
import Derived.Test.YtobagnjnbmgidaaGreatDoorX34
import Derived.Test.YtobagnjnbmgidaaGreatDoorX37
set_option linter.unusedSimpArgs false
set_option linter.unusedVariables false
set_option maxHeartbeats 4000000
set_option maxRecDepth 100000
namespace Go.Proofs.YtobagnjnbmgidaaGreatDoor
section
open Go.Conc Go.RowKit
open Go.ConcN (sumTo upd sumTo_upd upd_ne upd_same)

/-- What is held of the world while goroutine 0 waits for the group. -/
def KJ (R : Rn) (st : List (Addr × Value)) (wS w : World) : Prop := KG R st w ∧ Kp [] wS w [⟨R.A, 5, none⟩, ⟨R.A, 6, none⟩] ∧ w.heap.size = wS.heap.size
/-- What has come about when the agenda's run is over. -/
structure DoneR (R : Rn) (w : World) (ev : Value) (m : List Value) : Prop where
  old : Old R.wI w
  N : R.N ≤ w.heap.size
  ug : ∀ a v, R.UG a → a.block ≠ R.A → R.wR.cell? a = some v → w.cell? a = some v ∧ w.frozen? a = R.wR.frozen? a
  out : ∀ j, j < R.n → ∃ gc, EndJ R j gc w ∧ ∀ g ∈ gc, R.N ≤ g
  j0 : w.cell? ⟨R.J, 0, none⟩ = some ev
  row : ∃ k, k * 5 = m.length ∧ w.ownsRow R.N 55 5 ev k m
  cnt : m.length = 10 * R.n
  last : R.n = 1 → ∃ m0, m = m0 ++ evc (R.s0 0 + R.k2 0) 0 (-1) 2 0

section
variable {R : Rn} {Post : Value → World → Prop} {σ : Gs} {st : List (Addr × Value)} {w wS : World}

theorem kj_jk (H : RnOk R) (h5 : ∀ p ∈ st, p.1 ≠ ⟨R.A, 5, none⟩) (h6 : ∀ p ∈ st, p.1 ≠ ⟨R.A, 6, none⟩) (hl : R.A < wS.heap.size) : JK (KJ R st wS) (ShL R.l) wS.heap.size (grp R.A) := by
  have hI := H.iA.1; refine ⟨fun w d h => ⟨h.1, ⟨h.2.1.size, h.2.1.cellC, h.2.1.frozC, h.2.1.blk⟩, h.2.2⟩, fun w v h => ?_, fun w v h => ?_, H.a5, H.a6, hl, hl⟩
  · exact ⟨((kg_gk H h5).st w v).2 h.1, h.2.1.stN rfl (.inr (.inl (by simp [grp]))), by simp [World.setCell, h.2.2]⟩
  · obtain ⟨⟨k1, k2, ⟨v5, k3⟩, k4, v6, k5⟩, h2, h3⟩ := h
    refine ⟨⟨old_set hI k1, (kl_set_iff h6).2 k2, ⟨v5, (World.cell?_setCell_other _ _ _ _ (by simp [grp])).trans k3⟩, by rw [World.frozen?_setCell]; exact k4, v, World.cell?_setCell_same _ _ _ k5⟩, h2.stN rfl (.inr (.inl (by simp [grp]))), by simp [World.setCell, h3]⟩

theorem EndJ.keep {j : Nat} {gc : List Nat} {wp w' : World} (h : EndJ R j gc wp) (k : ∀ a v, (a ∈ outC R.O j ∨ a.block ∈ gc) → wp.cell? a = some v → w'.cell? a = some v) : EndJ R j gc w' := by
  obtain ⟨a, b, c, x, kk, cap, ho, hv⟩ := h; refine ⟨a, b, c, x, kk, cap, ⟨k _ _ (.inl (by simp [outC])) ho.c0, k _ _ (.inl (by simp [outC])) ho.c1, k _ _ (.inl (by simp [outC])) ho.c2, k _ _ (.inl (by simp [outC])) ho.c3⟩, ?_⟩; rcases hv with h | ⟨h, g, cp, h1, h2, h3⟩ | h
  · exact .inl h
  · exact .inr (.inl ⟨h, g, cp, h1, h2, fun i u hu => k _ _ (.inr h2) (h3 i u hu)⟩)
  · exact .inr (.inr h)

theorem join_t (H : RnOk R) (hfin : ∀ ng w' ev m, 0 < ng → DoneR R w' ev m → At0 Tryz.prog Post (Old R.wI) (ShL R.l) ng (G (R.cR.finish (.tuple #[])) R.csR) w') (en ev : Value) (m : List Value) (g0 : Goroutine) (g : Good R σ w.heap.size) (hlv : ∀ j, j < R.n → (σ.tk j).lv = false) (hI0 : σ.Inb 0 = none) (hL : σ.L = σ.pk) (HW : HeadW R σ w en ev m) (hgd : Hd39 R.A (R.cR :: R.csR) g0) (hjs : σ.js = []) : AtG R Post σ 0 g0 w := by
  have hg := H.gb'; have hn := H.gne; have hN := HW.N; have hl1 := H.l1
  have hwt : ∀ j, j < R.n → (σ.tk j).wt = 0 := fun j hj => by
    by_cases h : 0 < (σ.tk j).wt
    · have := (g.mem j).2 ⟨hj, h⟩
      rw [hjs] at this; cases this
    · omega
  have hend : ∀ j, j < R.n → ∃ gc wp, σ.tk j = .ended gc wp := fun j hj => by
    have h1 := hwt j hj; have h2 := hlv j hj; rcases TSt.any (σ.tk j) with e | ⟨q, e⟩ | ⟨k, e⟩ | ⟨u, v, e⟩
    · rw [e] at h1; cases h1
    · rw [e] at h1; cases h1
    · rw [e] at h2; cases h2
    · exact ⟨u, v, e⟩
  have hInb : σ.Inb = fun _ => none := by
    funext x
    by_cases hx : x = 0
    · rw [hx]; exact hI0
    · cases e : σ.Inb x with
      | none => rfl
      | some s =>
        obtain ⟨j, q, hj, hq, _⟩ := g.inb x s e hx; have := hwt j hj; rw [hq] at this; cases this
  have hL0 : σ.L = 0 := by rw [hL]; simp [Gs.pk, hjs]
  have hnb : σ.nb ≤ 9 := Nat.le_trans (Nat.le_add_right _ _) g.nb9; obtain ⟨b, cap, hen, _, _, _⟩ := (show Ents R.N1 w en [] from by have := HW.ent; rwa [hjs] at this).form
  have h6 : ∀ p ∈ σ.st, p.1 ≠ ⟨R.A, 6, none⟩ := fun p hp e => by
    have := (g.st p hp).1; rw [e] at this
    simp at this
  have F := futG (Post := Post) H (tk := σ.tk) (L := σ.L) (n := σ.ng) (dl := 0) hnb g.a5 g.stl 0; refine done_u F R.A R.cR R.csR b cap g0 w hgd (by have := HW.a1; rw [hen] at this; exact this) ⟨sh_off (by decide) (by decide), fun h => by cases h⟩ (fun fr hout => ?_); clear F; intro d gs T q sl ds sg hsz hg0 hLd hsg hq hd C; rw [hL0, Nat.zero_add] at hLd C ⊢; rw [hInb] at C; have GG := kg_gk H g.a5; have hKd : KG R σ.st (w.at d) := (wv_k GG).1 C.keep; have hUG6 : R.UG ⟨R.A, 6, none⟩ := ⟨by show _ ≤ R.A; omega, by show R.A < R.N; omega, fun z => by have : R.N1 ≤ R.A := H.en1 _ z; omega, by show R.A ≠ _; omega, by show R.A ≠ _; omega, by show R.A ≠ _; omega, fun _ => .inr (.inr rfl), fun j hj e => by have := (H.cb' hj).1; have e1 : R.A = R.T j := congrArg Addr.block e; omega⟩
  have h6w : Num .u32 ⟨R.A, 6, none⟩ w 0 := by
    obtain ⟨x1, x2⟩ := hq.1 _ _ hUG6 H.vA6.1; exact ⟨x1, x2.trans H.vA6.2⟩
  have hlA : R.A < w.heap.size := by omega
  have kW : Kp [] w (Wv (grp R.A) (w.at d) ds.length) [⟨R.A, 5, none⟩, ⟨R.A, 6, none⟩] :=
    Kp.stN (w' := w.at d) (by exact ⟨Nat.le_refl _, fun _ _ _ _ h => h, fun _ _ _ _ _ => rfl, fun _ _ _ _ _ _ h => h⟩) rfl (.inr (.inl (by simp [grp])))
  have hKJ : KJ R σ.st w (Wv (grp R.A) (w.at d) ds.length) := ⟨C.keep, kW, wv_size _⟩; have C' := C.less (K' := KJ R σ.st w) (fun w h => h.1) hKJ; have J := kj_jk (wS := w) H g.a5 h6 hlA; obtain ⟨nm, hWS⟩ := wait56_ws (K := KJ R σ.st w) (Shun := ShL R.l) (B := w.heap.size) (Anchor := fun g => g = G (R.cR.finish (.tuple #[])) R.csR) R.A (fun w h => h.1.2.2.1) (fun w h => h.1.2.2.2.2) fr (R.cR :: R.csR) (fun k => hout (fun g => ∃ n, WS Tryz.prog (KJ R σ.st w) (ShL R.l) w.heap.size (grp R.A) (fun g => g = G (R.cR.finish (.tuple #[])) R.csR) k n 8 g) (cf_qf (qf_ws k 8)) ⟨0, WS.anchor rfl rfl⟩) 9 (Nat.le_refl _); have hse : Num .u32 (grp R.A).se (Wv (grp R.A) (w.at d) ds.length) 0 := num_other (show Num .u32 (grp R.A).se (w.at d) 0 from h6w) (grp R.A).ne _; obtain ⟨N, m', t', e1, gs'', w', sl'', q'', a', rfl, e3, e4, e5, e6, e7, e8, e9⟩ := join3 J _ 9 _ gs _ sl T q _ false 0 nm ds sg (gv ds.length 0) 0 rfl rfl (by simpa using hg0) C' hWS (fun z => by cases z) (by omega) (.inl ⟨.inl ⟨by omega, by omega⟩, hsg, rfl, rfl⟩) (wv_num GG hKd _) hse hd; obtain ⟨k1, k2, k3⟩ := e6.keep; subst e5; have S' := core_keep (e6.hears e7) k1.1
  have cA : ∀ a : Addr, a.block ≠ R.A → a.block ∉ ([] : List Nat) ∧ a ∉ [(⟨R.A, 5, none⟩ : Addr), ⟨R.A, 6, none⟩] := fun a ha => ⟨by simp, fun z => by
    simp at z
    rcases z with z | z <;> exact ha (by rw [z])⟩
  have hD : DoneR R w' ev m :=
    { old := k1.1
      N := Nat.le_trans hN k2.size
      ug := fun a v hu ha hv => by
        obtain ⟨x1, x2⟩ := hq.1 a v hu hv; exact ⟨k2.cellC _ _ (cA a ha).1 (cA a ha).2 x1, (k2.frozC _ _ (cA a ha).1 (cA a ha).2 x1).trans x2⟩
      out := fun j hj => by
        obtain ⟨gc, wp, he⟩ := hend j hj; have hown := hq.2 j hj; have how := g.ow j hj; rw [he] at hown how; refine ⟨gc, (g.en j hj gc wp he).keep fun a v ha hv => ?_, fun x hx => ?_⟩
        · have hA : a.block ≠ R.A := by
            have hT := (H.cb' hj).1; rcases (how a ha).1 with (o | o | o) | o
            · have := (out_blk o).1; omega
            · rw [o]; show R.HD ≠ R.A; omega
            · rw [o]; show R.T j ≠ R.A; omega
            · omega
          exact k2.cellC _ _ (cA a hA).1 (cA a hA).2 (hown a v ha hv).1
        · have h9 := H.n9
          rcases (how ⟨x, 1000, none⟩ (.inr hx)).1 with (o | o | o) | o
          · have e : 1000 < j * 4 + 4 := (out_blk o).2.2
            omega
          · have e : 1000 = j := congrArg Addr.off o
            omega
          · have e : 1000 = 7 := congrArg Addr.off o
            omega
          · exact o
      j0 := k2.cellC _ _ (by simp) (by simp) HW.j0
      row := by
        obtain ⟨k, x1, x2⟩ := HW.row
        exact ⟨k, x1, k2.row x2 fun b hb => ⟨by simp, fun x hx => by
          have := (row_ge x2 hb).1
          simp at hx
          rcases hx with rfl | rfl <;> (dsimp only; omega)⟩⟩
      cnt := by have := HW.cnt; simp [Gs.wt, hjs] at this; omega
      last := fun h1 => by
        obtain ⟨gc, wp, he⟩ := hend 0 (by omega); exact HW.last gc wp h1 he }
  have hA := hfin σ.ng w' ev m g.ng0 hD w'.drawn gs'' t' q'' sl'' (e3.trans hsz) e4 (by rw [k3]; exact S'); exact Goal.back e1 hA

theorem head_all (H : RnOk R) (hfin : ∀ ng w' ev m, 0 < ng → DoneR R w' ev m → At0 Tryz.prog Post (Old R.wI) (ShL R.l) ng (G (R.cR.finish (.tuple #[])) R.csR) w') : ∀ ν, HeadAll R Post ν := by
  intro ν
  induction ν using Nat.strongRecOn with
  | _ ν IH =>
    intro σ w en ev m g0 hwt g hlv hI0 hL HW hrs hgd; cases hjs : σ.js with
    | nil => exact join_t H hfin en ev m g0 g hlv hI0 hL HW hgd hjs
    | cons i js' =>
      obtain ⟨hi, hp⟩ := (g.mem i).1 (by rw [hjs]; exact List.mem_cons_self ..); rcases TSt.any (σ.tk i) with e | ⟨q, e⟩ | ⟨k, e⟩ | ⟨u, v, e⟩
      · exact start_t H IH w en ev m g0 hwt g hlv hI0 hL HW hrs hgd js' hjs e
      · exact wake_t H w en ev m g0 hwt g hlv hI0 hL HW hrs hgd js' hjs e
      · rw [e] at hp; exact absurd hp (by simp [TSt.wt])
      · rw [e] at hp; exact absurd hp (by simp [TSt.wt])
end
end
section
open Go.Conc Go.RowKit
open Go.ConcN (sumTo upd sumTo_upd upd_ne upd_same)

/-- A client's first turn. -/
def Cl.k0 (c : Cl) : Int := if c.nt = 0 then 1 else c.T 0 0
def Cl.k1 (c : Cl) : Int := if c.nt = 0 then 0 else c.T 0 1
def Cl.k2 (c : Cl) : Int := if c.nt = 0 then 0 else c.T 0 2
theorem Cl.kd {c : Cl} (h : c.good = true) : (c.k0 = 1 ∨ c.k0 = 2 ∨ c.k0 = 3 ∨ c.k0 = 4) ∧ 0 ≤ c.k2 ∧ c.k2 ≤ 1000 ∧ 0 ≤ c.st ∧ c.st ≤ 1000 := by
  simp only [Cl.good, goodC, btw, Bool.and_eq_true, decide_eq_true_eq] at h; unfold Cl.k0 Cl.k2
  by_cases e : c.nt = 0
  · simp [e]; omega
  · obtain ⟨m, hm⟩ : ∃ m, c.nt = m + 1 := ⟨c.nt - 1, by omega⟩
    obtain ⟨⟨h1, _⟩, h2⟩ := h; rw [hm] at h2; simp only [goodT, btw, Bool.and_eq_true, decide_eq_true_eq] at h2; rw [if_neg e, if_neg e]; omega
theorem badC_all (g : Nat → Cl) : ∀ (m k : Nat), badC g m k = k + m → ∀ j, k ≤ j → j < k + m → (g j).good = true
  | 0, k, h, j, h1, h2 => by omega
  | m + 1, k, h, j, h1, h2 => by
    rw [badC] at h
    by_cases e : (g k).good = false
    · rw [if_pos e] at h; omega
    · rw [if_neg e] at h
      by_cases hj : j = k
      · subst hj; simpa using e
      · exact badC_all g m (k + 1) (by omega) j (by omega) (by omega)

/-- What Run has made of the clients. -/
structure RunN (w0 : World) (n : Nat) (g : Nat → Cl) (A O : Nat) (ev : Value) (w : World) : Prop where
  old : Old w0 w
  lA : w0.heap.size ≤ A ∧ A < w.heap.size
  lO : w0.heap.size ≤ O ∧ O < A
  out : ∀ j, j < n → ∃ gc : List Nat, (∀ x ∈ gc, A < x) ∧ ∃ a b c x k cap, OutAt w O j a b c x k cap ∧ OutV (g j).k0 (g j).k1 ((g j).st + (g j).k2) gc w (.agg #[.int .i64 a, .int .i64 b, .int .i64 c, .slice x k cap])
  ev : ∃ N m, A < N ∧ m.length = 10 * n ∧ w.ownsRow N 55 5 ev (2 * n) m ∧ (n = 1 → ∃ m0, m = m0 ++ evc ((g 0).st + (g 0).k2) 0 (-1) 2 0)

theorem RunN.kp {w0 wB : World} {n : Nat} {g : Nat → Cl} {A O : Nat} {ev : Value} {w w' : World} {C : List Addr} (h : RunN w0 n g A O ev w) (k : Kp [] w w' C) (hC : ∀ x ∈ C, x.block < A ∧ x.block ≠ O) (ho : Old wB w') (hB : wB.heap.size ≤ w0.heap.size) : RunN wB n g A O ev w' := by
  have hO := h.lO; refine ⟨ho, ⟨Nat.le_trans hB h.lA.1, Nat.lt_of_lt_of_le h.lA.2 k.size⟩, ⟨Nat.le_trans hB h.lO.1, h.lO.2⟩, fun j hj => ?_, ?_⟩
  · obtain ⟨gc, h1, a, b, c, x, kk, cap, o, hv⟩ := h.out j hj
    have cO : ∀ i, (⟨O, i, none⟩ : Addr) ∉ C := fun i z => (hC _ z).2 rfl
    refine ⟨gc, h1, a, b, c, x, kk, cap, ⟨k.cellC _ _ (by simp) (cO _) o.c0, k.cellC _ _ (by simp) (cO _) o.c1, k.cellC _ _ (by simp) (cO _) o.c2, k.cellC _ _ (by simp) (cO _) o.c3⟩, ?_⟩; rcases hv with z | ⟨z, y, cp, h2, h3, h4⟩ | z
    · exact .inl z
    · exact .inr (.inl ⟨z, y, cp, h2, h3, fun i u hu => k.cellC _ _ (by simp) (fun z => by have := (hC _ z).1; have := h1 y h3; dsimp only at *; omega) (h4 i u hu)⟩)
    · exact .inr (.inr z)
  · obtain ⟨N, m, h1, h2, h3, h4⟩ := h.ev
    exact ⟨N, m, h1, h2, k.row h3 fun b hb => ⟨by simp, fun x hx => by have := (row_ge h3 hb).1; have := (hC x hx).1; omega⟩, h4⟩
theorem row_form {w : World} {base ty sz m : Nat} {v : Value} {xs : List Value} (h : w.ownsRow base ty sz v m xs) : ∃ x c, v = .slice x m c := by
  rcases h.2 with ⟨h1, h2⟩ | ⟨g, cap, cur, h1, _⟩
  · exact ⟨none, 0, by rw [h1, h2]⟩
  · exact ⟨_, cap, h1⟩

/-- The clients' blocks. -/
structure Cbs where
  T : Nat → Nat
  tch : Nat → Nat
  bi : Nat → Nat
  ba : Nat → Nat
  bt : Nat → Nat
  bw : Nat → Nat
def Cbs.cb (f : Cbs) (j : Nat) : List Nat := [f.T j, f.tch j, f.bi j, f.ba j, f.bt j, f.bw j]
def Cbs.put (f : Cbs) (i T tch bi ba bt bw : Nat) : Cbs := ⟨upd f.T i T, upd f.tch i tch, upd f.bi i bi, upd f.ba i ba, upd f.bt i bt, upd f.bw i bw⟩
theorem Cbs.put_same (f : Cbs) (i T tch bi ba bt bw : Nat) : (f.put i T tch bi ba bt bw).cb i = [T, tch, bi, ba, bt, bw] := by simp [Cbs.put, Cbs.cb, upd_same]
theorem Cbs.put_ne (f : Cbs) {i j : Nat} (h : j ≠ i) (T tch bi ba bt bw : Nat) : (f.put i T tch bi ba bt bw).cb j = f.cb j := by
  simp only [Cbs.put, Cbs.cb, upd_ne _ _ h]
def entN (f : Cbs) (g : Nat → Cl) (j : Nat) : Int × Value := ((g j).st, .func (.func 50) #[] #[.pointer (some ⟨f.ba j, 0, none⟩), .pointer (some ⟨f.bt j, 0, none⟩), .pointer (some ⟨f.bw j, 0, none⟩)])
/-- One client's task, as it is made. -/
structure CliN (w : World) (A bl bo : Nat) (f : Cbs) (j : Nat) : Prop where
  t : TaskNew w (f.T j) A (f.tch j) (j : Int)
  ch : OpenCh w (f.tch j)
  bi : w.cell? ⟨f.bi j, 0, none⟩ = some (.int .i64 (j : Int))
  ba : w.cell? ⟨f.ba j, 0, none⟩ = some (.pointer (some ⟨A, 0, none⟩))
  bt : w.cell? ⟨f.bt j, 0, none⟩ = some (.pointer (some ⟨f.T j, 0, none⟩))
  bw : w.cell? ⟨f.bw j, 0, none⟩ = some (.func (.func 37) #[] #[.pointer (some ⟨bl, 0, none⟩), .pointer (some ⟨bo, 0, none⟩), .pointer (some ⟨f.bi j, 0, none⟩)])
theorem CliN.kp {L : List Nat} {C : List Addr} {w w' : World} {A bl bo : Nat} {f : Cbs} {j : Nat} (h : CliN w A bl bo f j) (k : Kp L w w' C) (hL : ∀ b ∈ f.cb j, b ∉ L ∧ ∀ x ∈ C, x.block ≠ b) (hc : OpenCh w' (f.tch j)) : CliN w' A bl bo f j := by
  have c : ∀ b ∈ f.cb j, ∀ i, (⟨b, i, none⟩ : Addr) ∉ C := fun b hb i z => (hL b hb).2 _ z rfl
  have m1 : f.T j ∈ f.cb j := by simp [Cbs.cb]
  have m3 : f.bi j ∈ f.cb j := by simp [Cbs.cb]
  have m4 : f.ba j ∈ f.cb j := by simp [Cbs.cb]
  have m5 : f.bt j ∈ f.cb j := by simp [Cbs.cb]
  have m6 : f.bw j ∈ f.cb j := by simp [Cbs.cb]
  exact ⟨h.t.kp k (hL _ m1).1 (hL _ m1).2, hc, k.cellC _ _ (hL _ m3).1 (c _ m3 _) h.bi, k.cellC _ _ (hL _ m4).1 (c _ m4 _) h.ba, k.cellC _ _ (hL _ m5).1 (c _ m5 _) h.bt, k.cellC _ _ (hL _ m6).1 (c _ m6 _) h.bw⟩

/-- The loop, with i clients' tasks made; wA: the world ahead of it. -/
structure LpN (wA : World) (A wc ec bl bo : Nat) (g : Nat → Cl) (i : Nat) (f : Cbs) (js : List Nat) (en : Value) (w : World) : Prop where
  kp : Kp [] wA w [⟨A, 1, none⟩, ⟨A, 2, none⟩]
  a1 : w.cell? ⟨A, 1, none⟩ = some en
  z1 : w.frozen? ⟨A, 1, none⟩ = false
  a2 : w.cell? ⟨A, 2, none⟩ = some (.int .i64 (i : Int))
  z2 : w.frozen? ⟨A, 2, none⟩ = false
  ent : Ents wA.heap.size w en (js.map (entN f g))
  nd : js.Nodup
  mem : ∀ j, j ∈ js ↔ j < i
  len : js.length = i
  cl : ∀ j, j < i → ∀ b ∈ f.cb j, wA.heap.size ≤ b ∧ b < w.heap.size ∧ b ∉ rowL en
  cnd : ∀ j, j < i → (f.cb j).Nodup
  cdj : ∀ i', i' < i → ∀ j, j < i → i' ≠ j → ∀ b ∈ f.cb i', b ∉ f.cb j
  cli : ∀ j, j < i → CliN w A bl bo f j
  o1 : OpenCh w wc
  o2 : OpenCh w ec

section
variable {wA w w1 w' : World} {A wc ec bl bo i : Nat} {g : Nat → Cl} {f : Cbs} {js : List Nat} {en en' : Value}
theorem LpN.row (h : LpN wA A wc ec bl bo g i f js en w) {b : Nat} (hb : b ∈ rowL en) : wA.heap.size ≤ b ∧ b < w.heap.size := by
  obtain ⟨h1, cur, h2⟩ := h.ent.lt (mem_rowL.1 hb); exact ⟨h1, (Array.getElem?_eq_some_iff.1 h2).1⟩

theorem LpN.step (h : LpN wA A wc ec bl bo g i f js en w) (lA : A < wA.heap.size) (k1 : Kp [] w w1) (k2 : Kp (rowL en) w1 w' [⟨A, 1, none⟩, ⟨A, 2, none⟩]) {ba bw tch T bt P bi k : Nat} (hbi : w.heap.size ≤ bi ∧ bi < w1.heap.size)
    (hl : w1.heap.size ≤ ba ∧ ba < bw ∧ bw < tch ∧ bw < T ∧ bw < bt ∧ tch < P ∧ T < P ∧ bt < P ∧ P ≤ w'.heap.size ∧ bt ≠ T ∧ tch ≠ T ∧ tch ≠ bt) (cbi : w'.cell? ⟨bi, 0, none⟩ = some (.int .i64 (i : Int))) (cba : w'.cell? ⟨ba, 0, none⟩ = some (.pointer (some ⟨A, 0, none⟩))) (cbw : w'.cell? ⟨bw, 0, none⟩ = some (.func (.func 37) #[] #[.pointer (some ⟨bl, 0, none⟩), .pointer (some ⟨bo, 0, none⟩), .pointer (some ⟨bi, 0, none⟩)]))
    (cbt : w'.cell? ⟨bt, 0, none⟩ = some (.pointer (some ⟨T, 0, none⟩))) (cT : TaskNew w' T A tch (i : Int)) (oT : OpenCh w' tch) (a1 : w'.cell? ⟨A, 1, none⟩ = some en') (z1 : w'.frozen? ⟨A, 1, none⟩ = false) (a2 : w'.cell? ⟨A, 2, none⟩ = some (.int .i64 ((i : Int) + 1))) (z2 : w'.frozen? ⟨A, 2, none⟩ = false) (hk : k ≤ (js.map (entN f g)).length)
    (he : Ents wA.heap.size w' en' ((js.map (entN f g)).take k ++ ((g i).st, .func (.func 50) #[] #[.pointer (some ⟨ba, 0, none⟩), .pointer (some ⟨bt, 0, none⟩), .pointer (some ⟨bw, 0, none⟩)]) :: (js.map (entN f g)).drop k)) (hr : ∀ x ∈ rowL en', x ∈ rowL en ∨ P ≤ x) (o1 : OpenCh w' wc) (o2 : OpenCh w' ec) (oj : ∀ j, j < i → OpenCh w' (f.tch j)) :
    LpN wA A wc ec bl bo g (i + 1) (f.put i T tch bi ba bt bw) (js.take k ++ i :: js.drop k) en' w' := by
  have s1 := k1.size; have s2 := k2.size; have hs := h.kp.size; have kA : Kp (rowL en) w w' [⟨A, 1, none⟩, ⟨A, 2, none⟩] := (k1.old (by simp) (by simp)).callN k2 (fun x hx => .inl hx) (fun x hx => .inl hx); have hAf : ∀ x ∈ [(⟨A, 1, none⟩ : Addr), ⟨A, 2, none⟩], x.block = A := by intro x hx; simp at hx; rcases hx with rfl | rfl <;> rfl
  have hni : i ∉ js := fun z => by have := (h.mem i).1 z; omega
  have e : ∀ j, j ∈ js → entN (f.put i T tch bi ba bt bw) g j = entN f g j := fun j hj => by
    have hne : j ≠ i := fun z => hni (z ▸ hj)
    simp only [entN, Cbs.put, upd_ne _ _ hne]
  have ei : entN (f.put i T tch bi ba bt bw) g i = ((g i).st, .func (.func 50) #[] #[.pointer (some ⟨ba, 0, none⟩), .pointer (some ⟨bt, 0, none⟩), .pointer (some ⟨bw, 0, none⟩)]) := by simp [entN, Cbs.put, upd_same]
  have hnew : ∀ b ∈ [T, tch, bi, ba, bt, bw], w.heap.size ≤ b ∧ b < P := fun b hb => by
    simp only [List.mem_cons, List.not_mem_nil, or_false] at hb; rcases hb with rfl | rfl | rfl | rfl | rfl | rfl <;> omega
  have hlt : ∀ j, j < i + 1 → j ≠ i → j < i := fun j h1 h2 => by omega
  have hrow : ∀ b, b ∈ rowL en' → b ∈ rowL en ∨ P ≤ b := hr; refine ⟨h.kp.callN kA (fun x hx => .inr (h.row hx).1) (fun x hx => .inl hx), a1, z1, by rw [a2]; simp, z2, ?_, ?_, fun j => ?_, ?_, fun j hj b hb => ?_, fun j hj => ?_, fun x hx j hj hne b hb => ?_, fun j hj => ?_, o1, o2⟩
  · rw [List.map_append, List.map_cons, ei]
    have t1 : (js.take k).map (entN (f.put i T tch bi ba bt bw) g) = (js.map (entN f g)).take k := by rw [← List.map_take]; exact List.map_congr_left fun j hj => e j (List.mem_of_mem_take hj)
    have t2 : (js.drop k).map (entN (f.put i T tch bi ba bt bw) g) = (js.map (entN f g)).drop k := by rw [← List.map_drop]; exact List.map_congr_left fun j hj => e j (List.mem_of_mem_drop hj)
    rw [t1, t2]; exact he
  · have hnd := h.nd
    rw [← List.take_append_drop k js] at hnd hni; obtain ⟨n1, n2, n3⟩ := List.nodup_append.1 hnd; simp only [List.mem_append, not_or] at hni; refine List.nodup_append.2 ⟨n1, List.nodup_cons.2 ⟨hni.2, n2⟩, fun a ha b hb => ?_⟩; rcases List.mem_cons.1 hb with rfl | hb
    · exact fun z => hni.1 (z ▸ ha)
    · exact n3 a ha b hb
  · have hm := h.mem j
    rw [← List.take_append_drop k js, List.mem_append] at hm; simp only [List.mem_append, List.mem_cons]
    constructor
    · rintro (z | rfl | z)
      · have := hm.1 (.inl z); omega
      · omega
      · have := hm.1 (.inr z); omega
    · intro z
      by_cases ej : j = i
      · exact .inr (.inl ej)
      · rcases hm.2 (by omega) with y | y
        · exact .inl y
        · exact .inr (.inr y)
  · have := h.len
    simp only [List.length_append, List.length_cons, List.length_take, List.length_drop]
    simp at hk
    omega
  · by_cases ej : j = i
    · subst ej
      rw [Cbs.put_same] at hb; have := hnew b hb; refine ⟨by omega, by omega, fun z => ?_⟩; rcases hrow b z with y | y
      · have := (h.row y).2; omega
      · omega
    · rw [Cbs.put_ne _ ej] at hb
      obtain ⟨x1, x2, x3⟩ := h.cl j (hlt j hj ej) b hb; refine ⟨x1, by omega, fun z => ?_⟩; rcases hrow b z with y | y
      · exact x3 y
      · omega
  · by_cases ej : j = i
    · subst ej
      rw [Cbs.put_same]; simp only [List.nodup_cons, List.mem_cons, List.not_mem_nil, or_false, not_or, List.nodup_nil, and_true, not_false_eq_true]; omega
    · rw [Cbs.put_ne _ ej]; exact h.cnd j (hlt j hj ej)
  · by_cases ex : x = i
    · subst ex
      rw [Cbs.put_same] at hb; rw [Cbs.put_ne _ (fun z => hne z.symm)]; intro z; have := hnew b hb; have := (h.cl j (hlt j hj (fun z => hne z.symm)) b z).2.1; omega
    · rw [Cbs.put_ne _ ex] at hb
      by_cases ej : j = i
      · subst ej
        rw [Cbs.put_same]; intro z; have := hnew b z; have := (h.cl x (hlt x hx ex) b hb).2.1; omega
      · rw [Cbs.put_ne _ ej]
        exact h.cdj x (hlt x hx ex) j (hlt j hj ej) hne b hb
  · by_cases ej : j = i
    · subst ej
      exact ⟨by simpa [Cbs.put, upd_same] using cT, by simpa [Cbs.put, upd_same] using oT, by simpa [Cbs.put, upd_same] using cbi, by simpa [Cbs.put, upd_same] using cba, by simpa [Cbs.put, upd_same] using cbt, by simpa [Cbs.put, upd_same] using cbw⟩
    · have hj' := hlt j hj ej
      have c' : CliN w' A bl bo f j := (h.cli j hj').kp kA (fun b hb => ⟨(h.cl j hj' b hb).2.2, fun x hx => by rw [hAf x hx]; have := (h.cl j hj' b hb).1; omega⟩) (oj j hj'); refine ⟨?_, ?_, ?_, ?_, ?_, ?_⟩ <;> simp only [Cbs.put, upd_ne _ _ ej]
      · exact c'.t
      · exact c'.ch
      · exact c'.bi
      · exact c'.ba
      · exact c'.bt
      · exact c'.bw
end

theorem ok_rd {N0 : Nat} {l : List Nat} {st : List (Addr × Value)} {b o : Nat} (h5 : o ≠ 5) (h6 : o ≠ 6) : OkS N0 l st ⟨b, o, none⟩ false := ⟨sh_off h5 h6, fun h => by cases h⟩
theorem ok_wr {N0 : Nat} {l : List Nat} {st : List (Addr × Value)} {b o : Nat} (h5 : o ≠ 5) (h6 : o ≠ 6) (hb : N0 ≤ b) (hs : ¬ StL st (.cell ⟨b, o, none⟩)) (wr : Bool) : OkS N0 l st ⟨b, o, none⟩ wr := ⟨sh_off h5 h6, fun _ => ⟨hb, hs⟩⟩
theorem ok_fr {N0 N : Nat} {l : List Nat} {st : List (Addr × Value)} (hl : ∀ A ∈ l, A < N) (hN : N0 ≤ N) {a : Addr} (ha : N ≤ a.block) (hs : ∀ p ∈ st, p.1.block ≠ a.block) (wr : Bool) : OkS N0 l st a wr :=
  ⟨fun ⟨A, hA, z⟩ => by have := hl A hA; rcases z with z | z <;> (simp at z; subst z; dsimp only at ha; omega), fun _ => ⟨by omega, fun ⟨p, hp, z⟩ => by simp at z; exact hs p hp (by rw [z])⟩⟩
theorem ok_rdb {N0 : Nat} {l : List Nat} {st : List (Addr × Value)} {a : Addr} (h : a.block ∉ l) : OkS N0 l st a false :=
  ⟨fun ⟨A, hA, z⟩ => by rcases z with z | z <;> (simp at z; subst z; exact h hA), fun h => by cases h⟩
theorem At.shun {P : Program} {Post : Value → World → Prop} {K : World → Prop} {Shun Shun' Still : Loc → Prop} {Mem : Nat → Prop} {Inb : Nat → Option Seat} {h n : Nat} {g : Goroutine} {w : World} (h3 : ∀ x, Shun x → Shun' x) (h4 : ∀ x, Shun' x → Shun x ∨ New w.heap.size x) (H : At P Post K Shun' Still Mem Inb h n g w) : At P Post K Shun Still Mem Inb h n g w :=
  fun d gs T q sl hn hg C => H d gs T q sl hn hg (R2.grow C (fun _ x => x) (fun _ x => .inl x) h3 h4)
theorem Old.trans {w0 w1 w2 : World} (h : Old w0 w1) (h' : Old w1 w2) : Old w0 w2 :=
  ⟨h'.1.trans h.1, h'.2.1.trans h.2.1, h'.2.2.1.trans h.2.2.1, Nat.le_trans h.2.2.2.1 h'.2.2.2.1, fun k hk => (h'.2.2.2.2 k (Nat.lt_of_lt_of_le hk h.2.2.2.1)).trans (h.2.2.2.2 k hk)⟩
theorem Old.froz {wI w : World} (h : Old wI w) {a : Addr} (ha : a.block < wI.heap.size) : w.frozen? a = wI.frozen? a := by unfold World.frozen?; rw [h.2.2.2.2 _ ha]
theorem Old.refl (w : World) : Old w w := ⟨rfl, rfl, rfl, Nat.le_refl _, fun _ _ => rfl⟩
end
section
open Go.Conc Go.RowKit
open Go.ConcN (sumTo upd sumTo_upd upd_ne upd_same)

theorem sum_c (c : Nat) : ∀ l : List Nat, (l.map fun _ => c).sum = c * l.length
  | [] => rfl
  | _ :: l => by rw [List.map_cons, List.sum_cons, sum_c c l, List.length_cons, Nat.mul_succ]; omega
/-- What is not shunned of the clients' lists. -/
def OffL (l : List Nat) (sa : Option Addr) (n : Nat) (g : Nat → Cl) : Prop := (∀ p : Addr, sa = some p → p.block ∉ l) ∧ ∀ i, i < n → 0 < (g i).nt → ∀ p : Addr, (g i).ta = some p → p.block ∉ l
/-- All that has been made when the agenda begins to run. -/
structure Made (w0 wA w : World) (l : List Nat) (J O bo bl B HD A wc ec n cap : Nat) (sa : Option Addr) (g : Nat → Cl) (f : Cbs) (js : List Nat) (en : Value) : Prop where
  L : LpN wA A wc ec bl bo g n f js en w
  BN : BackN w B HD J sa n cap
  a0 : w.cell? ⟨A, 0, none⟩ = some (.int .i64 0)
  z0 : w.frozen? ⟨A, 0, none⟩ = false
  a3 : w.cell? ⟨A, 3, none⟩ = some (.chan (some wc))
  a4 : w.cell? ⟨A, 4, none⟩ = some (.chan (some ec))
  a5 : Num .u64 ⟨A, 5, none⟩ w 0
  a6 : Num .u32 ⟨A, 6, none⟩ w 0
  ne : w0.heap.size ≤ J ∧ J < HD ∧ HD < B ∧ B < bl ∧ bl < O ∧ O < bo ∧ bo < wc ∧ bo < ec ∧ wc < A ∧ ec < A ∧ A < wA.heap.size ∧ wc ≠ ec
  out : ∀ j, j < n → OutAt w O j 0 0 0 none 0 0 ∧ ∀ x ∈ outC O j, w.frozen? x = false
  j0 : w.cell? ⟨J, 0, none⟩ = some (.slice none 0 0)
  zj : w.frozen? ⟨J, 0, none⟩ = false
  bo : w.cell? ⟨bo, 0, none⟩ = some (.slice (some ⟨O, 0, none⟩) n n)
  bl : w.cell? ⟨bl, 0, none⟩ = some (.iface 138 (.pointer (some ⟨B, 0, none⟩)))
  hl : ∀ A ∈ l, A < w0.heap.size
  n9 : n ≤ 9
  h0 : 0 < w0.heap.size
  vG : w0.cell? ⟨0, 0, none⟩ = some (.iface 217 (.agg #[.pointer (some ⟨1, 121, none⟩)]))
  cls : ClsAt w0 sa n g
  good : ∀ j, j < n → (g j).good = true
  off : OffL l sa n g

def rnOf (w0 wA w : World) (l : List Nat) (J O bo bl B HD A wc ec n : Nat) (g : Nat → Cl) (f : Cbs) (en : Value) (cR : Frame) (csR : List Frame) : Rn :=
  { wI := w0, l := A :: l, n := n, A := A, J := J, O := O, bo := bo, bl := bl, B := B, HD := HD, wch := wc, ech := ec, N := w.heap.size, N1 := wA.heap.size, T := f.T, tch := f.tch, bi := f.bi, ba := f.ba, bt := f.bt, bw := f.bw, k0 := fun j => (g j).k0, k1 := fun j => (g j).k1, k2 := fun j => (g j).k2, s0 := fun j => (g j).st, wR := w, en0 := en, cR := cR, csR := csR }
def gsOf (R : Rn) (ng : Nat) (js : List Nat) : Gs := { st := R.st0, ng := ng, L := 0, nb := 0, Inb := fun _ => none, St := fun _ _ => False, tk := fun _ => .fresh, js := js }

section
variable {w0 wA w : World} {l : List Nat} {J O bo bl B HD A wc ec n cap : Nat} {sa : Option Addr} {g : Nat → Cl} {f : Cbs} {js : List Nat} {en : Value} {cR : Frame} {csR : List Frame} {Post : Value → World → Prop}

theorem Made.nx (M : Made w0 wA w l J O bo bl B HD A wc ec n cap sa g f js en) (j : Nat) (hj : j < n) (Ok : Addr → Bool → Prop) (w1 : World) (hrd : ∀ a, ¬ ShL (A :: l) (.cell a) → Ok a false) (okw : Ok ⟨HD, j, none⟩ true) (hfr : ∀ (a : Addr) (wr : Bool), w1.heap.size ≤ a.block → Ok a wr) (hI : ∀ a v, w0.cell? a = some v → w1.cell? a = some v) (hB : ∀ a v, a.block = B → w.cell? a = some v → w1.cell? a = some v) (hN : w.heap.size ≤ w1.heap.size) (hh : w1.cell? ⟨HD, j, none⟩ = some (.int .i64 0)) (zh : w1.frozen? ⟨HD, j, none⟩ = false) :
    CallsX Tryz.prog false (DX Ok) 147 #[.pointer (some ⟨B, 0, none⟩), .int .i64 (j : Int)] w1 fun v w' => v = .tuple #[.int .i64 0, .agg #[.int .i64 (g j).k0, .int .i64 (g j).k1, .int .i64 (g j).k2]] ∧ Kp [] w1 w' [⟨HD, j, none⟩] ∧ w'.cell? ⟨HD, j, none⟩ = some (.int .i64 1) ∧ w'.frozen? ⟨HD, j, none⟩ = false := by
  obtain ⟨cb, co, rfl, c0, c1, hT⟩ := M.cls j hj; have hne := M.ne; have lcb : cb < w0.heap.size := lt_of_cell c0; have lc1 := lt_of_cell (hI _ _ c0); have lB : B < w.heap.size := lt_of_cell M.BN.b1; have lH := lt_of_cell hh; dsimp only at lc1 lH
  have hb : ∀ (b o : Nat), b < w0.heap.size → b ∉ l → ¬ ShL (A :: l) (.cell ⟨b, o, none⟩) := fun b o h1 h2 ⟨A', hA, z⟩ => by
    have e : b = A' := by rcases z with z | z <;> (simp at z; exact z.1)
    subst e; rcases List.mem_cons.1 hA with rfl | hA
    · omega
    · exact h2 hA
  have okc : Ok ⟨cb, co + j * 2 + 1, none⟩ false := hrd _ (hb _ _ lcb (M.off.1 _ rfl)); have ok4 : Ok ⟨B, 4, none⟩ false := hrd _ (sh_off (by decide) (by decide)); have ok3 : Ok ⟨B, 3, none⟩ false := hrd _ (sh_off (by decide) (by decide))
  have okh : Ok ⟨HD, j, none⟩ false := hrd _ (fun ⟨A', hA, z⟩ => by
    have e : HD = A' := by rcases z with z | z <;> (simp at z; exact z.1)
    subst e; rcases List.mem_cons.1 hA with e | hA
    · omega
    · have := M.hl _ hA; omega)
  have h4 := hB ⟨B, 4, none⟩ _ rfl M.BN.b4; have h3 := hB ⟨B, 3, none⟩ _ rfl M.BN.b3; have hc1 := hI _ _ c1
  by_cases e : (g j).nt = 0
  · have x := nextV_x (main := false) B HD cb co j n cap (g j).nt (g j).tc (g j).ta w1 e hj (by omega) (by omega) (by omega) lH lc1 h4 h3 hh zh hc1 ok4 ok3 okh okw okc hfr
    simpa [Cl.k0, Cl.k1, Cl.k2, e] using x
  · obtain ⟨tb, o, hta, ht⟩ := hT 0 (by omega)
    have q0 := ht 0 (by decide); have q1 := ht 1 (by decide); have q2 := ht 2 (by decide); simp only [Nat.zero_mul, Nat.add_zero] at q0 q1 q2; have ltb : tb < w0.heap.size := lt_of_cell q0; rw [hta] at hc1
    have x := nextU_x (main := false) B HD cb co j n cap tb o (g j).nt (g j).tc _ _ _ w1 (by omega) hj (by omega) (by omega) (by omega) (by omega) lH lc1 (lt_of_cell (hI _ _ q0)) h4 h3 hh zh hc1 (hI _ _ q0) (hI _ _ q1) (hI _ _ q2) ok4 ok3 okh okw okc (fun a ha => hrd a (by
      obtain ⟨b', o', s'⟩ := a; dsimp only at ha; subst ha
      rintro ⟨A', hA, z⟩
      have e : b' = A' := by rcases z with z | z <;> (simp at z; exact z.1)
      subst e; rcases List.mem_cons.1 hA with rfl | hA
      · omega
      · exact M.off.2 j hj (by omega) _ hta hA)) hfr
    simpa [Cl.k0, Cl.k1, Cl.k2, e] using x

theorem Made.ok (M : Made w0 wA w l J O bo bl B HD A wc ec n cap sa g f js en) : RnOk (rnOf w0 wA w l J O bo bl B HD A wc ec n g f en cR csR) := by
  have hne := M.ne; have hs := M.L.kp.size
  exact { hA := List.mem_cons_self ..
          l0 := fun A' hA h => by
            rcases List.mem_cons.1 hA with e | hA
            · exact absurd e h
            · exact M.hl A' hA
          l1 := hs
          n9 := M.n9
          i0 := M.h0
          gl := fun b hb => by
            simp only [Rn.gb, rnOf, List.mem_cons, List.not_mem_nil, or_false] at hb
            show w0.heap.size ≤ b ∧ b < wA.heap.size
            rcases hb with rfl | rfl | rfl | rfl | rfl | rfl | rfl | rfl | rfl <;> omega
          gne := ⟨hne.2.1, hne.2.2.1, hne.2.2.2.1, hne.2.2.2.2.1, hne.2.2.2.2.2.1, hne.2.2.2.2.2.2.1, hne.2.2.2.2.2.2.2.1, hne.2.2.2.2.2.2.2.2.1, hne.2.2.2.2.2.2.2.2.2.1⟩
          gne2 := hne.2.2.2.2.2.2.2.2.2.2.2
          en1 := fun x hx => (M.L.row hx).1
          cl := M.L.cl
          cnd := M.L.cnd
          cdj := M.L.cdj
          size := rfl
          vB1 := M.BN.b1
          vB2 := M.BN.b2
          vbo := M.bo
          vbl := M.bl
          vG := M.vG
          vT0 := fun j hj => (M.L.cli j hj).t.t0
          vT2 := fun j hj => (M.L.cli j hj).t.t2
          vT3 := fun j hj => (M.L.cli j hj).t.t3
          vT7 := fun j hj => ⟨(M.L.cli j hj).t.t7, (M.L.cli j hj).t.z7⟩
          vbi := fun j hj => (M.L.cli j hj).bi
          vba := fun j hj => (M.L.cli j hj).ba
          vbt := fun j hj => (M.L.cli j hj).bt
          vbw := fun j hj => (M.L.cli j hj).bw
          vA3 := M.a3
          vA4 := M.a4
          vA6 := M.a6
          vO := M.out
          vH := M.BN.h
          kd := fun j hj => by
            obtain ⟨h1, h2, h3, h4, h5⟩ := Cl.kd (M.good j hj); exact ⟨h1, h2, wr (by show -1000000 ≤ (g j).st + (g j).k2; omega) (by show (g j).st + (g j).k2 ≤ 1000000; omega)⟩
          nx := fun j hj Ok w1 h1 h2 h3 h4 h5 h6 h7 h8 => M.nx j hj Ok w1 h1 h2 h3 h4 h5 h6 h7 h8 }

theorem Made.gs (M : Made w0 wA w l J O bo bl B HD A wc ec n cap sa g f js en) {ng : Nat} (hng : 0 < ng) : Good (rnOf w0 wA w l J O bo bl B HD A wc ec n g f en cR csR) (gsOf (rnOf w0 wA w l J O bo bl B HD A wc ec n g f en cR csR) ng js) w.heap.size := by
  have hne := M.ne; have hs := M.L.kp.size
  have hb : ∀ j, j < n → ∀ a : Addr, (rnOf w0 wA w l J O bo bl B HD A wc ec n g f en cR csR).own0 j a → a.block < w.heap.size := fun j hj a o => by
    rcases o with o | o | o
    · have e : a.block = O := (out_blk o).1
      omega
    · have e : a.block = HD := congrArg Addr.block o
      omega
    · have e : a.block = f.T j := congrArg Addr.block o
      rw [e]; exact (M.L.cl j hj _ (by simp [Cbs.cb])).2.1
  exact { sub := fun p hp => hp
          st := fun p hp => by
            rcases st0_blk hp with ⟨e1, e2⟩ | ⟨j, hj, e⟩
            · have e1' : p.1.block = A := e1
              exact ⟨.inr e2, by show w0.heap.size ≤ _; omega, by omega, .inl hp⟩
            · have e' : p.1 = ⟨f.T j, 3, none⟩ := e
              have := M.L.cl j hj (f.T j) (by simp [Cbs.cb]); rw [e']; exact ⟨.inr (.inl rfl), by show w0.heap.size ≤ f.T j; omega, this.2.1, .inl hp⟩
          N := Nat.le_refl _
          ow := fun j hj a o => ⟨.inl o, hb j hj a o⟩
          dj := fun i hi j hj hij a b o1 o2 hN => by
            have h1 : a.block < w.heap.size := hb i hi a o1; have h2 : w.heap.size ≤ a.block := hN; omega
          su := fun p hp j hj a o => o.elim
          xu := fun i hi q e => by cases e
          pk := fun j hj q e => by cases e
          px := fun i hi j hj hij q q' e => by cases e
          inb := fun x s e => by cases e
          stl := fun x y e => by cases e
          nodup := M.L.nd
          mem := fun j => by
            rw [show (gsOf (rnOf w0 wA w l J O bo bl B HD A wc ec n g f en cR csR) ng js).js = js from rfl, M.L.mem j]; exact ⟨fun h => ⟨h, by show 0 < 2; decide⟩, fun h => h.1⟩
          nb9 := by
            have : (gsOf (rnOf w0 wA w l J O bo bl B HD A wc ec n g f en cR csR) ng js).fr = js.length := by
              show (js.map fun j => 1).sum = js.length
              rw [sum_c, Nat.one_mul]
            rw [this, M.L.len]; have := M.n9
            show 0 + n ≤ 9
            omega
          ng0 := hng
          en := fun j hj gc wp e => by cases e }

theorem Made.hd (M : Made w0 wA w l J O bo bl B HD A wc ec n cap sa g f js en) {ng : Nat} : HeadW (rnOf w0 wA w l J O bo bl B HD A wc ec n g f en cR csR) (gsOf (rnOf w0 wA w l J O bo bl B HD A wc ec n g f en cR csR) ng js) w en (.slice none 0 0) [] := by
  have hne := M.ne; have hs := M.L.kp.size; have hr : ∀ g ∈ rowL (.slice none 0 0), False := fun g hg => by simp [rowL, Value.ownBlock] at hg
  exact { a0 := ⟨_, M.a0⟩
          z0 := M.z0
          a1 := M.L.a1
          z1 := M.L.z1
          j0 := M.j0
          zj := M.zj
          ent := M.L.ent
          row := ⟨0, rfl, by refine ⟨rfl, .inl ⟨rfl, rfl⟩⟩⟩
          sep := fun g hg => (hr g hg).elim
          rok := fun a wr h => by
            rcases h with h | h
            · obtain ⟨h1, h2⟩ := M.L.row h
              refine ⟨fun ⟨A', hA, z⟩ => ?_, fun _ => ⟨by show w0.heap.size ≤ _; omega, fun ⟨p, hp, z⟩ => ?_, fun u => u.2.2.1 h, fun j hj o => ?_⟩⟩
              · have e : a.block = A' := by rcases z with z | z <;> (simp at z; rw [z])
                have hA' : A' ∈ A :: l := hA; rcases List.mem_cons.1 hA' with e' | hA'
                · omega
                · have := M.hl A' hA'; omega
              · simp only [Loc.cell.injEq] at z
                rcases st0_blk hp with ⟨e1, e2⟩ | ⟨j, hj, e⟩
                · have e1' : p.1.block = A := e1
                  rw [← z] at e1'; omega
                · have e' : p.1 = ⟨f.T j, 3, none⟩ := e
                  rw [z, e'] at h; exact (M.L.cl j hj (f.T j) (by simp [Cbs.cb])).2.2 h
              · rcases o with o | o | o
                · have e : a.block = O := (out_blk o).1
                  omega
                · have e : a.block = HD := congrArg Addr.block o
                  omega
                · have e : a.block = f.T j := congrArg Addr.block o
                  rw [e] at h; exact (M.L.cl j hj (f.T j) (by simp [Cbs.cb])).2.2 h
            · exact (hr _ h).elim
          cnt := by
            show 0 + 5 * (js.map fun j => 2).sum = 10 * n
            have := M.L.len; rw [sum_c]; omega
          last := fun gc wp _ e => by cases e
          N := Nat.le_refl _ }

theorem agenda_at (M : Made w0 wA w l J O bo bl B HD A wc ec n cap sa g f js en) {ng : Nat} (hng : 0 < ng) (hold : Old w0 w)
    (hfin : ∀ ng' w' ev, 0 < ng' → RunN w0 n g A O ev w' → w'.cell? ⟨J, 0, none⟩ = some ev → (∀ a v, w0.heap.size ≤ a.block → a.block < wA.heap.size → a.block ≠ J → a.block ≠ O → a.block ≠ HD → a.block ≠ A → w.cell? a = some v → w'.cell? a = some v ∧ w'.frozen? a = w.frozen? a) → At0 Tryz.prog Post (Old w0) (ShL (A :: l)) ng' (G (cR.finish (.tuple #[])) csR) w') :
    At0 Tryz.prog Post (Old w0) (ShL (A :: l)) ng (G (Frame.enter Tryz.prog 39 #[.pointer (some ⟨A, 0, none⟩)] .normal) (cR :: csR)) w := by
  have hne := M.ne; have hs := M.L.kp.size; have H := M.ok (cR := cR) (csR := csR); have GG := M.gs (cR := cR) (csR := csR) hng; have HW := M.hd (cR := cR) (csR := csR) (ng := ng); generalize hR : rnOf w0 wA w l J O bo bl B HD A wc ec n g f en cR csR = R at H GG HW
  have hK : KG R R.st0 w := by
    subst hR; refine ⟨hold, ⟨fun p hp => ?_, fun c hc => ?_⟩, ⟨_, M.a5.1⟩, M.a5.2, _, M.a6.1⟩
    · simp only [Rn.st0, rnOf, List.mem_cons, List.mem_map, List.mem_range] at hp
      rcases hp with rfl | rfl | ⟨j, hj, rfl⟩
      · exact M.a3
      · exact M.a4
      · exact (M.L.cli j hj).t.t3
    · simp only [Rn.cc, rnOf, List.mem_cons, List.mem_map, List.mem_range] at hc
      rcases hc with rfl | rfl | ⟨j, hj, rfl⟩
      · exact ⟨0, M.L.o1⟩
      · exact ⟨0, M.L.o2⟩
      · exact ⟨0, (M.L.cli j hj).ch⟩
  have hQ : QG R (gsOf R ng js).tk w := by
    subst hR; exact ⟨Keeps.refl _ _, fun j hj => Keeps.refl _ _⟩
  have hgk := kg_gk H GG.a5
  have hfin' : ∀ ng' w' ev m, 0 < ng' → DoneR R w' ev m → At0 Tryz.prog Post (Old R.wI) (ShL R.l) ng' (G (R.cR.finish (.tuple #[])) R.csR) w' := by
    subst hR; intro ng' w' ev m hng' D; have hN : w.heap.size ≤ w'.heap.size := D.N; refine hfin ng' w' ev hng' ⟨D.old, ⟨by omega, by omega⟩, ⟨by omega, by omega⟩, fun j hj => ?_, ?_⟩ D.j0 (fun a v h1 h2 h3 h4 h5 h6 hv => D.ug a v (ug_of H h1 h2 h3 h4 h5 fun z => absurd z h6) h6 hv)
    · obtain ⟨gc, x1, x2⟩ := D.out j hj
      exact ⟨gc, fun x hx => by have : w.heap.size ≤ x := x2 x hx; omega, x1⟩
    · obtain ⟨k, hk, hrow⟩ := D.row
      have hc : m.length = 10 * n := D.cnt; refine ⟨w.heap.size, m, by omega, hc, ?_, D.last⟩; rw [show 2 * n = k by omega]; exact hrow
  have hall := head_all H hfin' (gsOf R ng js).wt (gsOf R ng js) w en (.slice none 0 0) []
  have base : At3 Tryz.prog Post (KG R R.st0) (QG R (gsOf R ng js).tk) (ShL R.l) (gsOf R ng js).St (fun _ => none) (grp R.A) 0 0 0 ng 0 (G (Frame.enter Tryz.prog 39 #[.pointer (some ⟨A, 0, none⟩)] .normal) (cR :: csR)) w := by
    have F := futG (Post := Post) H (st := R.st0) (tk := (gsOf R ng js).tk) (Inb := fun _ => none) (St := (gsOf R ng js).St) (L := 0) (nb := 0) (n := ng) (dl := 0) (by omega) GG.a5 (fun x y e => by cases e) 0; have hA : R.A = A := by rw [← hR]; rfl
    have hc : R.cR = cR := by rw [← hR]; rfl
    have hcs : R.csR = csR := by rw [← hR]; rfl
    rw [enter_at _ Tryz.func39 rfl]; simp only [Tryz.ntmps39, List.size_toArray, List.length_cons, List.length_nil, Nat.reduceAdd, Nat.reduceSub, Array.replicate_succ, Array.replicate_zero, List.push_toArray, List.append_toArray, List.nil_append, List.cons_append]; refine F.sq ?_; refine F.bl ?_; refine F.ctl (fun _ => stepG_loop) ?_; refine hall _ rfl GG (fun j _ => rfl) rfl ?_ HW (fun j _ q e => by cases e) ?_
    · show 0 = (js.map fun j => 0).sum
      rw [sum_c, Nat.zero_mul]
    · rw [hA, hc, hcs]
      exact ⟨_, _, _, _, _, _, _, _, _, _, _, _, _, _, _, _, _, _, _, _, _, _, _, _, _, _, _, _, _, _, _, _, _, _, rfl⟩
  have hz : Num .u64 (grp R.A).st w 0 := by subst hR; exact M.a5
  have hl : R.l = A :: l := by rw [← hR]; rfl
  rw [← hl]; exact At3.of_solo hgk rfl hK hQ hz base
end
end
end Go.Proofs.YtobagnjnbmgidaaGreatDoor
