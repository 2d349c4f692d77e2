/- The one client of a run. -/
import Derived.Test.YtobagnjnbmgidaaGreatDoorX49
set_option linter.unusedSimpArgs false
set_option linter.unusedVariables false
namespace Go.Proofs.YtobagnjnbmgidaaGreatDoor
open Go.Conc Go.RowKit
open Go.ConcN (sumTo upd sumTo_upd upd_ne upd_same)

/-- Cells of blocks below N that L does not name stay. -/
def Stay (L : List Nat) (N : Nat) (w w' : World) : Prop := ∀ (a : Addr) (v : Value), a.block < N → a.block ∉ L → w.cell? a = some v → w'.cell? a = some v ∧ w'.frozen? a = w.frozen? a
theorem Stay.kp {L L' : List Nat} {C : List Addr} {N : Nat} {w w1 w2 : World} (h : Stay L N w w1) (k : Kp L' w1 w2 C) (hL : ∀ x ∈ L', x ∈ L ∨ N ≤ x) (hC : ∀ x ∈ C, x.block ∈ L ∨ N ≤ x.block) : Stay L N w w2 := fun a v ha hn hv => by
  obtain ⟨h1, h2⟩ := h a v ha hn hv
  have e1 : a.block ∉ L' := fun z => (hL _ z).elim hn fun y => by omega
  have e2 : a ∉ C := fun z => (hC _ z).elim hn fun y => by omega
  exact ⟨k.cellC a v e1 e2 h1, (k.frozC a v e1 e2 h1).trans h2⟩
theorem Stay.refl (L : List Nat) (N : Nat) (w : World) : Stay L N w w := fun a v _ _ h => ⟨h, rfl⟩

section
variable {wI : World} {l : List Nat} {e : Env} {c n : Nat} {Post : Value → World → Prop} {cs0 : List Frame}

theorem ok_rdl {N0 : Nat} {l : List Nat} {st : List (Addr × Value)} {b o : Nat} (h : b ∉ l) : OkS N0 l st ⟨b, o, none⟩ false :=
  ⟨fun ⟨A, hA, z⟩ => by rcases z with z | z <;> simp at z <;> exact h (z.1 ▸ hA), fun h => by cases h⟩
theorem ok_wrl {N0 : Nat} {l : List Nat} {e : Env} {b : Nat} (h : b ∉ l) (hb : N0 ≤ b) (nA : b ≠ e.A) (nX : b ≠ e.X) (nT : b ≠ e.T) (a : Addr) (wr : Bool) (ha : a.block = b) : OkS N0 l (st0 e) a wr :=
  ⟨fun ⟨A, hA, z⟩ => by rcases z with z | z <;> (simp at z; subst z; exact h (ha ▸ hA)), fun _ => ⟨by omega, fun ⟨p, hp, z⟩ => by simp at z; subst z; have := (st0_off hp).2.2.2; omega⟩⟩
/-- Apart from what a client's walk writes. -/
def Off (N J HD A T b : Nat) : Prop := b < N ∧ b ≠ J ∧ b ≠ HD ∧ b ≠ A ∧ b ≠ T

theorem envok (R : Rig wI l e c n) (hTl : e.T ∉ l) (lJ : e.J < e.N) (IJ : wI.heap.size ≤ e.J) (nAJ : e.A ≠ e.J) (nTJ : e.T ≠ e.J) : EnvOk e (OkS wI.heap.size l (st0 e)) := by
  have lA := (R.l0 _ R.hA)
  have lT := R.lT
  have nX := R.nX
  have nAT := R.nAT
  exact { lA := lA.2, lT := lT, lJ := lJ, nAT := nAT, nAJ := nAJ, nTJ := nTJ
          t0 := ok_rd (by decide) (by decide), t2 := ok_rd (by decide) (by decide), t3 := ok_rd (by decide) (by decide), t4 := ok_rd (by decide) (by decide)
          t4w := ok_wr (by decide) (by decide) R.hT (by simp [StL, st0]; omega) _
          t6 := ok_rdl hTl
          t7w := ok_wr (by decide) (by decide) R.hT (by simp [StL, st0]) _
          a0 := ok_rd (by decide) (by decide), a1 := ok_rd (by decide) (by decide)
          a1w := ok_wr (by decide) (by decide) lA.1 (by simp [StL, st0]) _
          a3 := ok_rd (by decide) (by decide), a4 := ok_rd (by decide) (by decide), j0 := ok_rd (by decide) (by decide)
          j0w := ok_wr (by decide) (by decide) IJ (by simp [StL, st0]; omega) _
          fr := fun a wr h hx => ok_fr (N := e.N) (fun B hB => (R.l0 B hB).2) (by omega) h (fun p hp => by have := (st0_off hp).2.2.2; omega) wr }

set_option maxHeartbeats 800000 in
theorem cli_at (R : Rig wI l e c n) (hTl : e.T ∉ l) (hN0 : wI.heap.size ≤ e.N) (lJ : e.J < e.N) (IJ : wI.heap.size ≤ e.J) (nAJ : e.A ≠ e.J) (nTJ : e.T ≠ e.J) (cR : Frame) (csR : List Frame) (bg bf bw bt O bo bi bl HD : Nat) (ov : Value) (at' tm kd nn tm' : Int) (w0 w1 : World) (en1 : Value)
    (Cx : Option Addr → Nat → Nat → World → Prop) (Mx : Nat → Prop) (hCx : ∀ x q cap w w' L C, Kp L w w' C → (∀ y ∈ L, y < e.N) → (∀ y ∈ C, y.block < e.N) → Cx x q cap w → Cx x q cap w')
    (hsz : e.N ≤ w0.heap.size) (c2 : OpenCh w0 e.ech) (B : Begun e w0 w1 at' en1 bg bf bw bt bl bo bi)
    (lO : wI.heap.size ≤ O) (oO : Off e.N e.J HD e.A e.T O) (hOl : O ∉ l) (nOe : O ≠ e.ech) (nJe : e.J ≠ e.ech) (nHD : HD ≠ e.A) (lHD : HD < e.N) (obo : Off e.N e.J HD e.A e.T bo) (obi : Off e.N e.J HD e.A e.T bi) (obl : Off e.N e.J HD e.A e.T bl) (dbo : O ≠ bo) (dbi : O ≠ bi) (dbl : O ≠ bl)
    (hO : w0.cell? ⟨bo, 0, none⟩ = some (.slice (some ⟨O, 0, none⟩) 1 1)) (hi : w0.cell? ⟨bi, 0, none⟩ = some (.int .i64 0)) (hl : w0.cell? ⟨bl, 0, none⟩ = some ov)
    (ho0 : w0.cell? ⟨O, 0, none⟩ = some (.int .i64 0)) (ho1 : w0.cell? ⟨O, 1, none⟩ = some (.int .i64 0)) (ho2 : w0.cell? ⟨O, 2, none⟩ = some (.int .i64 0)) (ho3 : w0.cell? ⟨O, 3, none⟩ = some (.slice none 0 0)) (zo : ∀ i, i < 4 → w0.frozen? ⟨O, i, none⟩ = false)
    (hc38 : CallsW e (OkS wI.heap.size l (st0 e)) 38 #[ov, .pointer (some ⟨e.T, 0, none⟩)] w1 fun v w' => ∃ x q cap, v = .agg #[.int .i64 tm, .int .i64 kd, .int .i64 nn, .slice x q cap] ∧ Cx x q cap w' ∧ ∃ en' ev' m, Mx m ∧ CW e w' tm' en' ev' m ∧ Ru e HD w1 en1 (.slice none 0 0) w' en' ev')
    (hdone : ∀ x q cap w' ev m xs, Cx x q cap w' → Mx m → Stay [e.J, HD, e.A, e.T, O] e.N w0 w' → w'.cell? ⟨O, 0, none⟩ = some (.int .i64 tm) → w'.cell? ⟨O, 1, none⟩ = some (.int .i64 kd) → w'.cell? ⟨O, 2, none⟩ = some (.int .i64 nn) → w'.cell? ⟨O, 3, none⟩ = some (.slice x q cap) → w'.cell? ⟨e.J, 0, none⟩ = some ev → w'.ownsRow (e.X + 1) 55 5 ev m xs → w0.heap.size ≤ w'.heap.size → At0 Tryz.prog Post (Old wI) (ShL l) n (G (cR.finish (.tuple #[])) csR) w') :
    Psi0 wI l e c n Post (cR :: csR) (born Tryz.prog (call89 bg bf)) w1 := by
  have K := envok R hTl lJ IJ nAJ nTJ
  have H := B.cw
  have lA := K.lA
  have lT := K.lT
  have nAT := K.nAT
  have nX := H.nX
  have lX := B.lX
  have lbt := B.lbt
  have lbg := B.lbg
  have k01 := B.kp
  have hle := R.le
  have hnb := R.nb e.ech (by simp)
  have s01 : Stay [e.J, HD, e.A, e.T, O] e.N w0 w1 := (Stay.refl _ _ _).kp k01 (by simp) (by simp)
  have row0 : rowL (Value.slice none 0 0) = [] := rfl
  have sm : ∀ (w' : World) (en' ev' : Value), Ru e HD w1 en1 (.slice none 0 0) w' en' ev' → ∀ (b i : Nat) (v : Value), b ≠ e.J → b ≠ HD → b ∉ rowL en1 → (⟨b, i, none⟩ : Addr) ∉ [(⟨e.A, 0, none⟩ : Addr), ⟨e.A, 1, none⟩, ⟨e.T, 4, none⟩] → w1.cell? ⟨b, i, none⟩ = some v → w'.cell? ⟨b, i, none⟩ = some v ∧ w'.frozen? ⟨b, i, none⟩ = w1.frozen? ⟨b, i, none⟩ := by
    intro w' en' ev' r b i v h1 h2 h3 h4 hc
    have hb : (⟨b, i, none⟩ : Addr).block ∉ e.J :: HD :: (rowL (Value.slice none 0 0) ++ rowL en1) := by rw [row0]; simp; exact ⟨h1, h2, h3⟩
    exact ⟨r.kp.cellC _ _ hb h4 hc, r.kp.frozC _ _ hb h4 hc⟩
  have hent : ∀ b, b < e.N → b ∉ rowL en1 := fun b hb z => by have := (H.entN z).1; omega
  have hent2 : ∀ b, w0.heap.size ≤ b → b ∉ rowL en1 := fun b hb z => by have := B.len b z; omega
  have k1 : ∀ b, b ≠ e.A → ∀ i v, w0.cell? ⟨b, i, none⟩ = some v → w1.cell? ⟨b, i, none⟩ = some v ∧ w1.frozen? ⟨b, i, none⟩ = w0.frozen? ⟨b, i, none⟩ := fun b hb i v hv => ⟨k01.cellC _ _ (by simp) (by simp [hb]) hv, k01.frozC _ _ (by simp) (by simp [hb]) hv⟩
  have z1 : ∀ i v, i < 4 → w0.cell? ⟨O, i, none⟩ = some v → w1.cell? ⟨O, i, none⟩ = some v ∧ w1.frozen? ⟨O, i, none⟩ = false := fun i v h4 hv => ⟨(k1 O oO.2.2.2.1 i v hv).1, (k1 O oO.2.2.2.1 i v hv).2.trans (zo i h4)⟩
  have hbo := (k1 bo obo.2.2.2.1 _ _ hO).1
  have hbi := (k1 bi obi.2.2.2.1 _ _ hi).1
  have hbl := (k1 bl obl.2.2.2.1 _ _ hl).1
  have g1 : bt ≠ e.T := by omega
  have g2 : bg ≠ e.T := by omega
  have g3 : bg ≠ e.ech ∧ bg ≠ e.A := ⟨by omega, by omega⟩
  have g5 : O ≠ e.X := by have := oO.1; omega
  refine child_at R hN0 K cR csR bg bf bw bt O bo bi bl ov (fun a b c x q cap w => a = tm ∧ b = kd ∧ c = nn ∧ Cx x q cap w ∧ (∃ en ev m, Mx m ∧ CW e w tm' en ev m) ∧ w.cell? ⟨bt, 0, none⟩ = some (.pointer (some ⟨e.T, 0, none⟩)) ∧ w.cell? ⟨bg, 0, none⟩ = some (.pointer (some ⟨e.A, 5, none⟩)) ∧ Num .u64 ⟨e.A, 5, none⟩ w 4294967296 ∧ Num .u32 ⟨e.A, 6, none⟩ w 0 ∧ Stay [e.J, HD, e.A, e.T, O] e.N w0 w ∧ w0.heap.size ≤ w.heap.size) ?_ w1 g1 g2 g3 B.cbf B.cbw B.cbt
    hbo hbi hbl (z1 _ _ (by decide) ho0).1 (z1 _ _ (by decide) ho1).1 (z1 _ _ (by decide) ho2).1 (z1 _ _ (by decide) ho3).1 (z1 _ _ (by decide) ho0).2 (z1 _ _ (by decide) ho1).2 (z1 _ _ (by decide) ho2).2 (z1 _ _ (by decide) ho3).2 dbo dbi dbl (ok_wrl hOl lO oO.2.2.2.1 g5 oO.2.2.2.2) ?_ ?_ ?_
  · intro a b c x q cap w w' k ⟨h1, h2, h3, h4, ⟨en, ev, m, h5, h6⟩, h7, h8, h9, h10, h11, h12⟩
    have hO' := oO.1
    have gt : bt ≠ O := by omega
    have gg : bg ≠ O := by omega
    have gA : e.A ≠ O := Ne.symm oO.2.2.2.1
    refine ⟨h1, h2, h3, hCx _ _ _ _ _ _ _ k (by simp; exact hO') (by simp) h4, ⟨en, ev, m, h5, h6.keep k (by intro y hy; simp at hy; subst hy; exact .inl ⟨hO', oO.2.2.2.1, oO.2.2.2.2, oO.2.1⟩) lA lT lJ (by simp)⟩, k.cell _ _ (by simp [gt]) h7, k.cell _ _ (by simp [gg]) h8, ⟨k.cell _ _ (by simp [gA]) h9.1, (k.froz _ _ (by simp [gA]) h9.1).trans h9.2⟩, ⟨k.cell _ _ (by simp [gA]) h10.1, (k.froz _ _ (by simp [gA]) h10.1).trans h10.2⟩, h11.kp k (by simp) (by simp), Nat.le_trans h12 k.size⟩
  · intro Ψ0 Ψ1 W c' cs hc
    refine hc38 Ψ0 Ψ1 W c' cs (fun v w' hp => hc v w' ?_)
    obtain ⟨x, q, cap, rfl, hx, en', ev', m, hm, hcw, r⟩ := hp
    have hk := r.kp.size
    have hk0 := k01.size
    refine ⟨tm, kd, nn, x, q, cap, rfl, ⟨rfl, rfl, rfl, hx, ⟨en', ev', m, hm, hcw⟩, (sm w' en' ev' r bt 0 _ (by omega) (by omega) (hent2 _ (by omega)) (by simp <;> omega) B.cbt).1, (sm w' en' ev' r bg 0 _ (by omega) (by omega) (hent2 _ (by omega)) (by simp <;> omega) B.cbg).1, ?_, ?_, ?_, by omega⟩, ?_⟩
    · have := sm w' en' ev' r e.A 5 _ nAJ (Ne.symm nHD) (hent _ lA) (by simp) B.st.1
      exact ⟨this.1, this.2.trans B.st.2⟩
    · have := sm w' en' ev' r e.A 6 _ nAJ (Ne.symm nHD) (hent _ lA) (by simp) B.se.1
      exact ⟨this.1, this.2.trans B.se.2⟩
    · exact s01.kp r.kp (by intro y hy; rw [row0] at hy; simp at hy; rcases hy with rfl | rfl | hy; simp; simp; right; exact (H.entN hy).1) (by simp)
    · intro b hb i v hv
      simp at hb
      have hb' : Off e.N e.J HD e.A e.T b := by rcases hb with rfl | rfl | rfl | rfl; exact obo; exact obi; exact obl; exact oO
      exact sm w' en' ev' r b i v hb'.2.1 hb'.2.2.1 (hent _ hb'.1) (by simp [hb'.2.2.2.1, hb'.2.2.2.2]) hv
  · intro a b c x q cap w ⟨_, _, _, _, ⟨en, ev, m, _, h6⟩, h7, h8, h9, h10, h11, h12⟩
    obtain ⟨bs, cp, hv, _⟩ := h6.emp.form
    exact ⟨h7, h8, h6.t7, h6.z7, ⟨bs, cp, by rw [← hv]; exact h6.a1⟩, h9, h10, h6.size⟩
  · intro a b c x q cap w2 wS ⟨rfl, rfl, rfl, h4, ⟨en, ev, m, h5, h6⟩, _, _, _, _, h11, h12⟩ p0 p1 p2 p3 kS w' hKJ
    obtain ⟨_, kE, hs, _⟩ := hKJ
    obtain ⟨xs, hrow⟩ := h6.row
    have kk : Kp [e.ech] w2 w' [⟨e.T, 7, none⟩, ⟨e.A, 5, none⟩, ⟨e.A, 6, none⟩] := (kS.old (by simp) (by simp)).callN kE (fun y hy => .inl hy) (fun y hy => .inl (by simp at hy; rcases hy with rfl | rfl <;> simp))
    have nO : ∀ i, (⟨O, i, none⟩ : Addr) ∉ [(⟨e.T, 7, none⟩ : Addr), ⟨e.A, 5, none⟩, ⟨e.A, 6, none⟩] := fun i => by simp [oO.2.2.2.1, oO.2.2.2.2]
    have nO2 : ∀ i, (⟨O, i, none⟩ : Addr).block ∉ [e.ech] := fun i => by simp [nOe]
    refine hdone x q cap w' ev m xs (hCx _ _ _ _ _ _ _ kk (by simp; exact hle.2) (by simp; exact ⟨lT, lA⟩) h4) h5 ?_ (kk.cellC _ _ (nO2 _) (nO _) p0) (kk.cellC _ _ (nO2 _) (nO _) p1) (kk.cellC _ _ (nO2 _) (nO _) p2) (kk.cellC _ _ (nO2 _) (nO _) p3) (kk.cellC _ _ (by simp [nJe]) (by simp [Ne.symm nAJ, Ne.symm nTJ]) h6.j0) (kk.row hrow (fun g hg => ⟨by simp; have := (h6.rowN hg).1; omega, by simp; have := (h6.rowN hg).1; omega⟩)) (Nat.le_trans h12 kk.size)
    intro a v ha hn hv
    obtain ⟨e1, e2⟩ := h11 a v ha hn hv
    have hae : a.block ≠ e.ech := fun z => by simp [World.cell?, z, OpenCh] at c2 hv; rw [c2] at hv; simp at hv
    simp at hn
    exact ⟨kk.cellC a v (by simp; exact hae) (by simp; refine ⟨fun z => hn.2.2.2.1 (by rw [z]), fun z => hn.2.2.1 (by rw [z]), fun z => hn.2.2.1 (by rw [z])⟩) e1, (kk.frozC a v (by simp; exact hae) (by simp; refine ⟨fun z => hn.2.2.2.1 (by rw [z]), fun z => hn.2.2.1 (by rw [z]), fun z => hn.2.2.1 (by rw [z])⟩) e1).trans e2⟩
end

end Go.Proofs.YtobagnjnbmgidaaGreatDoor
