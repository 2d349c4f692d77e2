/- An entry of the agenda: a task is started, on. -/
import Derived.Test.YtobagnjnbmgidaaGreatDoorV18
set_option linter.unusedSimpArgs false
set_option linter.unusedVariables false
set_option maxHeartbeats 8000000
set_option maxRecDepth 100000
namespace Go.Proofs.YtobagnjnbmgidaaGreatDoor
open Go.Conc Go.RowKit
open Go.ConcN (sumTo upd sumTo_upd upd_ne upd_same)

section
variable {R : Rn} {Post : Value → World → Prop} {σ : Gs} {Λ i κ bg X bt M0 M : Nat} {p : Ph Gs}
theorem Good.a1w (H : RnOk R) (g : Good R σ M) {tk1 : Nat → TSt} (h1 : tk1 i = .live κ) (h2 : ∀ j, j ≠ i → tk1 j = σ.tk j) {o : Nat} (ho : o = 0 ∨ o = 1) (wr : Bool) : OkG R σ.st tk1 ⟨R.A, o, none⟩ wr := by
  have hg := H.gb'; have hn := H.gne; have hl := H.l1; refine g.okw H h1 h2 (by show R.A < R.N; omega) (by show _ ≤ R.A; omega) (sh_off (by omega) (by omega)) (fun p hp e => ?_) (fun u => by have := u.2.2.2.2.2.2.1 rfl; dsimp only at this; omega) (fun j hj hji o' => ?_) wr
  · rcases st0_blk hp with ⟨_, z⟩ | ⟨j, hj, z⟩
    · rw [e] at z; dsimp only at z; omega
    · have := (H.cb' hj).1; have e1 : R.A = R.T j := congrArg Addr.block (e.symm.trans z); omega
  · have := (H.cb' hj).1
    rcases o' with o' | o' | o'
    · have e1 : R.A = R.O := (out_blk o').1; omega
    · have e1 : R.A = R.HD := congrArg Addr.block o'; omega
    · have e1 : R.A = R.T j := congrArg Addr.block o'; omega
theorem a_ug {a : Addr} (ha : R.UG a) : a ∉ [(⟨R.A, 0, none⟩ : Addr), ⟨R.A, 1, none⟩] := fun z => by
  simp at z
  rcases z with rfl | rfl
  · have := ha.2.2.2.2.2.2.1 rfl; simp at this
  · have := ha.2.2.2.2.2.2.1 rfl; simp at this
theorem a_own (H : RnOk R) (hi : i < R.n) {a : Addr} (o : R.own0 i a) : a ∉ [(⟨R.A, 0, none⟩ : Addr), ⟨R.A, 1, none⟩] := fun z => by
  have hg := H.gb'; have hn := H.gne; have hc := (H.cb' hi).1; have e : a.block = R.A := by simp at z; rcases z with rfl | rfl <;> rfl
  rcases o with o | o | o
  · have := (out_blk o).1; omega
  · have := congrArg Addr.block o; dsimp only at this; omega
  · have := congrArg Addr.block o; dsimp only at this; omega
theorem ug_gb (H : RnOk R) {b o : Nat} (hb : b = R.B ∨ b = R.bo ∨ b = R.bl) : R.UG ⟨b, o, none⟩ := by
  have hg := H.gb'; have hn := H.gne; refine ug_of H (by show _ ≤ b; omega) (by show b < _; omega) (by show b ≠ _; omega) (by show b ≠ _; omega) (by show b ≠ _; omega) (fun z => by have z' : b = R.A := z; omega)

theorem start_t (H : RnOk R) (IH : ∀ ν, ν < Λ → HeadAll R Post ν) (w : World) (en ev : Value) (m : List Value) (g0 : Goroutine) (hwt : σ.wt = Λ) (g : Good R σ w.heap.size) (hlv : ∀ j, j < R.n → (σ.tk j).lv = false) (hI0 : σ.Inb 0 = none) (hL : σ.L = σ.pk) (HW : HeadW R σ w en ev m) (hrs : ∀ j, j < R.n → ∀ q, σ.tk j = .parked q → Res R Post Λ j q) (hgd : Hd39 R.A (R.cR :: R.csR) g0)
    (js' : List Nat) (hjs : σ.js = i :: js') (hf : σ.tk i = .fresh) : AtG R Post σ 0 g0 w := by
  have hg := H.gb'; have hn := H.gne; have hl := H.l1; have i0 := H.i0; have hi : i < R.n := ((g.mem i).1 (by rw [hjs]; simp)).1; have hc := H.cb' hi; have hce := H.ce hi; have hNw := HW.N; have hnb0 := g.nb9; have hfr1 : 1 ≤ σ.fr := by unfold Gs.fr; rw [hjs, List.map_cons, List.sum_cons, hf, show TSt.fresh.fr = 1 from rfl]; omega
  have hnb : σ.nb ≤ 8 := by omega
  have hnb9 : σ.nb ≤ 9 := by omega
  have GG := kg_gk H g.a5; have hnd := g.nodup; rw [hjs] at hnd; have hij : i ∉ js' := (List.nodup_cons.1 hnd).1
  have hwt2 : (js'.map fun j => (σ.tk j).wt).sum + 2 = Λ := by
    have := hwt; unfold Gs.wt at this; rw [hjs, List.map_cons, List.sum_cons, hf, show TSt.fresh.wt = 2 from rfl] at this; omega
  have hpk2 : (js'.map fun j => (σ.tk j).pk).sum = σ.pk := by
    unfold Gs.pk; rw [hjs, List.map_cons, List.sum_cons, hf, show TSt.fresh.pk = 0 from rfl]; omega
  have hcnt := HW.cnt; rw [hwt] at hcnt; refine At3.assume GG (fun hK hQ => ?_); refine At3.turn (Q' := QG R (upd σ.tk i (.live σ.ng))) qg_live ?_; have t1 : upd σ.tk i (.live σ.ng) i = .live σ.ng := upd_same ..; have t2 : ∀ j, j ≠ i → upd σ.tk i (.live σ.ng) j = σ.tk j := fun j h => upd_ne _ _ h
  have F0 : ∀ dl L nb, nb ≤ 9 → Fut Tryz.prog true (DX (OkG R σ.st (upd σ.tk i (.live σ.ng)))) (At3 Tryz.prog Post (KG R σ.st) (QG R (upd σ.tk i (.live σ.ng))) (ShL R.l) σ.St σ.Inb (grp R.A) L nb 0 σ.ng dl) := fun dl L nb h9 => futG H h9 g.a5 g.stl 0
  have hent := HW.ent; rw [hjs, List.map_cons, show ent R σ.tk i = (R.s0 i, .func (.func 50) #[] #[.pointer (some ⟨R.ba i, 0, none⟩), .pointer (some ⟨R.bt i, 0, none⟩), .pointer (some ⟨R.bw i, 0, none⟩)]) from by unfold ent; rw [hf]] at hent; obtain ⟨v0, ha0⟩ := HW.a0; refine pop_u (F0 0 σ.L σ.nb hnb9) R.N1 R.A (R.cR :: R.csR) (R.s0 i) 50 _ _ _ _ en v0 g0 w hgd Tryz.func50 (by rfl) (by rfl) hent (by omega) (by omega) ha0 HW.z0 HW.a1 HW.z1 (g.a1w H t1 t2 (.inr rfl) _) (g.a1w H t1 t2 (.inr rfl) _) (g.a1w H t1 t2 (.inl rfl) _) (fun a h => ok_live (HW.rok a false (.inl h))) (fun a wr h => g.okn H t1 t2 h wr) (fun fr w1 en1 hB k1 b0 z0 b1 z1 he1 hr1 => ?_); have k1s := k1.size; have U1 : Keeps R.UG R.wR w1 := hQ.1.kp k1 (fun a ha => ⟨by simp, a_ug ha⟩)
  have O1 : Keeps (R.own0 i) R.wR w1 := by
    have := hQ.2 i hi; rw [hf] at this; exact Keeps.kp this k1 (fun a ha => ⟨by simp, a_own H hi ha⟩)
  have rd : ∀ (b o : Nat), o ≠ 5 → o ≠ 6 → OkG R σ.st (upd σ.tk i (.live σ.ng)) ⟨b, o, none⟩ false := fun b o h5 h6 => ⟨sh_off h5 h6, fun h => by cases h⟩
  refine start_u (F0 0 σ.L σ.nb hnb9) R.A (R.T i) R.wch R.ech (R.ba i) (R.bt i) (R.bw i) _ fr (R.cR :: R.csR) w1 hB (U1 _ _ (ug_cb H hi (by simp [Rn.cb]) (fun e => absurd e.symm hce.2.2.1)) (H.vba i hi)).1 (U1 _ _ (ug_cb H hi (by simp [Rn.cb]) (fun e => absurd e.symm hce.2.2.2.1)) (H.vbt i hi)).1 (U1 _ _ (ug_cb H hi (by simp [Rn.cb]) (fun e => absurd e.symm hce.2.2.2.2)) (H.vbw i hi)).1 (rd _ _ (by decide) (by decide)) (rd _ _ (by decide) (by decide)) (rd _ _ (by decide) (by decide)) (fun a wr h => g.okn H t1 t2 (by omega) wr)
    (fun c cs' w2 X bt bw bg bf hsp k2 hbx cX cbt cbw cbg cbf => ?_)
  have k2s := k2.size; have bX := hbx X (by simp); have bT := hbx bt (by simp); have bG := hbx bg (by simp); have bW := hbx bw (by simp); have bF := hbx bf (by simp); refine add1_3 R.A GG hnb qg_at F0 (st_sh g) (fun w h => h.2.2.1) (fun w h => h.2.2.2.2) c cs' w2 ?_; refine hsp (fun g => At3 Tryz.prog Post (KG R σ.st) (QG R (upd σ.tk i (.live σ.ng))) (ShL R.l) σ.St σ.Inb (grp R.A) (σ.L + 1) (σ.nb + 1) 0 σ.ng 0 g w2) (cf_fut (F0 0 (σ.L + 1) (σ.nb + 1) (by omega)) w2) (fun a ⟨hrun, a', hstep, hway⟩ => ?_); refine At3.assume GG (fun hK2 hQ2 => ?_); have G1 : Good R (σ.begun R i X bg js') w2.heap.size := good_start H g hi hjs hf (by omega) (by omega); have GG1 := kg_gk H G1.a5; have hK1 : KG R (σ.begun R i X bg js').st w2 := ⟨hK2.1, kl_cons cX (kl_cons cbg hK2.2.1), hK2.2.2⟩; refine At3.less GG1 (fun w h => ⟨h.1, kl_sub (fun y hy => List.mem_cons_of_mem _ (List.mem_cons_of_mem _ hy)) (fun _ h => h) h.2.1, h.2.2⟩) hK1 ?_; have hcc : ∀ c' ∈ R.cc, ∃ k', w2.heap[c']? = some (.chan 0 #[] false k' k' false) := hK2.2.1.2
  have plS : ∀ y ∈ ((⟨X, 0, none⟩, .pointer (some ⟨R.A, 0, none⟩)) :: plA R.A R.wch R.ech : List (Addr × Value)), y ∈ (σ.begun R i X bg js').st := fun y hy => by
    rcases List.mem_cons.1 hy with rfl | hy
    · exact List.mem_cons_self ..
    · exact List.mem_cons_of_mem _ (List.mem_cons_of_mem _ (pl_A g y hy))
  obtain ⟨nh, hgo⟩ := hway (KG R (σ.begun R i X bg js').st) (StL ((⟨X, 0, none⟩, .pointer (some ⟨R.A, 0, none⟩)) :: plA R.A R.wch R.ech)) w2.heap.size w2 (fun w h y hy => h.2.1.1 y (plS y hy)) (fun y hy => ⟨⟨y, hy, rfl⟩, (G1.st y (plS y hy)).2.2.1⟩); refine At3.hire (es := #[]) GG1 (by omega) hrun (fun d m _ => hstep _) (by simp) (sh := seat0 R.wch R.ech (HomeA R.A R.wch R.ech (R.cR :: R.csR))) (Sth := StL ((⟨X, 0, none⟩, .pointer (some ⟨R.A, 0, none⟩)) :: plA R.A R.wch R.ech)) (nh := nh + 1) (seat0_wf H.gne2 _) (fun l hl' => ⟨stl_mem hl', fun z => ?_⟩) (.inl ⟨nh, w2, rfl, hgo⟩) (fun c' hc' => ?_) (fun g' s' c' h1 h2 h3 h4 => ?_) ?_ ?_
  · obtain ⟨y, hy, rfl⟩ := hl'
    have := (G1.st y (plS y hy)).1; obtain ⟨A', _, z⟩ := z; rcases z with z | z <;> (simp at z; rw [z] at this; simp at this)
  · rcases seat0_has hc' with rfl | rfl
    · exact hcc _ (by simp [Rn.cc])
    · exact hcc _ (by simp [Rn.cc])
  · obtain ⟨j, q, hj, hq, hk, he⟩ := g.inj H h1 h2 h4
    have := (H.cb' hj).2.1; rcases seat0_has h3 with e | e <;> omega
  · cases e : σ.Inb σ.ng with
    | none => rfl
    | some s =>
      have n0 := g.ng0; obtain ⟨j, q, hj, hq, hk⟩ := g.inb _ s e (by omega); have := (g.pk j hj q hq).2.2.2.2.1; omega
  -- the task
  have hM0 : R.N ≤ w2.heap.size := by omega
  have k12 : Kp [] w w2 [⟨R.A, 0, none⟩, ⟨R.A, 1, none⟩] := k1.callN k2 (by simp) (by simp); have U2 : Keeps R.UG R.wR w2 := U1.kp k2 (fun a _ => by simp); have O2 : Keeps (R.own0 i) R.wR w2 := O1.kp k2 (fun a _ => by simp); have hJA : ∀ o, (⟨R.J, o, none⟩ : Addr) ∉ [(⟨R.A, 0, none⟩ : Addr), ⟨R.A, 1, none⟩] := fun o z => by simp at z <;> omega
  obtain ⟨kk, hkl, hrow⟩ := HW.row
  have hrA : ∀ g' ∈ rowL ev, ∀ y ∈ [(⟨R.A, 0, none⟩ : Addr), ⟨R.A, 1, none⟩], y.block ≠ g' := fun g' hg' y hy e => by
    have := (row_ge hrow hg').1
    simp at hy
    rcases hy with rfl | rfl <;> (dsimp only at e; omega)
  have hrl : ∀ g' ∈ rowL en, g' < w.heap.size := fun g' h => (Array.getElem?_eq_some_iff.1 (HW.ent.lt (mem_rowL.1 h)).2.choose_spec).1
  have hrv : ∀ g' ∈ rowL ev, g' < w.heap.size := fun g' h => (row_ge hrow h).2
  have hes : js'.map (ent R (upd σ.tk i (.live σ.ng))) = js'.map (ent R σ.tk) := ent_upd _ _ hij
  have rok2 : ∀ (a : Addr) (wr : Bool), a.block ∈ rowL en1 ∨ a.block ∈ rowL ev → OkG R (σ.begun R i X bg js').st (σ.begun R i X bg js').tk a wr := fun a wr h => by
    have h' : a.block ∈ rowL en ∨ a.block ∈ rowL ev := h.imp (hr1 _) id; have hlt : a.block < w.heap.size := h'.elim (hrl _) (hrv _); obtain ⟨q1, q2⟩ := ok_live (i := i) (κ := σ.ng) (HW.rok a wr h'); refine ⟨q1, fun hw => ?_⟩; obtain ⟨q3, q4, q5, q6⟩ := q2 hw; refine ⟨q3, fun ⟨y, hy, e⟩ => ?_, q5, q6⟩; simp only [Loc.cell.injEq] at e; rcases List.mem_cons.1 hy with rfl | hy
    · rw [e] at hlt; dsimp only at hlt; omega
    · rcases List.mem_cons.1 hy with rfl | hy
      · rw [e] at hlt; dsimp only at hlt; omega
      · exact q4 ⟨y, hy, by rw [e]⟩
  have G1t1 : (σ.begun R i X bg js').tk i = .live σ.ng := upd_same ..; have TOK := G1.tok H hi (tk1 := (σ.begun R i X bg js').tk) G1t1 (fun _ _ => rfl) hM0 (M0 := w2.heap.size) (X := X) (bt := bt) (by omega) (by omega); have hTug : ∀ o, o ≠ 7 → R.UG ⟨R.T i, o, none⟩ := fun o ho => ug_cb H hi (by simp [Rn.cb]) (fun _ => ho)
  have TWW : TW (eT R i w2.heap.size X bt) (OkG R (σ.begun R i X bg js').st (σ.begun R i X bg js').tk) w2 (R.s0 i) en1 ev (js'.map (ent R σ.tk)) m :=
    G1.tw H hi U2 hM0 (Nat.le_refl _) ⟨(O2 _ _ (.inr (.inr rfl)) (H.vT7 i hi).1).1, (O2 _ _ (.inr (.inr rfl)) (H.vT7 i hi).1).2.trans (H.vT7 i hi).2⟩ (k2.cell _ _ (by simp) b0) ((k2.froz _ _ (by simp) b0).trans z0) (k2.cell _ _ (by simp) b1) ((k2.froz _ _ (by simp) b1).trans z1) (k12.cellC _ _ (by simp) (hJA _) HW.j0) ((k12.frozC _ _ (by simp) (hJA _) HW.j0).trans HW.zj) (k2.ents he1 (fun g' hg' => ⟨by simp, by simp⟩)) ⟨kk, hkl, k12.row hrow fun g' hg' => ⟨by simp, hrA g' hg'⟩⟩ (fun g' h1 h2 => HW.sep g' h1 (hr1 g' h2)) rok2
      (rok_cb H hi (fun a ha => rok2 a true (.inl ha))) ⟨fun z => by have := hrl _ (hr1 _ z); omega, fun z => by have := hrv _ z; omega⟩ ⟨fun z => by have := hrl _ (hr1 _ z); omega, fun z => by have := hrv _ z; omega⟩
  have W := futU_t (Post := Post) (M0 := w2.heap.size) (X := X) (bt := bt) (κ := σ.ng) (bg := bg) H IH hi; have hlen : js'.length ≤ (js'.map fun j => (σ.tk j).wt).sum := len_le js' _ (fun j hj => ((g.mem j).1 (by rw [hjs]; exact List.mem_cons_of_mem _ hj)).2); have n9 := H.n9
  let P : Ph Gs := { Ok := OkG R (σ.begun R i X bg js').st (σ.begun R i X bg js').tk, M := w2.heap.size, es := js'.map (ent R σ.tk), cn := 2 * R.n - Λ, sd := false, σ := σ.begun R i X bg js' }
  have hwtB : (σ.begun R i X bg js').wt + 2 = Λ := by
    show (js'.map fun j => (upd σ.tk i (.live σ.ng) j).wt).sum + 2 = Λ
    rw [sum_upd _ _ _ hij]; exact hwt2
  have ush : ¬ ShL R.l (.cell ⟨0, 0, none⟩) := sh_off (by decide) (by decide)
  have BI : BIn (eT R i w2.heap.size X bt) (StT R i X bt) w2.heap.size P R.B R.HD (R.s0 i) (R.k0 i) (R.k1 i) (R.k2 i) en1 ev m w2 :=
    { ok := TOK, tw := TWW, hM := Nat.le_refl _, hMM := rfl, hN := Nat.le_refl _
      he9 := by show (js'.map (ent R σ.tk)).length < 900; rw [List.length_map]; omega
      hc9 := by show 2 * R.n - Λ < 800; omega
      hsd := rfl
      hm := by show m.length = 5 * (2 * R.n - Λ); omega
      hSt := fun a ha => stt_sb H hi a ha (by omega) (by omega)
      lB := by show R.B < R.N; omega
      sH := by show R.HD ∈ _; simp [Rn.gb]
      nB := by show R.J ≠ R.B; omega
      nBH := by omega
      nH := ⟨by show R.HD ≠ R.A; omega, by show R.HD ≠ R.T i; omega, by show R.HD ≠ R.J; omega⟩
      b1 := (U2 _ _ (ug_gb H (.inl rfl)) H.vB1).1
      b2 := (U2 _ _ (ug_gb H (.inl rfl)) H.vB2).1
      sB1 := .inr (.inl (by simp))
      sB2 := .inr (.inl (by simp))
      oB := fun p' o K => K.st _ (sh_blk H (by show _ ≤ R.B; omega) (by show R.B ≠ _; omega))
      hnx := fun w3 k3 => by
        have s3 := k3.size; refine H.nx i hi _ w3 (fun a ha => ⟨ha, fun h => by cases h⟩) ?_ (fun a wr h => TOK.fr a wr (Nat.le_trans s3 h)) (fun a v ha => k3.cell _ _ (by simp) (hK2.1.cell a v ha)) (fun a v hb hv => k3.cell _ _ (by simp) (U2 a v ?_ hv).1) (by omega) (k3.cell _ _ (by simp) (O2 _ _ (.inr (.inl rfl)) (H.vH i hi).1).1) ((k3.froz _ _ (by simp) (O2 _ _ (.inr (.inl rfl)) (H.vH i hi).1).1).trans ((O2 _ _ (.inr (.inl rfl)) (H.vH i hi).1).2.trans (H.vH i hi).2))
        · refine G1.okw H G1t1 (fun _ _ => rfl) (by show R.HD < R.N; omega) (by show _ ≤ R.HD; omega) (sh_blk H (by show _ ≤ R.HD; omega) (by show R.HD ≠ _; omega)) (fun y hy e => ?_) (fun u => u.2.2.2.2.2.1 rfl) (fun j hj hji o => ?_) true
          · rcases st0_blk hy with ⟨z, _⟩ | ⟨j, hj, z⟩
            · rw [e] at z; dsimp only at z; omega
            · have := (H.cb' hj).1; have e1 : R.HD = R.T j := congrArg Addr.block (e.symm.trans z); omega
          · have := (H.cb' hj).1
            rcases o with o | o | o
            · have e1 : R.HD = R.O := (out_blk o).1; omega
            · have e1 : i = j := congrArg Addr.off o; exact hji e1.symm
            · have e1 : R.HD = R.T j := congrArg Addr.block o; omega
        · obtain ⟨ab, ao, asp⟩ := a
          dsimp only at hb; subst hb; refine ug_of H (by show _ ≤ R.B; omega) (by show R.B < _; omega) (by show R.B ≠ _; omega) (by show R.B ≠ _; omega) (by show R.B ≠ _; omega) (fun z => by have z' : R.B = R.A := z; omega)
      hkd := (H.kd i hi).1
      htk := (H.kd i hi).2.1
      hwr := (H.kd i hi).2.2 }
  have CP : CohP R i σ.ng bg X bt w2.heap.size P :=
    { ok := rfl, good := G1, lv := G1t1
      oth := fun j hj e => by show (upd σ.tk i (.live σ.ng) j).lv = false; rw [upd_ne _ _ e]; exact hlv j hj
      es := hes.symm
      cn := by show 2 * R.n - Λ + 2 + (σ.begun R i X bg js').wt = 2 * R.n; omega
      i0 := upd_same σ.Inb 0 (some (seat0 R.wch R.ech (HomeA R.A R.wch R.ech (R.cR :: R.csR))))
      κ0 := g.ng0
      κn := Nat.lt_succ_self _
      κp := fun j hj q hq => by
        have hq' : upd σ.tk i (.live σ.ng) j = .parked q := hq
        by_cases e : j = i
        · rw [e, upd_same] at hq'; cases hq'
        · rw [upd_ne _ _ e] at hq'
          have := (g.pk j hj q hq').2.2.2.2.1; omega
      L := by
        show σ.L + 1 = (js'.map fun j => (upd σ.tk i (.live σ.ng) j).pk).sum + 1
        rw [sum_upd _ _ _ hij, hpk2, hL]
      bg := List.mem_cons_of_mem _ (List.mem_cons_self ..)
      bx := fun j hj e a u => by
        have u' : (upd σ.tk i (.live σ.ng) j).U R j a := u; rw [upd_ne _ _ e] at u'; have := (g.ow j hj a u').2; omega
      xx := fun j hj q hq => by
        have hq' : upd σ.tk i (.live σ.ng) j = .parked q := hq
        by_cases e : j = i
        · rw [e, upd_same] at hq'; cases hq'
        · rw [upd_ne _ _ e] at hq'
          have := (g.st _ (g.pk j hj q hq').1).2.2.1; dsimp only at this; omega
      bN := ⟨by omega, by omega⟩
      sM := fun _ => Nat.le_refl _ }
  have hOut := H.vO i hi; have z0' : OutAt w2 R.O i 0 0 0 none 0 0 := ⟨(O2 _ _ (.inl (by simp [outC])) hOut.1.c0).1, (O2 _ _ (.inl (by simp [outC])) hOut.1.c1).1, (O2 _ _ (.inl (by simp [outC])) hOut.1.c2).1, (O2 _ _ (.inl (by simp [outC])) hOut.1.c3).1⟩
  have zf' : ∀ y ∈ outC R.O i, w2.frozen? y = false := fun y hy => by
    have hv : ∃ v, R.wR.cell? y = some v := by
      simp [outC] at hy; rcases hy with rfl | rfl | rfl | rfl
      · exact ⟨_, hOut.1.c0⟩
      · exact ⟨_, hOut.1.c1⟩
      · exact ⟨_, hOut.1.c2⟩
      · exact ⟨_, hOut.1.c3⟩
    obtain ⟨v, hv⟩ := hv; exact (O2 _ _ (.inl hy) hv).2.trans (hOut.2 y hy)
  have T := task_u W P bg bf bw bt X R.B R.HD R.O R.bo (R.bi i) R.bl R.n (R.s0 i) (R.k0 i) (R.k1 i) (R.k2 i) en1 ev m w2 BI (.inl rfl) ush (hK2.1.cell _ _ H.vG) hi (U2 _ _ (ug_gb H (.inr (.inl rfl))) H.vbo).1 (U2 _ _ (ug_cb H hi (by simp [Rn.cb]) (fun e => absurd e.symm hce.2.1)) (H.vbi i hi)).1 (U2 _ _ (ug_gb H (.inr (.inr rfl))) H.vbl).1
    (.inr (.inl (by simp))) (.inr (.inl (by simp [eT]))) (.inr (.inl (by simp))) (sh_off (by decide) (by decide)) (sh_off (by decide) (by decide)) (sh_off (by decide) (by decide)) z0' zf' (fun y hy => ⟨.inr (.inr (.inl hy)), hy⟩) cbf cbw cbt cX (.inr (.inr (.inr (.inr rfl)))) (.inr (.inr (.inr (.inl rfl)))) (sh_off (by decide) (by decide)) (sh_off (by decide) (by decide)) (sh_off (by decide) (by decide)) (sh_off (by decide) (by decide))
    (fun y hy => by
      simp only [List.mem_cons, List.not_mem_nil, or_false] at hy; rcases hy with rfl | rfl | rfl | rfl
      · omega
      · omega
      · show R.T i ≠ R.O; omega
      · show R.A ≠ R.O; omega) (fun y hy => by
      simp only [List.mem_cons, List.not_mem_nil, or_false] at hy; rcases hy with rfl | rfl | rfl
      · show _ ≠ R.T i; omega
      · show _ ≠ R.T i; omega
      · show R.A ≠ R.T i; omega)
    (fun p' gE a b c' x k cap w2' w3 w4 en' ev' m' hE hD hO k3 hO3 k4 => end_t H IH hi p' gE a b c' x k cap w2' w3 w4 w2 en1 ev en' ev' m' hE hD hO k3 hO3 k4)
  have hlcP : lc P + 1 = Λ := by show (σ.begun R i X bg js').wt + (if false = true then 0 else 1) + 1 = Λ; simp; omega
  have key := T CP (by omega) (fun j hj q hq => by
    have hq' : upd σ.tk i (.live σ.ng) j = .parked q := hq
    by_cases e : j = i
    · rw [e, upd_same] at hq'; cases hq'
    · rw [upd_ne _ _ e] at hq'
      exact Res.mono (by omega) (hrs j hj q hq'))
  exact key
end
end Go.Proofs.YtobagnjnbmgidaaGreatDoor
