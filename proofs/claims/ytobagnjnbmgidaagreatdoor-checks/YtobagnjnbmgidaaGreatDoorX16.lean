/- The backend. -/
import Derived.Test.YtobagnjnbmgidaaGreatDoorX15
set_option linter.unusedSimpArgs false
set_option linter.unusedVariables false
namespace Go.Proofs.YtobagnjnbmgidaaGreatDoor
open Go.Conc Go.RowKit
variable {Ok : Addr → Bool → Prop}

/-- A stretch of a task's run: what it has left of the world, and where its rows lie. -/
structure Ru (e : Env) (HD : Nat) (w : World) (en ev : Value) (w' : World) (en' ev' : Value) : Prop where
  kp : Kp (e.J :: HD :: (rowL ev ++ rowL en)) w w' [⟨e.A, 0, none⟩, ⟨e.A, 1, none⟩, ⟨e.T, 4, none⟩]
  rev : ∀ g ∈ rowL ev', g ∈ rowL ev ∨ w.heap.size ≤ g
  ren : ∀ g ∈ rowL en', g ∈ rowL en ∨ w.heap.size ≤ g

section
variable {e : Env} {HD : Nat} {w w1 w2 w' : World} {en ev en1 ev1 en2 ev2 en' ev' : Value} {now : Int} {m : Nat}
theorem Ru.refl : Ru e HD w en ev w en ev := ⟨Kp.refl _, fun _ h => .inl h, fun _ h => .inl h⟩
theorem Ru.trans (h : Ru e HD w en ev w1 en1 ev1) (h' : Ru e HD w1 en1 ev1 w2 en2 ev2) : Ru e HD w en ev w2 en2 ev2 := by
  have hs := h.kp.size
  refine ⟨h.kp.callN h'.kp (fun x hx => ?_) (fun x hx => .inl hx), fun g hg => ?_, fun g hg => ?_⟩
  · simp only [List.mem_cons, List.mem_append] at hx ⊢
    rcases hx with hx | hx | hx | hx
    · exact .inl (.inl hx)
    · exact .inl (.inr (.inl hx))
    · rcases h.rev x hx with y | y
      · exact .inl (.inr (.inr (.inl y)))
      · exact .inr y
    · rcases h.ren x hx with y | y
      · exact .inl (.inr (.inr (.inr y)))
      · exact .inr y
  · rcases h'.rev g hg with y | y
    · exact h.rev g y
    · exact .inr (by omega)
  · rcases h'.ren g hg with y | y
    · exact h.ren g y
    · exact .inr (by omega)
theorem Ru.own {L : List Nat} (k : Kp L w w') (hL : ∀ x ∈ L, x = e.J ∨ x = HD) : Ru e HD w en ev w' en ev :=
  ⟨k.old (fun x hx => by rcases hL x hx with rfl | rfl <;> simp) (by simp), fun _ h => .inl h, fun _ h => .inl h⟩
theorem Ru.tell (k : Kp (e.J :: rowL ev) w w') (h : ∀ g ∈ rowL ev', g ∈ rowL ev ∨ w.heap.size ≤ g) : Ru e HD w en ev w' en ev' :=
  ⟨k.old (fun x hx => by rcases List.mem_cons.1 hx with rfl | hx; exact .inl (List.mem_cons_self ..); exact .inl (List.mem_cons_of_mem _ (List.mem_cons_of_mem _ (List.mem_append_left _ hx)))) (by simp), h, fun _ h => .inl h⟩
theorem Ru.wait {C : List Addr} (k : Kp (rowL en) w w' C) (hC : ∀ x ∈ C, x ∈ [(⟨e.A, 0, none⟩ : Addr), ⟨e.A, 1, none⟩, ⟨e.T, 4, none⟩]) (h : ∀ g ∈ rowL en', g ∈ rowL en ∨ w.heap.size ≤ g) : Ru e HD w en ev w' en' ev :=
  ⟨k.old (fun x hx => .inl (by simp [hx])) (fun x hx => .inl (hC x hx)), fun _ h => .inl h, h⟩
/-- What lies elsewhere stays. -/
theorem Ru.stat (r : Ru e HD w en ev w' en' ev') (H : CW e w now en ev m) {b i : Nat} {v : Value} (hb : b < e.N) (hJ : b ≠ e.J) (hH : b ≠ HD) (hA : b ≠ e.A) (hT : b ≠ e.T) (hc : w.cell? ⟨b, i, none⟩ = some v) : w'.cell? ⟨b, i, none⟩ = some v :=
  r.kp.cellC _ _ (fun z => by
    simp only [List.mem_cons, List.mem_append] at z
    rcases z with z | z | z | z
    · exact hJ z
    · exact hH z
    · have := (H.rowN z).1; omega
    · have := (H.entN z).1; omega) (fun z => by simp at z <;> omega) hc
theorem Ru.temp (r : Ru e HD w en ev w' en' ev') (K : EnvOk e Ok) (hHD : HD < e.N) {b i : Nat} {v : Value} (hb : e.N ≤ b) (h1 : b ∉ rowL ev) (h2 : b ∉ rowL en) (hc : w.cell? ⟨b, i, none⟩ = some v) : w'.cell? ⟨b, i, none⟩ = some v ∧ w'.frozen? ⟨b, i, none⟩ = w.frozen? ⟨b, i, none⟩ ∧ b ∉ rowL ev' ∧ b ∉ rowL en' := by
  have l1 := K.lA
  have l2 := K.lT
  have l3 := K.lJ
  have hn : b ∉ e.J :: HD :: (rowL ev ++ rowL en) := fun z => by
    simp only [List.mem_cons, List.mem_append] at z
    rcases z with z | z | z | z
    · omega
    · omega
    · exact h1 z
    · exact h2 z
  have hcc : (⟨b, i, none⟩ : Addr) ∉ [(⟨e.A, 0, none⟩ : Addr), ⟨e.A, 1, none⟩, ⟨e.T, 4, none⟩] := fun z => by simp at z <;> omega
  have hlt := lt_of_cell hc
  refine ⟨r.kp.cellC _ _ hn hcc hc, r.kp.frozC _ _ hn hcc hc, fun z => ?_, fun z => ?_⟩
  · rcases r.rev b z with y | y
    · exact h1 y
    · dsimp only at hlt; omega
  · rcases r.ren b z with y | y
    · exact h2 y
    · dsimp only at hlt; omega
end

/-- The backend's blocks. -/
structure BkS (e : Env) (Ok : Addr → Bool → Prop) (B HD C TB : Nat) : Prop where
  lB : B < e.N
  lH : HD < e.N
  lC : C < e.N
  lT : TB < e.N
  bB : B ≠ HD ∧ B ≠ e.J ∧ B ≠ e.A ∧ B ≠ e.T
  bC : C ≠ HD ∧ C ≠ e.J ∧ C ≠ e.A ∧ C ≠ e.T
  bT : TB ≠ HD ∧ TB ≠ e.J ∧ TB ≠ e.A ∧ TB ≠ e.T
  bH : HD ≠ e.J ∧ HD ≠ e.A ∧ HD ≠ e.T
  ok : ∀ a wr, a.block = B ∨ a.block = HD ∨ a.block = C ∨ a.block = TB → Ok a wr
structure Bk (e : Env) (B HD C TB n : Nat) (tt : Nat → Int × Int × Int) (w : World) (k : Nat) : Prop where
  b1 : w.cell? ⟨B, 1, none⟩ = some (.int .i64 (-1))
  b2 : w.cell? ⟨B, 2, none⟩ = some (.pointer (some ⟨e.J, 0, none⟩))
  b3 : w.cell? ⟨B, 3, none⟩ = some (.slice (some ⟨C, 0, none⟩) 1 1)
  b4 : w.cell? ⟨B, 4, none⟩ = some (.slice (some ⟨HD, 0, none⟩) 1 1)
  c1 : w.cell? ⟨C, 1, none⟩ = some (.slice (some ⟨TB, 0, none⟩) n n)
  h0 : w.cell? ⟨HD, 0, none⟩ = some (.int .i64 k)
  zh : w.frozen? ⟨HD, 0, none⟩ = false
  tb : ∀ i, i < n → w.cell? ⟨TB, i * 3, none⟩ = some (.int .i64 (tt i).1) ∧ w.cell? ⟨TB, i * 3 + 1, none⟩ = some (.int .i64 (tt i).2.1) ∧ w.cell? ⟨TB, i * 3 + 2, none⟩ = some (.int .i64 (tt i).2.2)

theorem Bk.ru {e : Env} {B HD C TB n : Nat} {tt : Nat → Int × Int × Int} {w w' : World} {k k' : Nat} {en ev en' ev' : Value} {now : Int} {m : Nat} (S : BkS e Ok B HD C TB) (h : Bk e B HD C TB n tt w k) (r : Ru e HD w en ev w' en' ev') (H : CW e w now en ev m) (hh : w'.cell? ⟨HD, 0, none⟩ = some (.int .i64 k')) (zh : w'.frozen? ⟨HD, 0, none⟩ = false) : Bk e B HD C TB n tt w' k' :=
  ⟨r.stat H S.lB S.bB.2.1 S.bB.1 S.bB.2.2.1 S.bB.2.2.2 h.b1, r.stat H S.lB S.bB.2.1 S.bB.1 S.bB.2.2.1 S.bB.2.2.2 h.b2, r.stat H S.lB S.bB.2.1 S.bB.1 S.bB.2.2.1 S.bB.2.2.2 h.b3, r.stat H S.lB S.bB.2.1 S.bB.1 S.bB.2.2.1 S.bB.2.2.2 h.b4,
    r.stat H S.lC S.bC.2.1 S.bC.1 S.bC.2.2.1 S.bC.2.2.2 h.c1, hh, zh, fun i hi => ⟨r.stat H S.lT S.bT.2.1 S.bT.1 S.bT.2.2.1 S.bT.2.2.2 (h.tb i hi).1, r.stat H S.lT S.bT.2.1 S.bT.1 S.bT.2.2.1 S.bT.2.2.2 (h.tb i hi).2.1, r.stat H S.lT S.bT.2.1 S.bT.1 S.bT.2.2.1 S.bT.2.2.2 (h.tb i hi).2.2⟩⟩
/-- The place of the counter, over what does not write it. -/
theorem Bk.had {e : Env} {HD : Nat} {L : List Nat} {C : List Addr} {w w' : World} {v : Value} (hH : HD < e.N ∧ HD ≠ e.J ∧ HD ≠ e.A ∧ HD ≠ e.T) (k : Kp L w w' C) (hL : ∀ x ∈ L, x = e.J ∨ e.N ≤ x) (hC : ∀ x ∈ C, x.block = e.A ∨ x.block = e.T) (h : w.cell? ⟨HD, 0, none⟩ = some v) (z : w.frozen? ⟨HD, 0, none⟩ = false) : w'.cell? ⟨HD, 0, none⟩ = some v ∧ w'.frozen? ⟨HD, 0, none⟩ = false := by
  have h1 : HD ∉ L := fun z => by have := hL _ z; omega
  have h2 : (⟨HD, 0, none⟩ : Addr) ∉ C := fun z => by have := hC _ z; simp only at this; omega
  exact ⟨k.cellC _ _ h1 h2 h, (k.frozC _ _ h1 h2 h).trans z⟩

set_option maxRecDepth 100000 in
set_option maxHeartbeats 8000000 in
theorem bV_w (e : Env) (K : EnvOk e Ok) (hcl : e.cl = 0) (now nn tk : Int) (en ev : Value) (m : Nat) (B HD C TB n k : Nat) (tt : Nat → Int × Int × Int) (w0 : World) (H : CW e w0 now en ev m) (hm : m < 900) (S : BkS e Ok B HD C TB) (Q : Bk e B HD C TB n tt w0 k) (hk : k < n) (hwk : IntKind.i64.wrap ((k : Int) + 1) = k + 1) (hkd : (tt k).1 = 1) (hnn : (tt k).2.1 = nn) (htt : (tt k).2.2 = tk) (htk : (0 : Int) < tk) (hwr : IntKind.i64.wrap (now + tk) = now + tk) :
    CallsW e Ok 146 #[.pointer (some ⟨B, 0, none⟩), .pointer (some ⟨e.T, 0, none⟩)] w0 fun v w' => ∃ en' ev', CW e w' (now + tk) en' ev' (m + 2) ∧ Bk e B HD C TB n tt w' (k + 1) ∧ Ru e HD w0 en ev w' en' ev' ∧ (v = .tuple #[.int .i64 nn, .nilIface]) := by
  intro Ψ0 Ψ1 W c cs hc
  have F := W.f0
  have l1 := K.lA
  have l2 := K.lT
  have l3 := K.lJ
  have l4 := S.lH
  have s1 := S.bH
  have s2 := S.bB
  have hsz := H.size
  have hsX := H.sX
  have hnX := H.nX
  have hfr : ∀ (a : Addr) (wr : Bool), e.X + 1 ≤ a.block → Ok a wr := fun a wr h => K.fr a wr (by omega) (by omega)
  have sB := S.lB
  have sH := S.lH
  have sC := S.lC
  have sT := S.lT
  have ht2 := H.t2
  rw [hcl] at ht2
  have okt2 := K.t2
  obtain ⟨q1, q2, q3⟩ := Q.tb k hk
  rw [hkd] at q1
  rw [hnn] at q2
  rw [htt] at q3
  rw [enter_at _ Tryz.func146 rfl]
  simp only [Tryz.ntmps146, List.size_toArray, List.length_cons, List.length_nil, Nat.reduceAdd, Nat.reduceSub, Array.replicate_succ, Array.replicate_zero, List.push_toArray, List.append_toArray, List.nil_append, List.cons_append]
  refine F.sr ?_
  simp only [rg, Nat.reduceAdd]
  iterate 2 (refine F.oq rfl rfl rfl (fun _ => by simp [go_sem]) fun d K hK => ?_; go_simp; refine hK _ ?_; clear hK K d; try walk_nrm)
  refine F.esr ?_
  simp only [rg, Nat.reduceAdd]
  iterate 2 (refine F.oq rfl rfl rfl (fun _ => by simp [go_sem]) fun d K hK => ?_; go_simp; refine hK _ ?_; clear hK K d; try walk_nrm)
  refine F.enter rfl rfl (by decide) (fun _ => run_call_body rfl Tryz.func148 (by rfl) (by rfl)) (fun _ => events_call_body rfl Tryz.func148 (by rfl) (by rfl) _) ?_
  walk_nrm
  refine client_x e.T 0 w0 ht2 okt2 _ F _ _ (fun v wq hp => ?_)
  obtain ⟨rfl, hq⟩ := hp
  have hq := hq.symm
  subst hq
  rw [Frame.finish_at]
  try walk_nrm
  refine F.enter rfl rfl (by decide) (fun _ => run_call_body rfl Tryz.func147 (by rfl) (by rfl)) (fun _ => events_call_body rfl Tryz.func147 (by rfl) (by rfl) _) ?_
  walk_nrm
  refine next_x (e.X + 1) B HD C TB k n 1 nn tk w0 (by omega) (by omega) hwk (by omega) (by omega) (by omega) (by omega) (by omega) S.bB.1 S.bC.1 S.bT.1 Q.b4 Q.b3 Q.h0 Q.zh Q.c1 q1 q2 q3 S.ok hfr _ F _ _ (fun v w1 hp => ?_)
  obtain ⟨rfl, kn, hh, zh⟩ := hp
  have kp : Kp [HD] w0 w1 := kn
  have hs1 := kn.size
  rw [Frame.finish_at]
  try walk_nrm
  iterate 3 (refine F.oq rfl rfl rfl (fun _ => by simp [go_sem]) fun d K hK => ?_; go_simp; refine hK _ ?_; clear hK K d; try walk_nrm)
  refine F.op rfl rfl (by decide) (fun d K hK => ?_)
  go_simp
  rw [alloc_at']
  refine hK _ _ ⟨DX.alloc _ _ (fun e he => ?_), ?_⟩
  · have hm := mem_listed he
    simp [go_sem] at hm
  clear hK K d
  try walk_nrm
  generalize ew2 : World.alloc w1 _ = w2
  generalize hn2 : (World.heap w1).size = n2
  have sz2 := sz_al ew2 hn2
  replace zh := fz_al zh hh ew2
  replace hh := cl_al hh ew2
  have hu0 := cl_new (i := 0) ew2 hn2 rfl
  try simp only [List.getElem_toArray, List.getElem_cons_zero, List.getElem_cons_succ] at hu0
  have zu0 := fz_new ew2 hn2 0
  have hu1 := cl_new (i := 1) ew2 hn2 rfl
  try simp only [List.getElem_toArray, List.getElem_cons_zero, List.getElem_cons_succ] at hu1
  have zu1 := fz_new ew2 hn2 1
  have hu2 := cl_new (i := 2) ew2 hn2 rfl
  try simp only [List.getElem_toArray, List.getElem_cons_zero, List.getElem_cons_succ] at hu2
  have zu2 := fz_new ew2 hn2 2
  replace kp := kp.alN ew2
  refine F.oq rfl rfl rfl (fun _ => by simp [go_sem]) fun d K hK => ?_; go_simp; refine hK _ ?_; clear hK K d; try walk_nrm
  refine F.op rfl rfl (by decide) (fun d K hK => ?_)
  go_simp
  repeat rw [setCell_at']
  refine hK _ _ ⟨DX.set3 _ (by (first | assumption | (apply hfr <;> dsimp only <;> omega) | (apply hok; simp; done))) (by (first | assumption | (apply hfr <;> dsimp only <;> omega) | (apply hok; simp; done))) (by (first | assumption | (apply hfr <;> dsimp only <;> omega) | (apply hok; simp; done))) (fun e he => ?_), ?_⟩
  · have hm := mem_listed he
    simp [go_sem, storedEv, evst_slice, evst_ptr, evst_iface, evst_nil, evst_bool, *] at hm
    rcases hm with rfl | rfl | rfl <;> exact .inl ⟨_, rfl, rfl, by (first | assumption | (apply hfr <;> dsimp only <;> omega) | (apply hok; simp; done)), by show _ < (World.setCell _ _ _).heap.size; simp [World.setCell]; first | omega | exact lt_of_cell (by assumption)⟩
  clear hK K d
  try walk_nrm
  generalize ew3 : World.setCell w2 _ _ = w3
  have sz3 := sz_st ew3
  replace zh := fz_st zh ew3
  replace zu0 := fz_st zu0 ew3
  replace zu1 := fz_st zu1 ew3
  replace zu2 := fz_st zu2 ew3
  replace hh := cl_st hh ew3 (by first | (intro e; simp at e; done) | (intro e; simp at e; omega))
  replace hu0 := cl_st' hu0 ew3
  replace hu1 := cl_st hu1 ew3 (by first | (intro e; simp at e; done) | (intro e; simp at e; omega))
  replace hu2 := cl_st hu2 ew3 (by first | (intro e; simp at e; done) | (intro e; simp at e; omega))
  replace kp := kp.stN ew3 (by first | (left; simp; done) | (right; left; simp; done) | (right; right; dsimp only; omega))
  generalize ew4 : World.setCell w3 _ _ = w4
  have sz4 := sz_st ew4
  replace zh := fz_st zh ew4
  replace zu0 := fz_st zu0 ew4
  replace zu1 := fz_st zu1 ew4
  replace zu2 := fz_st zu2 ew4
  replace hh := cl_st hh ew4 (by first | (intro e; simp at e; done) | (intro e; simp at e; omega))
  replace hu0 := cl_st hu0 ew4 (by first | (intro e; simp at e; done) | (intro e; simp at e; omega))
  replace hu1 := cl_st' hu1 ew4
  replace hu2 := cl_st hu2 ew4 (by first | (intro e; simp at e; done) | (intro e; simp at e; omega))
  replace kp := kp.stN ew4 (by first | (left; simp; done) | (right; left; simp; done) | (right; right; dsimp only; omega))
  generalize ew5 : World.setCell w4 _ _ = w5
  have sz5 := sz_st ew5
  replace zh := fz_st zh ew5
  replace zu0 := fz_st zu0 ew5
  replace zu1 := fz_st zu1 ew5
  replace zu2 := fz_st zu2 ew5
  replace hh := cl_st hh ew5 (by first | (intro e; simp at e; done) | (intro e; simp at e; omega))
  replace hu0 := cl_st hu0 ew5 (by first | (intro e; simp at e; done) | (intro e; simp at e; omega))
  replace hu1 := cl_st hu1 ew5 (by first | (intro e; simp at e; done) | (intro e; simp at e; omega))
  replace hu2 := cl_st' hu2 ew5
  replace kp := kp.stN ew5 (by first | (left; simp; done) | (right; left; simp; done) | (right; right; dsimp only; omega))
  refine F.re ?_
  have H5 : CW e w5 now en ev m := H.keep kp (by intro x hx; simp at hx; subst hx; left; omega) l1 l2 l3 (by simp)
  have r5 : Ru e HD w0 en ev w5 en ev := Ru.own kp (by simp)
  have Q5 : Bk e B HD C TB n tt w5 (k + 1) := Q.ru S r5 H (by rw [hh]; simp) zh
  refine F.sr ?_
  simp only [rg, Nat.reduceAdd]
  iterate 5 (refine F.oq rfl rfl rfl (fun _ => by simp [go_sem]) fun d K hK => ?_; go_simp; refine hK _ ?_; clear hK K d; try walk_nrm)
  refine F.enter rfl rfl (by decide) (fun _ => run_call_body rfl Tryz.func149 (by rfl) (by rfl)) (fun _ => events_call_body rfl Tryz.func149 (by rfl) (by rfl) _) ?_
  walk_nrm
  refine tell_w e K now en ev m w5 H5 (by omega) B (-1) 1 k S.lB (Ne.symm s2.2.1) Q5.b1 Q5.b2 (S.ok _ _ (by simp)) (S.ok _ _ (by simp)) _ F _ _ (fun v w6 hp => ?_)
  obtain ⟨rfl, ev1, H6, k6, v6⟩ := hp
  have r6 : Ru e HD w5 en ev w6 en ev1 := Ru.tell k6 v6
  have n5 : n2 ∉ rowL ev := fun z => by have := (H.rowN z).2; omega
  have n5' : n2 ∉ rowL en := fun z => by have := (H.entN z).2; omega
  obtain ⟨f0, f0', g1, g2⟩ := r6.temp K S.lH (by omega) n5 n5' hu0
  obtain ⟨f1, f1', _⟩ := r6.temp K S.lH (by omega) n5 n5' hu1
  obtain ⟨f2, f2', _⟩ := r6.temp K S.lH (by omega) n5 n5' hu2
  have Q6 : Bk e B HD C TB n tt w6 (k + 1) := Q5.ru S r6 H5 (Bk.had (e := e) ⟨S.lH, S.bH⟩ k6 (fun x hx => by simp at hx; rcases hx with y | y; exact .inl y; exact .inr (H.rowN y).1) (by simp) Q5.h0 Q5.zh).1 (Bk.had (e := e) ⟨S.lH, S.bH⟩ k6 (fun x hx => by simp at hx; rcases hx with y | y; exact .inl y; exact .inr (H.rowN y).1) (by simp) Q5.h0 Q5.zh).2
  have hs6 := k6.size
  clear hu0 hu1 hu2 zu0 zu1 zu2 hh zh
  rw [Frame.finish_at]
  try walk_nrm
  refine F.es ?_
  refine F.sr ?_
  simp only [rg, Nat.reduceAdd]
  refine F.oq rfl rfl rfl (fun _ => by simp [go_sem]) fun d K hK => ?_; go_simp; refine hK _ ?_; clear hK K d; try walk_nrm
  refine F.op rfl rfl (by decide) (fun d K hK => ?_)
  go_simp
  refine hK _ _ ⟨DX.still _ (fun e he => ?_), ?_⟩
  · have hm := mem_listed he
    simp [go_sem, *] at hm
    subst hm
    exact .inl ⟨_, rfl, rfl, by (first | assumption | (apply hfr <;> dsimp only <;> omega) | (apply hok; simp; done)), lt_of_cell (w := w6) (by assumption)⟩
  clear hK K d
  try walk_nrm
  refine F.oq rfl rfl rfl (fun _ => by simp [go_sem]) fun d K hK => ?_; go_simp; refine hK _ ?_; clear hK K d; try walk_nrm
  refine F.re ?_
  refine F.ct rfl ?_
  refine F.rr ?_
  simp only [rg, Nat.reduceAdd]
  iterate 2 (refine F.oq rfl rfl rfl (fun _ => by simp [go_sem]) fun d K hK => ?_; go_simp; refine hK _ ?_; clear hK K d; try walk_nrm)
  refine F.op rfl rfl (by decide) (fun d K hK => ?_)
  go_simp
  refine hK _ _ ⟨DX.still _ (fun e he => ?_), ?_⟩
  · have hm := mem_listed he
    simp [go_sem, *] at hm
    subst hm
    exact .inl ⟨_, rfl, rfl, by (first | assumption | (apply hfr <;> dsimp only <;> omega) | (apply hok; simp; done)), lt_of_cell (w := w6) (by assumption)⟩
  clear hK K d
  try walk_nrm
  refine F.enter rfl rfl (by decide) (fun _ => run_call_body rfl Tryz.func150 (by rfl) (by rfl)) (fun _ => events_call_body rfl Tryz.func150 (by rfl) (by rfl) _) ?_
  walk_nrm
  refine sleep_w e K now tk en ev1 (m + 1) w6 H6 hwr Ψ0 Ψ1 W _ _ (fun v w7 hp => ?_)
  obtain ⟨rfl, en1, H7, k7, v7⟩ := hp
  have r7 : Ru e HD w6 en ev1 w7 en1 ev1 := Ru.wait k7 (by simp) v7
  obtain ⟨f0, _, g1, g2⟩ := r7.temp K S.lH (by omega) g1 g2 f0
  obtain ⟨f1, _, _⟩ := r7.temp K S.lH (by omega) (by assumption) (by assumption) f1
  have Q7 : Bk e B HD C TB n tt w7 (k + 1) := Q6.ru S r7 H6 (Bk.had (e := e) ⟨S.lH, S.bH⟩ k7 (fun x hx => .inr (H6.entN hx).1) (by simp) Q6.h0 Q6.zh).1 (Bk.had (e := e) ⟨S.lH, S.bH⟩ k7 (fun x hx => .inr (H6.entN hx).1) (by simp) Q6.h0 Q6.zh).2
  have hs7 := k7.size
  rw [Frame.finish_at]
  try walk_nrm
  refine F.esr ?_
  simp only [rg, Nat.reduceAdd]
  iterate 5 (refine F.oq rfl rfl rfl (fun _ => by simp [go_sem]) fun d K hK => ?_; go_simp; refine hK _ ?_; clear hK K d; try walk_nrm)
  refine F.enter rfl rfl (by decide) (fun _ => run_call_body rfl Tryz.func149 (by rfl) (by rfl)) (fun _ => events_call_body rfl Tryz.func149 (by rfl) (by rfl) _) ?_
  walk_nrm
  refine tell_w e K (now + tk) en1 ev1 (m + 1) w7 H7 (by omega) B (-1) 2 k S.lB (Ne.symm s2.2.1) Q7.b1 Q7.b2 (S.ok _ _ (by simp)) (S.ok _ _ (by simp)) _ F _ _ (fun v w8 hp => ?_)
  obtain ⟨rfl, ev2, H8, k8, v8⟩ := hp
  have r8 : Ru e HD w7 en1 ev1 w8 en1 ev2 := Ru.tell k8 v8
  obtain ⟨f0, _, g1, g2⟩ := r8.temp K S.lH (by omega) (by assumption) (by assumption) f0
  obtain ⟨f1, _, _⟩ := r8.temp K S.lH (by omega) (by assumption) (by assumption) f1
  have Q8 : Bk e B HD C TB n tt w8 (k + 1) := Q7.ru S r8 H7 (Bk.had (e := e) ⟨S.lH, S.bH⟩ k8 (fun x hx => by simp at hx; rcases hx with y | y; exact .inl y; exact .inr (H7.rowN y).1) (by simp) Q7.h0 Q7.zh).1 (Bk.had (e := e) ⟨S.lH, S.bH⟩ k8 (fun x hx => by simp at hx; rcases hx with y | y; exact .inl y; exact .inr (H7.rowN y).1) (by simp) Q7.h0 Q7.zh).2
  have hs8 := k8.size
  have r : Ru e HD w0 en ev w8 en1 ev2 := r5.trans (r6.trans (r7.trans r8))
  rw [Frame.finish_at]
  try walk_nrm
  refine F.es ?_
  refine F.sr ?_
  simp only [rg, Nat.reduceAdd]
  refine F.oq rfl rfl rfl (fun _ => by simp [go_sem]) fun d K hK => ?_; go_simp; refine hK _ ?_; clear hK K d; try walk_nrm
  refine F.op rfl rfl (by decide) (fun d K hK => ?_)
  go_simp
  refine hK _ _ ⟨DX.still _ (fun e he => ?_), ?_⟩
  · have hm := mem_listed he
    simp [go_sem, *] at hm
    subst hm
    exact .inl ⟨_, rfl, rfl, by (first | assumption | (apply hfr <;> dsimp only <;> omega) | (apply hok; simp; done)), lt_of_cell (w := w8) (by assumption)⟩
  clear hK K d
  try walk_nrm
  refine F.re ?_
  refine F.bl ?_
  refine F.sr ?_
  simp only [rg, Nat.reduceAdd]
  iterate 2 (refine F.oq rfl rfl rfl (fun _ => by simp [go_sem]) fun d K hK => ?_; go_simp; refine hK _ ?_; clear hK K d; try walk_nrm)
  refine F.re ?_
  refine F.cf rfl ?_
  refine F.sr ?_
  simp only [rg, Nat.reduceAdd]
  iterate 2 (refine F.oq rfl rfl rfl (fun _ => by simp [go_sem]) fun d K hK => ?_; go_simp; refine hK _ ?_; clear hK K d; try walk_nrm)
  refine F.re ?_
  refine F.cf rfl ?_
  refine F.sr ?_
  simp only [rg, Nat.reduceAdd]
  iterate 2 (refine F.oq rfl rfl rfl (fun _ => by simp [go_sem]) fun d K hK => ?_; go_simp; refine hK _ ?_; clear hK K d; try walk_nrm)
  refine F.re ?_
  refine F.cf rfl ?_
  refine F.sk ?_
  refine F.ib ?_
  refine F.sr ?_
  simp only [rg, Nat.reduceAdd]
  refine F.oq rfl rfl rfl (fun _ => by simp [go_sem]) fun d K hK => ?_; go_simp; refine hK _ ?_; clear hK K d; try walk_nrm
  refine F.op rfl rfl (by decide) (fun d K hK => ?_)
  go_simp
  refine hK _ _ ⟨DX.still _ (fun e he => ?_), ?_⟩
  · have hm := mem_listed he
    simp [go_sem, *] at hm
    subst hm
    exact .inl ⟨_, rfl, rfl, by (first | assumption | (apply hfr <;> dsimp only <;> omega) | (apply hok; simp; done)), lt_of_cell (w := w8) (by assumption)⟩
  clear hK K d
  try walk_nrm
  iterate 2 (refine F.oq rfl rfl rfl (fun _ => by simp [go_sem]) fun d K hK => ?_; go_simp; refine hK _ ?_; clear hK K d; try walk_nrm)
  refine F.re ?_
  refine F.ctl (fun _ => stepG_ret') ?_
  refine F.leave rfl rfl Tryz.func146 (resultsC_tmp2 (by rfl) _) ?_
  exact hc _ _ ⟨en1, ev2, H8, Q8, r, rfl⟩

set_option maxRecDepth 100000 in
set_option maxHeartbeats 8000000 in
theorem bE_w (e : Env) (K : EnvOk e Ok) (hcl : e.cl = 0) (now nn tk : Int) (en ev : Value) (m : Nat) (B HD C TB n k : Nat) (tt : Nat → Int × Int × Int) (w0 : World) (H : CW e w0 now en ev m) (hm : m < 900) (S : BkS e Ok B HD C TB) (Q : Bk e B HD C TB n tt w0 k) (hk : k < n) (hwk : IntKind.i64.wrap ((k : Int) + 1) = k + 1) (hkd : (tt k).1 = 2) (hnn : (tt k).2.1 = nn) (htt : (tt k).2.2 = tk) (htk : (0 : Int) < tk) (hwr : IntKind.i64.wrap (now + tk) = now + tk) :
    CallsW e Ok 146 #[.pointer (some ⟨B, 0, none⟩), .pointer (some ⟨e.T, 0, none⟩)] w0 fun v w' => ∃ en' ev', CW e w' (now + tk) en' ev' (m + 2) ∧ Bk e B HD C TB n tt w' (k + 1) ∧ Ru e HD w0 en ev w' en' ev' ∧ (∃ q, v = .tuple #[.int .i64 0, .iface 168 (.pointer (some ⟨q, 0, none⟩))] ∧ w0.heap.size ≤ q ∧ q < w'.heap.size ∧ q ∉ rowL ev' ∧ q ∉ rowL en' ∧ w'.cell? ⟨q, 0, none⟩ = some (.int .i64 1) ∧ w'.cell? ⟨q, 1, none⟩ = some (.int .i64 (-1)) ∧ w'.cell? ⟨q, 2, none⟩ = some (.int .i64 nn) ∧ w'.cell? ⟨q, 3, none⟩ = some .nilIface) := by
  intro Ψ0 Ψ1 W c cs hc
  have F := W.f0
  have l1 := K.lA
  have l2 := K.lT
  have l3 := K.lJ
  have l4 := S.lH
  have s1 := S.bH
  have s2 := S.bB
  have hsz := H.size
  have hsX := H.sX
  have hnX := H.nX
  have hfr : ∀ (a : Addr) (wr : Bool), e.X + 1 ≤ a.block → Ok a wr := fun a wr h => K.fr a wr (by omega) (by omega)
  have sB := S.lB
  have sH := S.lH
  have sC := S.lC
  have sT := S.lT
  have ht2 := H.t2
  rw [hcl] at ht2
  have okt2 := K.t2
  obtain ⟨q1, q2, q3⟩ := Q.tb k hk
  rw [hkd] at q1
  rw [hnn] at q2
  rw [htt] at q3
  rw [enter_at _ Tryz.func146 rfl]
  simp only [Tryz.ntmps146, List.size_toArray, List.length_cons, List.length_nil, Nat.reduceAdd, Nat.reduceSub, Array.replicate_succ, Array.replicate_zero, List.push_toArray, List.append_toArray, List.nil_append, List.cons_append]
  refine F.sr ?_
  simp only [rg, Nat.reduceAdd]
  iterate 2 (refine F.oq rfl rfl rfl (fun _ => by simp [go_sem]) fun d K hK => ?_; go_simp; refine hK _ ?_; clear hK K d; try walk_nrm)
  refine F.esr ?_
  simp only [rg, Nat.reduceAdd]
  iterate 2 (refine F.oq rfl rfl rfl (fun _ => by simp [go_sem]) fun d K hK => ?_; go_simp; refine hK _ ?_; clear hK K d; try walk_nrm)
  refine F.enter rfl rfl (by decide) (fun _ => run_call_body rfl Tryz.func148 (by rfl) (by rfl)) (fun _ => events_call_body rfl Tryz.func148 (by rfl) (by rfl) _) ?_
  walk_nrm
  refine client_x e.T 0 w0 ht2 okt2 _ F _ _ (fun v wq hp => ?_)
  obtain ⟨rfl, hq⟩ := hp
  have hq := hq.symm
  subst hq
  rw [Frame.finish_at]
  try walk_nrm
  refine F.enter rfl rfl (by decide) (fun _ => run_call_body rfl Tryz.func147 (by rfl) (by rfl)) (fun _ => events_call_body rfl Tryz.func147 (by rfl) (by rfl) _) ?_
  walk_nrm
  refine next_x (e.X + 1) B HD C TB k n 2 nn tk w0 (by omega) (by omega) hwk (by omega) (by omega) (by omega) (by omega) (by omega) S.bB.1 S.bC.1 S.bT.1 Q.b4 Q.b3 Q.h0 Q.zh Q.c1 q1 q2 q3 S.ok hfr _ F _ _ (fun v w1 hp => ?_)
  obtain ⟨rfl, kn, hh, zh⟩ := hp
  have kp : Kp [HD] w0 w1 := kn
  have hs1 := kn.size
  rw [Frame.finish_at]
  try walk_nrm
  iterate 3 (refine F.oq rfl rfl rfl (fun _ => by simp [go_sem]) fun d K hK => ?_; go_simp; refine hK _ ?_; clear hK K d; try walk_nrm)
  refine F.op rfl rfl (by decide) (fun d K hK => ?_)
  go_simp
  rw [alloc_at']
  refine hK _ _ ⟨DX.alloc _ _ (fun e he => ?_), ?_⟩
  · have hm := mem_listed he
    simp [go_sem] at hm
  clear hK K d
  try walk_nrm
  generalize ew2 : World.alloc w1 _ = w2
  generalize hn2 : (World.heap w1).size = n2
  have sz2 := sz_al ew2 hn2
  replace zh := fz_al zh hh ew2
  replace hh := cl_al hh ew2
  have hu0 := cl_new (i := 0) ew2 hn2 rfl
  try simp only [List.getElem_toArray, List.getElem_cons_zero, List.getElem_cons_succ] at hu0
  have zu0 := fz_new ew2 hn2 0
  have hu1 := cl_new (i := 1) ew2 hn2 rfl
  try simp only [List.getElem_toArray, List.getElem_cons_zero, List.getElem_cons_succ] at hu1
  have zu1 := fz_new ew2 hn2 1
  have hu2 := cl_new (i := 2) ew2 hn2 rfl
  try simp only [List.getElem_toArray, List.getElem_cons_zero, List.getElem_cons_succ] at hu2
  have zu2 := fz_new ew2 hn2 2
  replace kp := kp.alN ew2
  refine F.oq rfl rfl rfl (fun _ => by simp [go_sem]) fun d K hK => ?_; go_simp; refine hK _ ?_; clear hK K d; try walk_nrm
  refine F.op rfl rfl (by decide) (fun d K hK => ?_)
  go_simp
  repeat rw [setCell_at']
  refine hK _ _ ⟨DX.set3 _ (by (first | assumption | (apply hfr <;> dsimp only <;> omega) | (apply hok; simp; done))) (by (first | assumption | (apply hfr <;> dsimp only <;> omega) | (apply hok; simp; done))) (by (first | assumption | (apply hfr <;> dsimp only <;> omega) | (apply hok; simp; done))) (fun e he => ?_), ?_⟩
  · have hm := mem_listed he
    simp [go_sem, storedEv, evst_slice, evst_ptr, evst_iface, evst_nil, evst_bool, *] at hm
    rcases hm with rfl | rfl | rfl <;> exact .inl ⟨_, rfl, rfl, by (first | assumption | (apply hfr <;> dsimp only <;> omega) | (apply hok; simp; done)), by show _ < (World.setCell _ _ _).heap.size; simp [World.setCell]; first | omega | exact lt_of_cell (by assumption)⟩
  clear hK K d
  try walk_nrm
  generalize ew3 : World.setCell w2 _ _ = w3
  have sz3 := sz_st ew3
  replace zh := fz_st zh ew3
  replace zu0 := fz_st zu0 ew3
  replace zu1 := fz_st zu1 ew3
  replace zu2 := fz_st zu2 ew3
  replace hh := cl_st hh ew3 (by first | (intro e; simp at e; done) | (intro e; simp at e; omega))
  replace hu0 := cl_st' hu0 ew3
  replace hu1 := cl_st hu1 ew3 (by first | (intro e; simp at e; done) | (intro e; simp at e; omega))
  replace hu2 := cl_st hu2 ew3 (by first | (intro e; simp at e; done) | (intro e; simp at e; omega))
  replace kp := kp.stN ew3 (by first | (left; simp; done) | (right; left; simp; done) | (right; right; dsimp only; omega))
  generalize ew4 : World.setCell w3 _ _ = w4
  have sz4 := sz_st ew4
  replace zh := fz_st zh ew4
  replace zu0 := fz_st zu0 ew4
  replace zu1 := fz_st zu1 ew4
  replace zu2 := fz_st zu2 ew4
  replace hh := cl_st hh ew4 (by first | (intro e; simp at e; done) | (intro e; simp at e; omega))
  replace hu0 := cl_st hu0 ew4 (by first | (intro e; simp at e; done) | (intro e; simp at e; omega))
  replace hu1 := cl_st' hu1 ew4
  replace hu2 := cl_st hu2 ew4 (by first | (intro e; simp at e; done) | (intro e; simp at e; omega))
  replace kp := kp.stN ew4 (by first | (left; simp; done) | (right; left; simp; done) | (right; right; dsimp only; omega))
  generalize ew5 : World.setCell w4 _ _ = w5
  have sz5 := sz_st ew5
  replace zh := fz_st zh ew5
  replace zu0 := fz_st zu0 ew5
  replace zu1 := fz_st zu1 ew5
  replace zu2 := fz_st zu2 ew5
  replace hh := cl_st hh ew5 (by first | (intro e; simp at e; done) | (intro e; simp at e; omega))
  replace hu0 := cl_st hu0 ew5 (by first | (intro e; simp at e; done) | (intro e; simp at e; omega))
  replace hu1 := cl_st hu1 ew5 (by first | (intro e; simp at e; done) | (intro e; simp at e; omega))
  replace hu2 := cl_st' hu2 ew5
  replace kp := kp.stN ew5 (by first | (left; simp; done) | (right; left; simp; done) | (right; right; dsimp only; omega))
  refine F.re ?_
  have H5 : CW e w5 now en ev m := H.keep kp (by intro x hx; simp at hx; subst hx; left; omega) l1 l2 l3 (by simp)
  have r5 : Ru e HD w0 en ev w5 en ev := Ru.own kp (by simp)
  have Q5 : Bk e B HD C TB n tt w5 (k + 1) := Q.ru S r5 H (by rw [hh]; simp) zh
  refine F.sr ?_
  simp only [rg, Nat.reduceAdd]
  iterate 5 (refine F.oq rfl rfl rfl (fun _ => by simp [go_sem]) fun d K hK => ?_; go_simp; refine hK _ ?_; clear hK K d; try walk_nrm)
  refine F.enter rfl rfl (by decide) (fun _ => run_call_body rfl Tryz.func149 (by rfl) (by rfl)) (fun _ => events_call_body rfl Tryz.func149 (by rfl) (by rfl) _) ?_
  walk_nrm
  refine tell_w e K now en ev m w5 H5 (by omega) B (-1) 1 k S.lB (Ne.symm s2.2.1) Q5.b1 Q5.b2 (S.ok _ _ (by simp)) (S.ok _ _ (by simp)) _ F _ _ (fun v w6 hp => ?_)
  obtain ⟨rfl, ev1, H6, k6, v6⟩ := hp
  have r6 : Ru e HD w5 en ev w6 en ev1 := Ru.tell k6 v6
  have n5 : n2 ∉ rowL ev := fun z => by have := (H.rowN z).2; omega
  have n5' : n2 ∉ rowL en := fun z => by have := (H.entN z).2; omega
  obtain ⟨f0, f0', g1, g2⟩ := r6.temp K S.lH (by omega) n5 n5' hu0
  obtain ⟨f1, f1', _⟩ := r6.temp K S.lH (by omega) n5 n5' hu1
  obtain ⟨f2, f2', _⟩ := r6.temp K S.lH (by omega) n5 n5' hu2
  have Q6 : Bk e B HD C TB n tt w6 (k + 1) := Q5.ru S r6 H5 (Bk.had (e := e) ⟨S.lH, S.bH⟩ k6 (fun x hx => by simp at hx; rcases hx with y | y; exact .inl y; exact .inr (H.rowN y).1) (by simp) Q5.h0 Q5.zh).1 (Bk.had (e := e) ⟨S.lH, S.bH⟩ k6 (fun x hx => by simp at hx; rcases hx with y | y; exact .inl y; exact .inr (H.rowN y).1) (by simp) Q5.h0 Q5.zh).2
  have hs6 := k6.size
  clear hu0 hu1 hu2 zu0 zu1 zu2 hh zh
  rw [Frame.finish_at]
  try walk_nrm
  refine F.es ?_
  refine F.sr ?_
  simp only [rg, Nat.reduceAdd]
  refine F.oq rfl rfl rfl (fun _ => by simp [go_sem]) fun d K hK => ?_; go_simp; refine hK _ ?_; clear hK K d; try walk_nrm
  refine F.op rfl rfl (by decide) (fun d K hK => ?_)
  go_simp
  refine hK _ _ ⟨DX.still _ (fun e he => ?_), ?_⟩
  · have hm := mem_listed he
    simp [go_sem, *] at hm
    subst hm
    exact .inl ⟨_, rfl, rfl, by (first | assumption | (apply hfr <;> dsimp only <;> omega) | (apply hok; simp; done)), lt_of_cell (w := w6) (by assumption)⟩
  clear hK K d
  try walk_nrm
  refine F.oq rfl rfl rfl (fun _ => by simp [go_sem]) fun d K hK => ?_; go_simp; refine hK _ ?_; clear hK K d; try walk_nrm
  refine F.re ?_
  refine F.ct rfl ?_
  refine F.rr ?_
  simp only [rg, Nat.reduceAdd]
  iterate 2 (refine F.oq rfl rfl rfl (fun _ => by simp [go_sem]) fun d K hK => ?_; go_simp; refine hK _ ?_; clear hK K d; try walk_nrm)
  refine F.op rfl rfl (by decide) (fun d K hK => ?_)
  go_simp
  refine hK _ _ ⟨DX.still _ (fun e he => ?_), ?_⟩
  · have hm := mem_listed he
    simp [go_sem, *] at hm
    subst hm
    exact .inl ⟨_, rfl, rfl, by (first | assumption | (apply hfr <;> dsimp only <;> omega) | (apply hok; simp; done)), lt_of_cell (w := w6) (by assumption)⟩
  clear hK K d
  try walk_nrm
  refine F.enter rfl rfl (by decide) (fun _ => run_call_body rfl Tryz.func150 (by rfl) (by rfl)) (fun _ => events_call_body rfl Tryz.func150 (by rfl) (by rfl) _) ?_
  walk_nrm
  refine sleep_w e K now tk en ev1 (m + 1) w6 H6 hwr Ψ0 Ψ1 W _ _ (fun v w7 hp => ?_)
  obtain ⟨rfl, en1, H7, k7, v7⟩ := hp
  have r7 : Ru e HD w6 en ev1 w7 en1 ev1 := Ru.wait k7 (by simp) v7
  obtain ⟨f0, _, g1, g2⟩ := r7.temp K S.lH (by omega) g1 g2 f0
  obtain ⟨f1, _, _⟩ := r7.temp K S.lH (by omega) (by assumption) (by assumption) f1
  have Q7 : Bk e B HD C TB n tt w7 (k + 1) := Q6.ru S r7 H6 (Bk.had (e := e) ⟨S.lH, S.bH⟩ k7 (fun x hx => .inr (H6.entN hx).1) (by simp) Q6.h0 Q6.zh).1 (Bk.had (e := e) ⟨S.lH, S.bH⟩ k7 (fun x hx => .inr (H6.entN hx).1) (by simp) Q6.h0 Q6.zh).2
  have hs7 := k7.size
  rw [Frame.finish_at]
  try walk_nrm
  refine F.esr ?_
  simp only [rg, Nat.reduceAdd]
  iterate 5 (refine F.oq rfl rfl rfl (fun _ => by simp [go_sem]) fun d K hK => ?_; go_simp; refine hK _ ?_; clear hK K d; try walk_nrm)
  refine F.enter rfl rfl (by decide) (fun _ => run_call_body rfl Tryz.func149 (by rfl) (by rfl)) (fun _ => events_call_body rfl Tryz.func149 (by rfl) (by rfl) _) ?_
  walk_nrm
  refine tell_w e K (now + tk) en1 ev1 (m + 1) w7 H7 (by omega) B (-1) 2 k S.lB (Ne.symm s2.2.1) Q7.b1 Q7.b2 (S.ok _ _ (by simp)) (S.ok _ _ (by simp)) _ F _ _ (fun v w8 hp => ?_)
  obtain ⟨rfl, ev2, H8, k8, v8⟩ := hp
  have r8 : Ru e HD w7 en1 ev1 w8 en1 ev2 := Ru.tell k8 v8
  obtain ⟨f0, _, g1, g2⟩ := r8.temp K S.lH (by omega) (by assumption) (by assumption) f0
  obtain ⟨f1, _, _⟩ := r8.temp K S.lH (by omega) (by assumption) (by assumption) f1
  have Q8 : Bk e B HD C TB n tt w8 (k + 1) := Q7.ru S r8 H7 (Bk.had (e := e) ⟨S.lH, S.bH⟩ k8 (fun x hx => by simp at hx; rcases hx with y | y; exact .inl y; exact .inr (H7.rowN y).1) (by simp) Q7.h0 Q7.zh).1 (Bk.had (e := e) ⟨S.lH, S.bH⟩ k8 (fun x hx => by simp at hx; rcases hx with y | y; exact .inl y; exact .inr (H7.rowN y).1) (by simp) Q7.h0 Q7.zh).2
  have hs8 := k8.size
  have r : Ru e HD w0 en ev w8 en1 ev2 := r5.trans (r6.trans (r7.trans r8))
  rw [Frame.finish_at]
  try walk_nrm
  refine F.es ?_
  refine F.sr ?_
  simp only [rg, Nat.reduceAdd]
  refine F.oq rfl rfl rfl (fun _ => by simp [go_sem]) fun d K hK => ?_; go_simp; refine hK _ ?_; clear hK K d; try walk_nrm
  refine F.op rfl rfl (by decide) (fun d K hK => ?_)
  go_simp
  refine hK _ _ ⟨DX.still _ (fun e he => ?_), ?_⟩
  · have hm := mem_listed he
    simp [go_sem, *] at hm
    subst hm
    exact .inl ⟨_, rfl, rfl, by (first | assumption | (apply hfr <;> dsimp only <;> omega) | (apply hok; simp; done)), lt_of_cell (w := w8) (by assumption)⟩
  clear hK K d
  try walk_nrm
  refine F.re ?_
  refine F.bl ?_
  refine F.sr ?_
  simp only [rg, Nat.reduceAdd]
  iterate 2 (refine F.oq rfl rfl rfl (fun _ => by simp [go_sem]) fun d K hK => ?_; go_simp; refine hK _ ?_; clear hK K d; try walk_nrm)
  refine F.re ?_
  refine F.ct rfl ?_
  refine F.sq ?_
  have okB := S.ok ⟨B, 1, none⟩ false (by simp)
  have hB1 := Q8.b1
  refine F.drawA (γ := Unit) (n := 10) mixed [[], [0], [1], [], [3], [2, 4], [5], [5], [0, 1, 2, 3, 4, 5, 6, 7], [0, 1, 2, 3, 4, 5, 6, 7, 8]] rfl (by kernel_rfl) (fun b g => [(38, sel (b 0) (.pointer (some ⟨B, 0, none⟩)) (undef)), (39, sel (b 1) (.pointer (some ⟨B, 0, none⟩)) (undef)), (40, sel (b 2) (.pointer (some ⟨B, 0, none⟩)) (undef)), (41, sel (b 3) (.pointer (some ⟨n2, 1, none⟩)) (undef)), (42, sel (b 4) (.int .i64 nn) (undef)), (43, sel (b 5) (.tuple #[.int .i64 0, .iface 168 (.pointer (some ⟨w8.heap.size, 0, none⟩))]) (undef)), (44, sel (b 6) (.int .i64 0) (undef)), (45, sel (b 7) (.iface 168 (.pointer (some ⟨w8.heap.size, 0, none⟩))) (undef)), (4, sel (b 8) (.int .i64 0) (.int .i64 0)), (5, sel (b 9) (.iface 168 (.pointer (some ⟨w8.heap.size, 0, none⟩))) (.nilIface))]) (fun b g w => (b 5 = false → w = w8) ∧ (b 5 = true → w = w8.alloc (.cells #[.int .i64 1, .int .i64 (-1), .int .i64 nn, .nilIface] 173))) (()) (by simp only [pu, Nat.reduceAdd, Nat.reduceEqDiff, reduceIte]) (⟨fun _ => rfl, fun h => by cases h⟩) (all_cons ?_ (all_cons ?_ (all_cons ?_ (all_cons ?_ (all_cons ?_ (all_cons ?_ (all_cons ?_ (all_cons ?_ (all_cons ?_ (all_cons ?_ (all_nil))))))))))) ?_
  · intro b g w hI hcl hbi hdp rest hre hkk
    obtain ⟨hwf, hwt⟩ := hI
    replace hbi : b 0 = false := hbi
    have nb1 : b 1 = false := nbf (fun h => hcl 1 (by decide) h 0 (by decide)) hbi
    have nb2 : b 2 = false := by
        cases hx : b 2 with
        | false => rfl
        | true => have := hcl 2 (by decide) hx 1 (by decide); rw [show b 1 = false from nb1] at this; cases this
    have nb5 : b 5 = false := by
        cases hx : b 5 with
        | false => rfl
        | true => have := hcl 5 (by decide) hx 2 (by decide); rw [show b 2 = false from nb2] at this; cases this
    have nb8 : b 8 = false := nbf (fun h => hcl 8 (by decide) h 0 (by decide)) hbi
    have nb9 : b 9 = false := nbf (fun h => hcl 9 (by decide) h 0 (by decide)) hbi
    simp only [nb1, nb2, nb5, nb8, nb9, hbi, pu, Nat.reduceAdd, Nat.reduceEqDiff, reduceIte]
    have ewc := (hwf nb5).symm
    subst ewc
    refine F.oq rfl rfl rfl (fun _ => by simp [go_sem]) fun d K hK => ?_; go_simp; refine hK _ ?_; clear hK K d; try walk_nrm
    have hk2 := hkk g _ ⟨fun _ => rfl, fun h => no nb5 h⟩
    simp only [nb1, nb2, nb5, nb8, nb9, hbi, pu, Nat.reduceAdd, Nat.reduceEqDiff, reduceIte] at hk2
    exact hk2
  · intro b g w hI hcl hbi hdp rest hre hkk
    obtain ⟨hwf, hwt⟩ := hI
    replace hbi : b 1 = false := hbi
    have d0 : b 0 = true := hdp 0 (by decide)
    have nb2 : b 2 = false := nbf (fun h => hcl 2 (by decide) h 1 (by decide)) hbi
    have nb5 : b 5 = false := by
        cases hx : b 5 with
        | false => rfl
        | true => have := hcl 5 (by decide) hx 2 (by decide); rw [show b 2 = false from nb2] at this; cases this
    have nb8 : b 8 = false := nbf (fun h => hcl 8 (by decide) h 1 (by decide)) hbi
    have nb9 : b 9 = false := nbf (fun h => hcl 9 (by decide) h 1 (by decide)) hbi
    simp only [d0, nb2, nb5, nb8, nb9, hbi, pu, Nat.reduceAdd, Nat.reduceEqDiff, reduceIte]
    have ewc := (hwf nb5).symm
    subst ewc
    refine F.oq rfl rfl rfl (fun _ => by simp [go_sem]) fun d K hK => ?_; go_simp; refine hK _ ?_; clear hK K d; try walk_nrm
    have hk2 := hkk g _ ⟨fun _ => rfl, fun h => no nb5 h⟩
    simp only [d0, nb2, nb5, nb8, nb9, hbi, pu, Nat.reduceAdd, Nat.reduceEqDiff, reduceIte] at hk2
    exact hk2
  · intro b g w hI hcl hbi hdp rest hre hkk
    obtain ⟨hwf, hwt⟩ := hI
    replace hbi : b 2 = false := hbi
    have d1 : b 1 = true := hdp 1 (by decide)
    have d0 : b 0 = true := hcl 1 (by decide) d1 0 (by decide)
    have nb5 : b 5 = false := nbf (fun h => hcl 5 (by decide) h 2 (by decide)) hbi
    have nb8 : b 8 = false := nbf (fun h => hcl 8 (by decide) h 2 (by decide)) hbi
    have nb9 : b 9 = false := nbf (fun h => hcl 9 (by decide) h 2 (by decide)) hbi
    simp only [d1, d0, nb5, nb8, nb9, hbi, pu, Nat.reduceAdd, Nat.reduceEqDiff, reduceIte]
    have ewc := (hwf nb5).symm
    subst ewc
    refine F.oq rfl rfl rfl (fun _ => by simp [go_sem]) fun d K hK => ?_; go_simp; refine hK _ ?_; clear hK K d; try walk_nrm
    have hk2 := hkk g _ ⟨fun _ => rfl, fun h => no nb5 h⟩
    simp only [d1, d0, nb5, nb8, nb9, hbi, pu, Nat.reduceAdd, Nat.reduceEqDiff, reduceIte] at hk2
    exact hk2
  · intro b g w hI hcl hbi hdp rest hre hkk
    obtain ⟨hwf, hwt⟩ := hI
    replace hbi : b 3 = false := hbi
    have nb4 : b 4 = false := nbf (fun h => hcl 4 (by decide) h 3 (by decide)) hbi
    have nb5 : b 5 = false := by
        cases hx : b 5 with
        | false => rfl
        | true => have := hcl 5 (by decide) hx 4 (by decide); rw [show b 4 = false from nb4] at this; cases this
    have nb8 : b 8 = false := nbf (fun h => hcl 8 (by decide) h 3 (by decide)) hbi
    have nb9 : b 9 = false := nbf (fun h => hcl 9 (by decide) h 3 (by decide)) hbi
    simp only [nb4, nb5, nb8, nb9, hbi, pu, Nat.reduceAdd, Nat.reduceEqDiff, reduceIte]
    have ewc := (hwf nb5).symm
    subst ewc
    refine F.oq rfl rfl rfl (fun _ => by simp [go_sem]) fun d K hK => ?_; go_simp; refine hK _ ?_; clear hK K d; try walk_nrm
    have hk2 := hkk g _ ⟨fun _ => rfl, fun h => no nb5 h⟩
    simp only [nb4, nb5, nb8, nb9, hbi, pu, Nat.reduceAdd, Nat.reduceEqDiff, reduceIte] at hk2
    exact hk2
  · intro b g w hI hcl hbi hdp rest hre hkk
    obtain ⟨hwf, hwt⟩ := hI
    replace hbi : b 4 = false := hbi
    have d3 : b 3 = true := hdp 3 (by decide)
    have nb5 : b 5 = false := nbf (fun h => hcl 5 (by decide) h 4 (by decide)) hbi
    have nb8 : b 8 = false := nbf (fun h => hcl 8 (by decide) h 4 (by decide)) hbi
    have nb9 : b 9 = false := nbf (fun h => hcl 9 (by decide) h 4 (by decide)) hbi
    simp only [d3, nb5, nb8, nb9, hbi, pu, Nat.reduceAdd, Nat.reduceEqDiff, reduceIte]
    have ewc := (hwf nb5).symm
    subst ewc
    refine F.op rfl rfl (by decide) (fun d K hK => ?_)
    go_simp
    refine hK _ _ ⟨DX.still _ (fun e he => ?_), ?_⟩
    · have hm := mem_listed he
      simp [go_sem, *] at hm
      subst hm
      exact .inl ⟨_, rfl, rfl, by (first | assumption | (apply hfr <;> dsimp only <;> omega) | (apply hok; simp; done)), lt_of_cell (w := w8) (by assumption)⟩
    clear hK K d
    try walk_nrm
    have hk2 := hkk g _ ⟨fun _ => rfl, fun h => no nb5 h⟩
    simp only [d3, nb5, nb8, nb9, hbi, pu, Nat.reduceAdd, Nat.reduceEqDiff, reduceIte] at hk2
    exact hk2
  · intro b g w hI hcl hbi hdp rest hre hkk
    obtain ⟨hwf, hwt⟩ := hI
    replace hbi : b 5 = false := hbi
    have d2 : b 2 = true := hdp 2 (by decide)
    have d4 : b 4 = true := hdp 4 (by decide)
    have d3 : b 3 = true := hcl 4 (by decide) d4 3 (by decide)
    have d1 : b 1 = true := hcl 2 (by decide) d2 1 (by decide)
    have d0 : b 0 = true := hcl 1 (by decide) d1 0 (by decide)
    have nb6 : b 6 = false := nbf (fun h => hcl 6 (by decide) h 5 (by decide)) hbi
    have nb7 : b 7 = false := nbf (fun h => hcl 7 (by decide) h 5 (by decide)) hbi
    have nb8 : b 8 = false := nbf (fun h => hcl 8 (by decide) h 5 (by decide)) hbi
    have nb9 : b 9 = false := nbf (fun h => hcl 9 (by decide) h 5 (by decide)) hbi
    simp only [d2, d4, d3, d1, d0, nb6, nb7, nb8, nb9, hbi, pu, Nat.reduceAdd, Nat.reduceEqDiff, reduceIte]
    have ewc := (hwf hbi).symm
    subst ewc
    refine F.enter rfl rfl (by decide) (fun _ => run_call_body rfl Tryz.func151 (by rfl) (by rfl)) (fun _ => events_call_body rfl Tryz.func151 (by rfl) (by rfl) _) ?_
    walk_nrm
    refine fail_x B 1 (-1) nn w8 hB1 okB _ F _ _ (fun v w9 hp => ?_)
    obtain ⟨rfl, hw9⟩ := hp
    rw [Frame.finish_at]
    try walk_nrm
    have hk2 := hkk g _ ⟨fun h => by simp [tick] at h, fun _ => hw9⟩
    simp only [d2, d4, d3, d1, d0, nb6, nb7, nb8, nb9, hbi, pu, Nat.reduceAdd, Nat.reduceEqDiff, reduceIte] at hk2
    exact hk2
  · intro b g w hI hcl hbi hdp rest hre hkk
    obtain ⟨hwf, hwt⟩ := hI
    replace hbi : b 6 = false := hbi
    have d5 : b 5 = true := hdp 5 (by decide)
    have d2 : b 2 = true := hcl 5 (by decide) d5 2 (by decide)
    have d4 : b 4 = true := hcl 5 (by decide) d5 4 (by decide)
    have d3 : b 3 = true := hcl 4 (by decide) d4 3 (by decide)
    have d1 : b 1 = true := hcl 2 (by decide) d2 1 (by decide)
    have d0 : b 0 = true := hcl 1 (by decide) d1 0 (by decide)
    have nb8 : b 8 = false := nbf (fun h => hcl 8 (by decide) h 6 (by decide)) hbi
    have nb9 : b 9 = false := nbf (fun h => hcl 9 (by decide) h 6 (by decide)) hbi
    simp only [d5, d2, d4, d3, d1, d0, nb8, nb9, hbi, pu, Nat.reduceAdd, Nat.reduceEqDiff, reduceIte]
    have ewt := hwt d5
    subst ewt
    refine F.oq rfl rfl rfl (fun _ => by simp [go_sem]) fun d K hK => ?_; go_simp; refine hK _ ?_; clear hK K d; try walk_nrm
    have hk2 := hkk g _ ⟨fun h => absurd (show b 5 = false from h) (by rw [d5]; decide), fun _ => rfl⟩
    simp only [d5, d2, d4, d3, d1, d0, nb8, nb9, hbi, pu, Nat.reduceAdd, Nat.reduceEqDiff, reduceIte] at hk2
    exact hk2
  · intro b g w hI hcl hbi hdp rest hre hkk
    obtain ⟨hwf, hwt⟩ := hI
    replace hbi : b 7 = false := hbi
    have d5 : b 5 = true := hdp 5 (by decide)
    have d2 : b 2 = true := hcl 5 (by decide) d5 2 (by decide)
    have d4 : b 4 = true := hcl 5 (by decide) d5 4 (by decide)
    have d3 : b 3 = true := hcl 4 (by decide) d4 3 (by decide)
    have d1 : b 1 = true := hcl 2 (by decide) d2 1 (by decide)
    have d0 : b 0 = true := hcl 1 (by decide) d1 0 (by decide)
    have nb8 : b 8 = false := nbf (fun h => hcl 8 (by decide) h 7 (by decide)) hbi
    have nb9 : b 9 = false := nbf (fun h => hcl 9 (by decide) h 7 (by decide)) hbi
    simp only [d5, d2, d4, d3, d1, d0, nb8, nb9, hbi, pu, Nat.reduceAdd, Nat.reduceEqDiff, reduceIte]
    have ewt := hwt d5
    subst ewt
    refine F.oq rfl rfl rfl (fun _ => by simp [go_sem]) fun d K hK => ?_; go_simp; refine hK _ ?_; clear hK K d; try walk_nrm
    have hk2 := hkk g _ ⟨fun h => absurd (show b 5 = false from h) (by rw [d5]; decide), fun _ => rfl⟩
    simp only [d5, d2, d4, d3, d1, d0, nb8, nb9, hbi, pu, Nat.reduceAdd, Nat.reduceEqDiff, reduceIte] at hk2
    exact hk2
  · intro b g w hI hcl hbi hdp rest hre hkk
    obtain ⟨hwf, hwt⟩ := hI
    replace hbi : b 8 = false := hbi
    have d0 : b 0 = true := hdp 0 (by decide)
    have d1 : b 1 = true := hdp 1 (by decide)
    have d2 : b 2 = true := hdp 2 (by decide)
    have d3 : b 3 = true := hdp 3 (by decide)
    have d4 : b 4 = true := hdp 4 (by decide)
    have d5 : b 5 = true := hdp 5 (by decide)
    have d6 : b 6 = true := hdp 6 (by decide)
    have d7 : b 7 = true := hdp 7 (by decide)
    have nb9 : b 9 = false := nbf (fun h => hcl 9 (by decide) h 8 (by decide)) hbi
    simp only [d0, d1, d2, d3, d4, d5, d6, d7, nb9, hbi, pu, Nat.reduceAdd, Nat.reduceEqDiff, reduceIte]
    have ewt := hwt d5
    subst ewt
    refine F.oq rfl rfl rfl (fun _ => by simp [go_sem]) fun d K hK => ?_; go_simp; refine hK _ ?_; clear hK K d; try walk_nrm
    have hk2 := hkk g _ ⟨fun h => absurd (show b 5 = false from h) (by rw [d5]; decide), fun _ => rfl⟩
    simp only [d0, d1, d2, d3, d4, d5, d6, d7, nb9, hbi, pu, Nat.reduceAdd, Nat.reduceEqDiff, reduceIte] at hk2
    exact hk2
  · intro b g w hI hcl hbi hdp rest hre hkk
    obtain ⟨hwf, hwt⟩ := hI
    replace hbi : b 9 = false := hbi
    have d0 : b 0 = true := hdp 0 (by decide)
    have d1 : b 1 = true := hdp 1 (by decide)
    have d2 : b 2 = true := hdp 2 (by decide)
    have d3 : b 3 = true := hdp 3 (by decide)
    have d4 : b 4 = true := hdp 4 (by decide)
    have d5 : b 5 = true := hdp 5 (by decide)
    have d6 : b 6 = true := hdp 6 (by decide)
    have d7 : b 7 = true := hdp 7 (by decide)
    have d8 : b 8 = true := hdp 8 (by decide)
    simp only [d0, d1, d2, d3, d4, d5, d6, d7, d8, hbi, pu, Nat.reduceAdd, Nat.reduceEqDiff, reduceIte]
    have ewt := hwt d5
    subst ewt
    refine F.oq rfl rfl rfl (fun _ => by simp [go_sem]) fun d K hK => ?_; go_simp; refine hK _ ?_; clear hK K d; try walk_nrm
    have hk2 := hkk g _ ⟨fun h => absurd (show b 5 = false from h) (by rw [d5]; decide), fun _ => rfl⟩
    simp only [d0, d1, d2, d3, d4, d5, d6, d7, d8, hbi, pu, Nat.reduceAdd, Nat.reduceEqDiff, reduceIte] at hk2
    exact hk2
  intro b g w hI hall
  obtain ⟨hwf, hwt⟩ := hI
  simp only [hall 0 (by decide), hall 1 (by decide), hall 2 (by decide), hall 3 (by decide), hall 4 (by decide), hall 5 (by decide), hall 6 (by decide), hall 7 (by decide), hall 8 (by decide), hall 9 (by decide), pu, Nat.reduceAdd, Nat.reduceEqDiff, reduceIte]
  refine F.re ?_
  refine F.ctl (fun _ => stepG_ret') ?_
  refine F.leave rfl rfl Tryz.func146 (resultsC_tmp2 (by rfl) _) ?_
  have hw9 := hwt (hall 5 (by decide))
  generalize hn9 : w8.heap.size = q at *
  have r9 : Ru e HD w8 en1 ev2 w en1 ev2 := Ru.own (Kp.alloc (L := []) hw9.symm) (by simp)
  have sz9 := sz_al hw9.symm hn9
  have H9 : CW e w _ en1 ev2 (m + 1 + 1) := H8.keep (Kp.alloc (L := []) hw9.symm) (by simp) l1 l2 l3 (by simp)
  have c0 := cl_new (i := 0) hw9.symm hn9 rfl
  have c1 := cl_new (i := 1) hw9.symm hn9 rfl
  have c2 := cl_new (i := 2) hw9.symm hn9 rfl
  have c3 := cl_new (i := 3) hw9.symm hn9 rfl
  have hr0 := r.kp.size
  have k9 : Kp [] w8 w := Kp.alloc hw9.symm
  refine hc _ _ ⟨en1, ev2, H9, Q8.ru S r9 H8 (k9.cell _ _ (by simp) Q8.h0) ((k9.froz _ _ (by simp) Q8.h0).trans Q8.zh), r.trans r9, q, rfl, by omega, by omega, fun z => by have := (H8.rowN z).2; omega, fun z => by have := (H8.entN z).2; omega, c0, c1, c2, c3⟩

set_option maxRecDepth 100000 in
set_option maxHeartbeats 8000000 in
theorem bF_w (e : Env) (K : EnvOk e Ok) (hcl : e.cl = 0) (now nn tk : Int) (en ev : Value) (m : Nat) (B HD C TB n k : Nat) (tt : Nat → Int × Int × Int) (w0 : World) (H : CW e w0 now en ev m) (hm : m < 900) (S : BkS e Ok B HD C TB) (Q : Bk e B HD C TB n tt w0 k) (hk : k < n) (hwk : IntKind.i64.wrap ((k : Int) + 1) = k + 1) (hkd : (tt k).1 = 2) (hnn : (tt k).2.1 = nn) (htt : (tt k).2.2 = 0)  :
    CallsW e Ok 146 #[.pointer (some ⟨B, 0, none⟩), .pointer (some ⟨e.T, 0, none⟩)] w0 fun v w' => ∃ en' ev', CW e w' (now) en' ev' (m + 2) ∧ Bk e B HD C TB n tt w' (k + 1) ∧ Ru e HD w0 en ev w' en' ev' ∧ (∃ q, v = .tuple #[.int .i64 0, .iface 168 (.pointer (some ⟨q, 0, none⟩))] ∧ w0.heap.size ≤ q ∧ q < w'.heap.size ∧ q ∉ rowL ev' ∧ q ∉ rowL en' ∧ w'.cell? ⟨q, 0, none⟩ = some (.int .i64 1) ∧ w'.cell? ⟨q, 1, none⟩ = some (.int .i64 (-1)) ∧ w'.cell? ⟨q, 2, none⟩ = some (.int .i64 nn) ∧ w'.cell? ⟨q, 3, none⟩ = some .nilIface) := by
  intro Ψ0 Ψ1 W c cs hc
  have F := W.f0
  have l1 := K.lA
  have l2 := K.lT
  have l3 := K.lJ
  have l4 := S.lH
  have s1 := S.bH
  have s2 := S.bB
  have hsz := H.size
  have hsX := H.sX
  have hnX := H.nX
  have hfr : ∀ (a : Addr) (wr : Bool), e.X + 1 ≤ a.block → Ok a wr := fun a wr h => K.fr a wr (by omega) (by omega)
  have sB := S.lB
  have sH := S.lH
  have sC := S.lC
  have sT := S.lT
  have ht2 := H.t2
  rw [hcl] at ht2
  have okt2 := K.t2
  obtain ⟨q1, q2, q3⟩ := Q.tb k hk
  rw [hkd] at q1
  rw [hnn] at q2
  rw [htt] at q3
  rw [enter_at _ Tryz.func146 rfl]
  simp only [Tryz.ntmps146, List.size_toArray, List.length_cons, List.length_nil, Nat.reduceAdd, Nat.reduceSub, Array.replicate_succ, Array.replicate_zero, List.push_toArray, List.append_toArray, List.nil_append, List.cons_append]
  refine F.sr ?_
  simp only [rg, Nat.reduceAdd]
  iterate 2 (refine F.oq rfl rfl rfl (fun _ => by simp [go_sem]) fun d K hK => ?_; go_simp; refine hK _ ?_; clear hK K d; try walk_nrm)
  refine F.esr ?_
  simp only [rg, Nat.reduceAdd]
  iterate 2 (refine F.oq rfl rfl rfl (fun _ => by simp [go_sem]) fun d K hK => ?_; go_simp; refine hK _ ?_; clear hK K d; try walk_nrm)
  refine F.enter rfl rfl (by decide) (fun _ => run_call_body rfl Tryz.func148 (by rfl) (by rfl)) (fun _ => events_call_body rfl Tryz.func148 (by rfl) (by rfl) _) ?_
  walk_nrm
  refine client_x e.T 0 w0 ht2 okt2 _ F _ _ (fun v wq hp => ?_)
  obtain ⟨rfl, hq⟩ := hp
  have hq := hq.symm
  subst hq
  rw [Frame.finish_at]
  try walk_nrm
  refine F.enter rfl rfl (by decide) (fun _ => run_call_body rfl Tryz.func147 (by rfl) (by rfl)) (fun _ => events_call_body rfl Tryz.func147 (by rfl) (by rfl) _) ?_
  walk_nrm
  refine next_x (e.X + 1) B HD C TB k n 2 nn 0 w0 (by omega) (by omega) hwk (by omega) (by omega) (by omega) (by omega) (by omega) S.bB.1 S.bC.1 S.bT.1 Q.b4 Q.b3 Q.h0 Q.zh Q.c1 q1 q2 q3 S.ok hfr _ F _ _ (fun v w1 hp => ?_)
  obtain ⟨rfl, kn, hh, zh⟩ := hp
  have kp : Kp [HD] w0 w1 := kn
  have hs1 := kn.size
  rw [Frame.finish_at]
  try walk_nrm
  iterate 3 (refine F.oq rfl rfl rfl (fun _ => by simp [go_sem]) fun d K hK => ?_; go_simp; refine hK _ ?_; clear hK K d; try walk_nrm)
  refine F.op rfl rfl (by decide) (fun d K hK => ?_)
  go_simp
  rw [alloc_at']
  refine hK _ _ ⟨DX.alloc _ _ (fun e he => ?_), ?_⟩
  · have hm := mem_listed he
    simp [go_sem] at hm
  clear hK K d
  try walk_nrm
  generalize ew2 : World.alloc w1 _ = w2
  generalize hn2 : (World.heap w1).size = n2
  have sz2 := sz_al ew2 hn2
  replace zh := fz_al zh hh ew2
  replace hh := cl_al hh ew2
  have hu0 := cl_new (i := 0) ew2 hn2 rfl
  try simp only [List.getElem_toArray, List.getElem_cons_zero, List.getElem_cons_succ] at hu0
  have zu0 := fz_new ew2 hn2 0
  have hu1 := cl_new (i := 1) ew2 hn2 rfl
  try simp only [List.getElem_toArray, List.getElem_cons_zero, List.getElem_cons_succ] at hu1
  have zu1 := fz_new ew2 hn2 1
  have hu2 := cl_new (i := 2) ew2 hn2 rfl
  try simp only [List.getElem_toArray, List.getElem_cons_zero, List.getElem_cons_succ] at hu2
  have zu2 := fz_new ew2 hn2 2
  replace kp := kp.alN ew2
  refine F.oq rfl rfl rfl (fun _ => by simp [go_sem]) fun d K hK => ?_; go_simp; refine hK _ ?_; clear hK K d; try walk_nrm
  refine F.op rfl rfl (by decide) (fun d K hK => ?_)
  go_simp
  repeat rw [setCell_at']
  refine hK _ _ ⟨DX.set3 _ (by (first | assumption | (apply hfr <;> dsimp only <;> omega) | (apply hok; simp; done))) (by (first | assumption | (apply hfr <;> dsimp only <;> omega) | (apply hok; simp; done))) (by (first | assumption | (apply hfr <;> dsimp only <;> omega) | (apply hok; simp; done))) (fun e he => ?_), ?_⟩
  · have hm := mem_listed he
    simp [go_sem, storedEv, evst_slice, evst_ptr, evst_iface, evst_nil, evst_bool, *] at hm
    rcases hm with rfl | rfl | rfl <;> exact .inl ⟨_, rfl, rfl, by (first | assumption | (apply hfr <;> dsimp only <;> omega) | (apply hok; simp; done)), by show _ < (World.setCell _ _ _).heap.size; simp [World.setCell]; first | omega | exact lt_of_cell (by assumption)⟩
  clear hK K d
  try walk_nrm
  generalize ew3 : World.setCell w2 _ _ = w3
  have sz3 := sz_st ew3
  replace zh := fz_st zh ew3
  replace zu0 := fz_st zu0 ew3
  replace zu1 := fz_st zu1 ew3
  replace zu2 := fz_st zu2 ew3
  replace hh := cl_st hh ew3 (by first | (intro e; simp at e; done) | (intro e; simp at e; omega))
  replace hu0 := cl_st' hu0 ew3
  replace hu1 := cl_st hu1 ew3 (by first | (intro e; simp at e; done) | (intro e; simp at e; omega))
  replace hu2 := cl_st hu2 ew3 (by first | (intro e; simp at e; done) | (intro e; simp at e; omega))
  replace kp := kp.stN ew3 (by first | (left; simp; done) | (right; left; simp; done) | (right; right; dsimp only; omega))
  generalize ew4 : World.setCell w3 _ _ = w4
  have sz4 := sz_st ew4
  replace zh := fz_st zh ew4
  replace zu0 := fz_st zu0 ew4
  replace zu1 := fz_st zu1 ew4
  replace zu2 := fz_st zu2 ew4
  replace hh := cl_st hh ew4 (by first | (intro e; simp at e; done) | (intro e; simp at e; omega))
  replace hu0 := cl_st hu0 ew4 (by first | (intro e; simp at e; done) | (intro e; simp at e; omega))
  replace hu1 := cl_st' hu1 ew4
  replace hu2 := cl_st hu2 ew4 (by first | (intro e; simp at e; done) | (intro e; simp at e; omega))
  replace kp := kp.stN ew4 (by first | (left; simp; done) | (right; left; simp; done) | (right; right; dsimp only; omega))
  generalize ew5 : World.setCell w4 _ _ = w5
  have sz5 := sz_st ew5
  replace zh := fz_st zh ew5
  replace zu0 := fz_st zu0 ew5
  replace zu1 := fz_st zu1 ew5
  replace zu2 := fz_st zu2 ew5
  replace hh := cl_st hh ew5 (by first | (intro e; simp at e; done) | (intro e; simp at e; omega))
  replace hu0 := cl_st hu0 ew5 (by first | (intro e; simp at e; done) | (intro e; simp at e; omega))
  replace hu1 := cl_st hu1 ew5 (by first | (intro e; simp at e; done) | (intro e; simp at e; omega))
  replace hu2 := cl_st' hu2 ew5
  replace kp := kp.stN ew5 (by first | (left; simp; done) | (right; left; simp; done) | (right; right; dsimp only; omega))
  refine F.re ?_
  have H5 : CW e w5 now en ev m := H.keep kp (by intro x hx; simp at hx; subst hx; left; omega) l1 l2 l3 (by simp)
  have r5 : Ru e HD w0 en ev w5 en ev := Ru.own kp (by simp)
  have Q5 : Bk e B HD C TB n tt w5 (k + 1) := Q.ru S r5 H (by rw [hh]; simp) zh
  refine F.sr ?_
  simp only [rg, Nat.reduceAdd]
  iterate 5 (refine F.oq rfl rfl rfl (fun _ => by simp [go_sem]) fun d K hK => ?_; go_simp; refine hK _ ?_; clear hK K d; try walk_nrm)
  refine F.enter rfl rfl (by decide) (fun _ => run_call_body rfl Tryz.func149 (by rfl) (by rfl)) (fun _ => events_call_body rfl Tryz.func149 (by rfl) (by rfl) _) ?_
  walk_nrm
  refine tell_w e K now en ev m w5 H5 (by omega) B (-1) 1 k S.lB (Ne.symm s2.2.1) Q5.b1 Q5.b2 (S.ok _ _ (by simp)) (S.ok _ _ (by simp)) _ F _ _ (fun v w6 hp => ?_)
  obtain ⟨rfl, ev1, H6, k6, v6⟩ := hp
  have r6 : Ru e HD w5 en ev w6 en ev1 := Ru.tell k6 v6
  have n5 : n2 ∉ rowL ev := fun z => by have := (H.rowN z).2; omega
  have n5' : n2 ∉ rowL en := fun z => by have := (H.entN z).2; omega
  obtain ⟨f0, f0', g1, g2⟩ := r6.temp K S.lH (by omega) n5 n5' hu0
  obtain ⟨f1, f1', _⟩ := r6.temp K S.lH (by omega) n5 n5' hu1
  obtain ⟨f2, f2', _⟩ := r6.temp K S.lH (by omega) n5 n5' hu2
  have Q6 : Bk e B HD C TB n tt w6 (k + 1) := Q5.ru S r6 H5 (Bk.had (e := e) ⟨S.lH, S.bH⟩ k6 (fun x hx => by simp at hx; rcases hx with y | y; exact .inl y; exact .inr (H.rowN y).1) (by simp) Q5.h0 Q5.zh).1 (Bk.had (e := e) ⟨S.lH, S.bH⟩ k6 (fun x hx => by simp at hx; rcases hx with y | y; exact .inl y; exact .inr (H.rowN y).1) (by simp) Q5.h0 Q5.zh).2
  have hs6 := k6.size
  clear hu0 hu1 hu2 zu0 zu1 zu2 hh zh
  rw [Frame.finish_at]
  try walk_nrm
  refine F.es ?_
  refine F.sr ?_
  simp only [rg, Nat.reduceAdd]
  refine F.oq rfl rfl rfl (fun _ => by simp [go_sem]) fun d K hK => ?_; go_simp; refine hK _ ?_; clear hK K d; try walk_nrm
  refine F.op rfl rfl (by decide) (fun d K hK => ?_)
  go_simp
  refine hK _ _ ⟨DX.still _ (fun e he => ?_), ?_⟩
  · have hm := mem_listed he
    simp [go_sem, *] at hm
    subst hm
    exact .inl ⟨_, rfl, rfl, by (first | assumption | (apply hfr <;> dsimp only <;> omega) | (apply hok; simp; done)), lt_of_cell (w := w6) (by assumption)⟩
  clear hK K d
  try walk_nrm
  refine F.oq rfl rfl rfl (fun _ => by simp [go_sem]) fun d K hK => ?_; go_simp; refine hK _ ?_; clear hK K d; try walk_nrm
  refine F.re ?_
  refine F.cf rfl ?_
  refine F.sk ?_
  have en1 := en
  obtain ⟨w7, en1, H7, Q7, r7, hw7⟩ : ∃ w7 en1, CW e w7 now en1 ev1 (m + 1) ∧ Bk e B HD C TB n tt w7 (k + 1) ∧ Ru e HD w6 en ev1 w7 en1 ev1 ∧ w7 = w6 ∧ en1 = en := ⟨w6, en, H6, Q6, Ru.refl, rfl, rfl⟩
  obtain ⟨hw7, hen⟩ := hw7
  rw [← hw7] at f0 f1 ⊢
  have hs7 : w6.heap.size ≤ w7.heap.size := by rw [hw7]; exact Nat.le_refl _
  rw [← hen] at g2
  clear hen hw7
  refine F.sr ?_
  simp only [rg, Nat.reduceAdd]
  iterate 5 (refine F.oq rfl rfl rfl (fun _ => by simp [go_sem]) fun d K hK => ?_; go_simp; refine hK _ ?_; clear hK K d; try walk_nrm)
  refine F.enter rfl rfl (by decide) (fun _ => run_call_body rfl Tryz.func149 (by rfl) (by rfl)) (fun _ => events_call_body rfl Tryz.func149 (by rfl) (by rfl) _) ?_
  walk_nrm
  refine tell_w e K (now) en1 ev1 (m + 1) w7 H7 (by omega) B (-1) 2 k S.lB (Ne.symm s2.2.1) Q7.b1 Q7.b2 (S.ok _ _ (by simp)) (S.ok _ _ (by simp)) _ F _ _ (fun v w8 hp => ?_)
  obtain ⟨rfl, ev2, H8, k8, v8⟩ := hp
  have r8 : Ru e HD w7 en1 ev1 w8 en1 ev2 := Ru.tell k8 v8
  obtain ⟨f0, _, g1, g2⟩ := r8.temp K S.lH (by omega) (by assumption) (by assumption) f0
  obtain ⟨f1, _, _⟩ := r8.temp K S.lH (by omega) (by assumption) (by assumption) f1
  have Q8 : Bk e B HD C TB n tt w8 (k + 1) := Q7.ru S r8 H7 (Bk.had (e := e) ⟨S.lH, S.bH⟩ k8 (fun x hx => by simp at hx; rcases hx with y | y; exact .inl y; exact .inr (H7.rowN y).1) (by simp) Q7.h0 Q7.zh).1 (Bk.had (e := e) ⟨S.lH, S.bH⟩ k8 (fun x hx => by simp at hx; rcases hx with y | y; exact .inl y; exact .inr (H7.rowN y).1) (by simp) Q7.h0 Q7.zh).2
  have hs8 := k8.size
  have r : Ru e HD w0 en ev w8 en1 ev2 := r5.trans (r6.trans (r7.trans r8))
  rw [Frame.finish_at]
  try walk_nrm
  refine F.es ?_
  refine F.sr ?_
  simp only [rg, Nat.reduceAdd]
  refine F.oq rfl rfl rfl (fun _ => by simp [go_sem]) fun d K hK => ?_; go_simp; refine hK _ ?_; clear hK K d; try walk_nrm
  refine F.op rfl rfl (by decide) (fun d K hK => ?_)
  go_simp
  refine hK _ _ ⟨DX.still _ (fun e he => ?_), ?_⟩
  · have hm := mem_listed he
    simp [go_sem, *] at hm
    subst hm
    exact .inl ⟨_, rfl, rfl, by (first | assumption | (apply hfr <;> dsimp only <;> omega) | (apply hok; simp; done)), lt_of_cell (w := w8) (by assumption)⟩
  clear hK K d
  try walk_nrm
  refine F.re ?_
  refine F.bl ?_
  refine F.sr ?_
  simp only [rg, Nat.reduceAdd]
  iterate 2 (refine F.oq rfl rfl rfl (fun _ => by simp [go_sem]) fun d K hK => ?_; go_simp; refine hK _ ?_; clear hK K d; try walk_nrm)
  refine F.re ?_
  refine F.ct rfl ?_
  refine F.sq ?_
  have okB := S.ok ⟨B, 1, none⟩ false (by simp)
  have hB1 := Q8.b1
  refine F.drawA (γ := Unit) (n := 10) mixed [[], [0], [1], [], [3], [2, 4], [5], [5], [0, 1, 2, 3, 4, 5, 6, 7], [0, 1, 2, 3, 4, 5, 6, 7, 8]] rfl (by kernel_rfl) (fun b g => [(38, sel (b 0) (.pointer (some ⟨B, 0, none⟩)) (undef)), (39, sel (b 1) (.pointer (some ⟨B, 0, none⟩)) (undef)), (40, sel (b 2) (.pointer (some ⟨B, 0, none⟩)) (undef)), (41, sel (b 3) (.pointer (some ⟨n2, 1, none⟩)) (undef)), (42, sel (b 4) (.int .i64 nn) (undef)), (43, sel (b 5) (.tuple #[.int .i64 0, .iface 168 (.pointer (some ⟨w8.heap.size, 0, none⟩))]) (undef)), (44, sel (b 6) (.int .i64 0) (undef)), (45, sel (b 7) (.iface 168 (.pointer (some ⟨w8.heap.size, 0, none⟩))) (undef)), (4, sel (b 8) (.int .i64 0) (.int .i64 0)), (5, sel (b 9) (.iface 168 (.pointer (some ⟨w8.heap.size, 0, none⟩))) (.nilIface))]) (fun b g w => (b 5 = false → w = w8) ∧ (b 5 = true → w = w8.alloc (.cells #[.int .i64 1, .int .i64 (-1), .int .i64 nn, .nilIface] 173))) (()) (by simp only [pu, Nat.reduceAdd, Nat.reduceEqDiff, reduceIte]) (⟨fun _ => rfl, fun h => by cases h⟩) (all_cons ?_ (all_cons ?_ (all_cons ?_ (all_cons ?_ (all_cons ?_ (all_cons ?_ (all_cons ?_ (all_cons ?_ (all_cons ?_ (all_cons ?_ (all_nil))))))))))) ?_
  · intro b g w hI hcl hbi hdp rest hre hkk
    obtain ⟨hwf, hwt⟩ := hI
    replace hbi : b 0 = false := hbi
    have nb1 : b 1 = false := nbf (fun h => hcl 1 (by decide) h 0 (by decide)) hbi
    have nb2 : b 2 = false := by
        cases hx : b 2 with
        | false => rfl
        | true => have := hcl 2 (by decide) hx 1 (by decide); rw [show b 1 = false from nb1] at this; cases this
    have nb5 : b 5 = false := by
        cases hx : b 5 with
        | false => rfl
        | true => have := hcl 5 (by decide) hx 2 (by decide); rw [show b 2 = false from nb2] at this; cases this
    have nb8 : b 8 = false := nbf (fun h => hcl 8 (by decide) h 0 (by decide)) hbi
    have nb9 : b 9 = false := nbf (fun h => hcl 9 (by decide) h 0 (by decide)) hbi
    simp only [nb1, nb2, nb5, nb8, nb9, hbi, pu, Nat.reduceAdd, Nat.reduceEqDiff, reduceIte]
    have ewc := (hwf nb5).symm
    subst ewc
    refine F.oq rfl rfl rfl (fun _ => by simp [go_sem]) fun d K hK => ?_; go_simp; refine hK _ ?_; clear hK K d; try walk_nrm
    have hk2 := hkk g _ ⟨fun _ => rfl, fun h => no nb5 h⟩
    simp only [nb1, nb2, nb5, nb8, nb9, hbi, pu, Nat.reduceAdd, Nat.reduceEqDiff, reduceIte] at hk2
    exact hk2
  · intro b g w hI hcl hbi hdp rest hre hkk
    obtain ⟨hwf, hwt⟩ := hI
    replace hbi : b 1 = false := hbi
    have d0 : b 0 = true := hdp 0 (by decide)
    have nb2 : b 2 = false := nbf (fun h => hcl 2 (by decide) h 1 (by decide)) hbi
    have nb5 : b 5 = false := by
        cases hx : b 5 with
        | false => rfl
        | true => have := hcl 5 (by decide) hx 2 (by decide); rw [show b 2 = false from nb2] at this; cases this
    have nb8 : b 8 = false := nbf (fun h => hcl 8 (by decide) h 1 (by decide)) hbi
    have nb9 : b 9 = false := nbf (fun h => hcl 9 (by decide) h 1 (by decide)) hbi
    simp only [d0, nb2, nb5, nb8, nb9, hbi, pu, Nat.reduceAdd, Nat.reduceEqDiff, reduceIte]
    have ewc := (hwf nb5).symm
    subst ewc
    refine F.oq rfl rfl rfl (fun _ => by simp [go_sem]) fun d K hK => ?_; go_simp; refine hK _ ?_; clear hK K d; try walk_nrm
    have hk2 := hkk g _ ⟨fun _ => rfl, fun h => no nb5 h⟩
    simp only [d0, nb2, nb5, nb8, nb9, hbi, pu, Nat.reduceAdd, Nat.reduceEqDiff, reduceIte] at hk2
    exact hk2
  · intro b g w hI hcl hbi hdp rest hre hkk
    obtain ⟨hwf, hwt⟩ := hI
    replace hbi : b 2 = false := hbi
    have d1 : b 1 = true := hdp 1 (by decide)
    have d0 : b 0 = true := hcl 1 (by decide) d1 0 (by decide)
    have nb5 : b 5 = false := nbf (fun h => hcl 5 (by decide) h 2 (by decide)) hbi
    have nb8 : b 8 = false := nbf (fun h => hcl 8 (by decide) h 2 (by decide)) hbi
    have nb9 : b 9 = false := nbf (fun h => hcl 9 (by decide) h 2 (by decide)) hbi
    simp only [d1, d0, nb5, nb8, nb9, hbi, pu, Nat.reduceAdd, Nat.reduceEqDiff, reduceIte]
    have ewc := (hwf nb5).symm
    subst ewc
    refine F.oq rfl rfl rfl (fun _ => by simp [go_sem]) fun d K hK => ?_; go_simp; refine hK _ ?_; clear hK K d; try walk_nrm
    have hk2 := hkk g _ ⟨fun _ => rfl, fun h => no nb5 h⟩
    simp only [d1, d0, nb5, nb8, nb9, hbi, pu, Nat.reduceAdd, Nat.reduceEqDiff, reduceIte] at hk2
    exact hk2
  · intro b g w hI hcl hbi hdp rest hre hkk
    obtain ⟨hwf, hwt⟩ := hI
    replace hbi : b 3 = false := hbi
    have nb4 : b 4 = false := nbf (fun h => hcl 4 (by decide) h 3 (by decide)) hbi
    have nb5 : b 5 = false := by
        cases hx : b 5 with
        | false => rfl
        | true => have := hcl 5 (by decide) hx 4 (by decide); rw [show b 4 = false from nb4] at this; cases this
    have nb8 : b 8 = false := nbf (fun h => hcl 8 (by decide) h 3 (by decide)) hbi
    have nb9 : b 9 = false := nbf (fun h => hcl 9 (by decide) h 3 (by decide)) hbi
    simp only [nb4, nb5, nb8, nb9, hbi, pu, Nat.reduceAdd, Nat.reduceEqDiff, reduceIte]
    have ewc := (hwf nb5).symm
    subst ewc
    refine F.oq rfl rfl rfl (fun _ => by simp [go_sem]) fun d K hK => ?_; go_simp; refine hK _ ?_; clear hK K d; try walk_nrm
    have hk2 := hkk g _ ⟨fun _ => rfl, fun h => no nb5 h⟩
    simp only [nb4, nb5, nb8, nb9, hbi, pu, Nat.reduceAdd, Nat.reduceEqDiff, reduceIte] at hk2
    exact hk2
  · intro b g w hI hcl hbi hdp rest hre hkk
    obtain ⟨hwf, hwt⟩ := hI
    replace hbi : b 4 = false := hbi
    have d3 : b 3 = true := hdp 3 (by decide)
    have nb5 : b 5 = false := nbf (fun h => hcl 5 (by decide) h 4 (by decide)) hbi
    have nb8 : b 8 = false := nbf (fun h => hcl 8 (by decide) h 4 (by decide)) hbi
    have nb9 : b 9 = false := nbf (fun h => hcl 9 (by decide) h 4 (by decide)) hbi
    simp only [d3, nb5, nb8, nb9, hbi, pu, Nat.reduceAdd, Nat.reduceEqDiff, reduceIte]
    have ewc := (hwf nb5).symm
    subst ewc
    refine F.op rfl rfl (by decide) (fun d K hK => ?_)
    go_simp
    refine hK _ _ ⟨DX.still _ (fun e he => ?_), ?_⟩
    · have hm := mem_listed he
      simp [go_sem, *] at hm
      subst hm
      exact .inl ⟨_, rfl, rfl, by (first | assumption | (apply hfr <;> dsimp only <;> omega) | (apply hok; simp; done)), lt_of_cell (w := w8) (by assumption)⟩
    clear hK K d
    try walk_nrm
    have hk2 := hkk g _ ⟨fun _ => rfl, fun h => no nb5 h⟩
    simp only [d3, nb5, nb8, nb9, hbi, pu, Nat.reduceAdd, Nat.reduceEqDiff, reduceIte] at hk2
    exact hk2
  · intro b g w hI hcl hbi hdp rest hre hkk
    obtain ⟨hwf, hwt⟩ := hI
    replace hbi : b 5 = false := hbi
    have d2 : b 2 = true := hdp 2 (by decide)
    have d4 : b 4 = true := hdp 4 (by decide)
    have d3 : b 3 = true := hcl 4 (by decide) d4 3 (by decide)
    have d1 : b 1 = true := hcl 2 (by decide) d2 1 (by decide)
    have d0 : b 0 = true := hcl 1 (by decide) d1 0 (by decide)
    have nb6 : b 6 = false := nbf (fun h => hcl 6 (by decide) h 5 (by decide)) hbi
    have nb7 : b 7 = false := nbf (fun h => hcl 7 (by decide) h 5 (by decide)) hbi
    have nb8 : b 8 = false := nbf (fun h => hcl 8 (by decide) h 5 (by decide)) hbi
    have nb9 : b 9 = false := nbf (fun h => hcl 9 (by decide) h 5 (by decide)) hbi
    simp only [d2, d4, d3, d1, d0, nb6, nb7, nb8, nb9, hbi, pu, Nat.reduceAdd, Nat.reduceEqDiff, reduceIte]
    have ewc := (hwf hbi).symm
    subst ewc
    refine F.enter rfl rfl (by decide) (fun _ => run_call_body rfl Tryz.func151 (by rfl) (by rfl)) (fun _ => events_call_body rfl Tryz.func151 (by rfl) (by rfl) _) ?_
    walk_nrm
    refine fail_x B 1 (-1) nn w8 hB1 okB _ F _ _ (fun v w9 hp => ?_)
    obtain ⟨rfl, hw9⟩ := hp
    rw [Frame.finish_at]
    try walk_nrm
    have hk2 := hkk g _ ⟨fun h => by simp [tick] at h, fun _ => hw9⟩
    simp only [d2, d4, d3, d1, d0, nb6, nb7, nb8, nb9, hbi, pu, Nat.reduceAdd, Nat.reduceEqDiff, reduceIte] at hk2
    exact hk2
  · intro b g w hI hcl hbi hdp rest hre hkk
    obtain ⟨hwf, hwt⟩ := hI
    replace hbi : b 6 = false := hbi
    have d5 : b 5 = true := hdp 5 (by decide)
    have d2 : b 2 = true := hcl 5 (by decide) d5 2 (by decide)
    have d4 : b 4 = true := hcl 5 (by decide) d5 4 (by decide)
    have d3 : b 3 = true := hcl 4 (by decide) d4 3 (by decide)
    have d1 : b 1 = true := hcl 2 (by decide) d2 1 (by decide)
    have d0 : b 0 = true := hcl 1 (by decide) d1 0 (by decide)
    have nb8 : b 8 = false := nbf (fun h => hcl 8 (by decide) h 6 (by decide)) hbi
    have nb9 : b 9 = false := nbf (fun h => hcl 9 (by decide) h 6 (by decide)) hbi
    simp only [d5, d2, d4, d3, d1, d0, nb8, nb9, hbi, pu, Nat.reduceAdd, Nat.reduceEqDiff, reduceIte]
    have ewt := hwt d5
    subst ewt
    refine F.oq rfl rfl rfl (fun _ => by simp [go_sem]) fun d K hK => ?_; go_simp; refine hK _ ?_; clear hK K d; try walk_nrm
    have hk2 := hkk g _ ⟨fun h => absurd (show b 5 = false from h) (by rw [d5]; decide), fun _ => rfl⟩
    simp only [d5, d2, d4, d3, d1, d0, nb8, nb9, hbi, pu, Nat.reduceAdd, Nat.reduceEqDiff, reduceIte] at hk2
    exact hk2
  · intro b g w hI hcl hbi hdp rest hre hkk
    obtain ⟨hwf, hwt⟩ := hI
    replace hbi : b 7 = false := hbi
    have d5 : b 5 = true := hdp 5 (by decide)
    have d2 : b 2 = true := hcl 5 (by decide) d5 2 (by decide)
    have d4 : b 4 = true := hcl 5 (by decide) d5 4 (by decide)
    have d3 : b 3 = true := hcl 4 (by decide) d4 3 (by decide)
    have d1 : b 1 = true := hcl 2 (by decide) d2 1 (by decide)
    have d0 : b 0 = true := hcl 1 (by decide) d1 0 (by decide)
    have nb8 : b 8 = false := nbf (fun h => hcl 8 (by decide) h 7 (by decide)) hbi
    have nb9 : b 9 = false := nbf (fun h => hcl 9 (by decide) h 7 (by decide)) hbi
    simp only [d5, d2, d4, d3, d1, d0, nb8, nb9, hbi, pu, Nat.reduceAdd, Nat.reduceEqDiff, reduceIte]
    have ewt := hwt d5
    subst ewt
    refine F.oq rfl rfl rfl (fun _ => by simp [go_sem]) fun d K hK => ?_; go_simp; refine hK _ ?_; clear hK K d; try walk_nrm
    have hk2 := hkk g _ ⟨fun h => absurd (show b 5 = false from h) (by rw [d5]; decide), fun _ => rfl⟩
    simp only [d5, d2, d4, d3, d1, d0, nb8, nb9, hbi, pu, Nat.reduceAdd, Nat.reduceEqDiff, reduceIte] at hk2
    exact hk2
  · intro b g w hI hcl hbi hdp rest hre hkk
    obtain ⟨hwf, hwt⟩ := hI
    replace hbi : b 8 = false := hbi
    have d0 : b 0 = true := hdp 0 (by decide)
    have d1 : b 1 = true := hdp 1 (by decide)
    have d2 : b 2 = true := hdp 2 (by decide)
    have d3 : b 3 = true := hdp 3 (by decide)
    have d4 : b 4 = true := hdp 4 (by decide)
    have d5 : b 5 = true := hdp 5 (by decide)
    have d6 : b 6 = true := hdp 6 (by decide)
    have d7 : b 7 = true := hdp 7 (by decide)
    have nb9 : b 9 = false := nbf (fun h => hcl 9 (by decide) h 8 (by decide)) hbi
    simp only [d0, d1, d2, d3, d4, d5, d6, d7, nb9, hbi, pu, Nat.reduceAdd, Nat.reduceEqDiff, reduceIte]
    have ewt := hwt d5
    subst ewt
    refine F.oq rfl rfl rfl (fun _ => by simp [go_sem]) fun d K hK => ?_; go_simp; refine hK _ ?_; clear hK K d; try walk_nrm
    have hk2 := hkk g _ ⟨fun h => absurd (show b 5 = false from h) (by rw [d5]; decide), fun _ => rfl⟩
    simp only [d0, d1, d2, d3, d4, d5, d6, d7, nb9, hbi, pu, Nat.reduceAdd, Nat.reduceEqDiff, reduceIte] at hk2
    exact hk2
  · intro b g w hI hcl hbi hdp rest hre hkk
    obtain ⟨hwf, hwt⟩ := hI
    replace hbi : b 9 = false := hbi
    have d0 : b 0 = true := hdp 0 (by decide)
    have d1 : b 1 = true := hdp 1 (by decide)
    have d2 : b 2 = true := hdp 2 (by decide)
    have d3 : b 3 = true := hdp 3 (by decide)
    have d4 : b 4 = true := hdp 4 (by decide)
    have d5 : b 5 = true := hdp 5 (by decide)
    have d6 : b 6 = true := hdp 6 (by decide)
    have d7 : b 7 = true := hdp 7 (by decide)
    have d8 : b 8 = true := hdp 8 (by decide)
    simp only [d0, d1, d2, d3, d4, d5, d6, d7, d8, hbi, pu, Nat.reduceAdd, Nat.reduceEqDiff, reduceIte]
    have ewt := hwt d5
    subst ewt
    refine F.oq rfl rfl rfl (fun _ => by simp [go_sem]) fun d K hK => ?_; go_simp; refine hK _ ?_; clear hK K d; try walk_nrm
    have hk2 := hkk g _ ⟨fun h => absurd (show b 5 = false from h) (by rw [d5]; decide), fun _ => rfl⟩
    simp only [d0, d1, d2, d3, d4, d5, d6, d7, d8, hbi, pu, Nat.reduceAdd, Nat.reduceEqDiff, reduceIte] at hk2
    exact hk2
  intro b g w hI hall
  obtain ⟨hwf, hwt⟩ := hI
  simp only [hall 0 (by decide), hall 1 (by decide), hall 2 (by decide), hall 3 (by decide), hall 4 (by decide), hall 5 (by decide), hall 6 (by decide), hall 7 (by decide), hall 8 (by decide), hall 9 (by decide), pu, Nat.reduceAdd, Nat.reduceEqDiff, reduceIte]
  refine F.re ?_
  refine F.ctl (fun _ => stepG_ret') ?_
  refine F.leave rfl rfl Tryz.func146 (resultsC_tmp2 (by rfl) _) ?_
  have hw9 := hwt (hall 5 (by decide))
  generalize hn9 : w8.heap.size = q at *
  have r9 : Ru e HD w8 en1 ev2 w en1 ev2 := Ru.own (Kp.alloc (L := []) hw9.symm) (by simp)
  have sz9 := sz_al hw9.symm hn9
  have H9 : CW e w _ en1 ev2 (m + 1 + 1) := H8.keep (Kp.alloc (L := []) hw9.symm) (by simp) l1 l2 l3 (by simp)
  have c0 := cl_new (i := 0) hw9.symm hn9 rfl
  have c1 := cl_new (i := 1) hw9.symm hn9 rfl
  have c2 := cl_new (i := 2) hw9.symm hn9 rfl
  have c3 := cl_new (i := 3) hw9.symm hn9 rfl
  have hr0 := r.kp.size
  have k9 : Kp [] w8 w := Kp.alloc hw9.symm
  refine hc _ _ ⟨en1, ev2, H9, Q8.ru S r9 H8 (k9.cell _ _ (by simp) Q8.h0) ((k9.froz _ _ (by simp) Q8.h0).trans Q8.zh), r.trans r9, q, rfl, by omega, by omega, fun z => by have := (H8.rowN z).2; omega, fun z => by have := (H8.entN z).2; omega, c0, c1, c2, c3⟩

end Go.Proofs.YtobagnjnbmgidaaGreatDoor
