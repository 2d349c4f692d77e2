/- The backend's Enter, over its wait. -/
import Derived.Test.YtobagnjnbmgidaaGreatDoorV4
set_option linter.unusedSimpArgs false
set_option linter.unusedVariables false
set_option maxHeartbeats 8000000
set_option maxRecDepth 100000
namespace Go.Proofs.YtobagnjnbmgidaaGreatDoor
section
open Go.Conc Go.RowKit

section
variable {St : Addr → Prop} {M : Nat} {Ok Ok' Ok1 : Addr → Bool → Prop} {w w1 w' : World} {en ev en1 ev1 en' ev' : Value}
theorem Tr.seg {L : List Nat} {C : List Addr} (h : Tr St M Ok' w en ev w1 en1 ev1) (k : Kp L w1 w' C) (hL : ∀ x ∈ L, x ∈ rowL en1 ∨ x ∈ rowL ev1 ∨ w1.heap.size ≤ x ∨ (x < M ∧ ∀ a, St a → a.block ≠ x)) (hC : ∀ x ∈ C, x.block < M ∧ ¬ St x) (hS : ∀ a, St a → a.block < w1.heap.size ∧ a.block ∉ rowL en1 ∧ a.block ∉ rowL ev1)
    (h1 : ∀ g ∈ rowL en', g ∈ rowL en1 ∨ w1.heap.size ≤ g) (h2 : ∀ g ∈ rowL ev', g ∈ rowL ev1 ∨ w1.heap.size ≤ g) : Tr St M Ok' w en ev w' en' ev' := by
  refine ⟨Nat.le_trans h.size k.size, fun b b1 b2 b3 b4 => ?_, fun a v hs hv => ?_⟩
  · obtain ⟨x1, x2, x3, x4⟩ := h.temp b b1 b2 b3 b4
    have hb2 : b < w1.heap.size := Nat.lt_of_lt_of_le b2 h.size; refine ⟨fun i v hv => ?_, fun z => ?_, fun z => ?_, x4⟩
    · obtain ⟨z1, z2⟩ := x1 i v hv
      have hb : b ∉ L := fun z => by rcases hL b z with y | y | y | y; exact x2 y; exact x3 y; omega; omega
      have hc : (⟨b, i, none⟩ : Addr) ∉ C := fun z => by have := (hC _ z).1; dsimp only at this; omega
      exact ⟨k.cellC _ _ hb hc z1, (k.frozC _ _ hb hc z1).trans z2⟩
    · rcases h1 b z with y | y
      · exact x2 y
      · omega
    · rcases h2 b z with y | y
      · exact x3 y
      · omega
  · obtain ⟨z1, z2⟩ := h.stat a v hs hv
    obtain ⟨s1, s2, s3⟩ := hS a hs; have hb : a.block ∉ L := fun z => by rcases hL _ z with y | y | y | y; exact s2 y; exact s3 y; omega; exact y.2 a hs rfl
    have hc : a ∉ C := fun z => (hC _ z).2 hs
    exact ⟨k.cellC _ _ hb hc z1, (k.frozC _ _ hb hc z1).trans z2⟩
end

/-- A link. -/
structure LinkAt (w : World) (q : Nat) (kd ly nn : Int) (nx : Value) : Prop where
  c0 : w.cell? ⟨q, 0, none⟩ = some (.int .i64 kd)
  c1 : w.cell? ⟨q, 1, none⟩ = some (.int .i64 ly)
  c2 : w.cell? ⟨q, 2, none⟩ = some (.int .i64 nn)
  c3 : w.cell? ⟨q, 3, none⟩ = some nx
/-- What the backend answers. -/
def BackV (kd nn : Int) (M : Nat) (Ok : Addr → Bool → Prop) (w' : World) (en ev : Value) (r : Value ⊕ Value) : Prop :=
  (kd = 1 ∧ r = .inl (.tuple #[.int .i64 nn, .nilIface])) ∨
  ((kd = 2 ∨ kd = 3) ∧ ∃ q, r = .inl (.tuple #[.int .i64 0, .iface 168 (.pointer (some ⟨q, 0, none⟩))]) ∧ M ≤ q ∧ q < w'.heap.size ∧ q ∉ rowL ev ∧ q ∉ rowL en ∧ (∀ (a : Addr) (wr : Bool), a.block = q → Ok a wr) ∧ LinkAt w' q (kd - 1) (-1) nn .nilIface) ∨
  (kd = 4 ∧ r = .inr (.iface 166 (.int .i64 nn)))
theorem BackV.less {kd nn : Int} {M M1 : Nat} {Ok : Addr → Bool → Prop} {w : World} {en ev : Value} {r : Value ⊕ Value} (h : BackV kd nn M1 Ok w en ev r) (hM : M ≤ M1) : BackV kd nn M Ok w en ev r := by
  rcases h with h | ⟨h, q, h1, h2, h3⟩ | h
  · exact .inl h
  · exact .inr (.inl ⟨h, q, h1, Nat.le_trans hM h2, h3⟩)
  · exact .inr (.inr h)
/-- Where a task's call has come to. -/
structure Dn {γ : Type} (e : Tk) (St : Addr → Prop) (M0 : Nat) (t : Int) (w0 : World) (en ev : Value) (p : Ph γ) (w : World) (en' ev' : Value) (m : List Value) : Prop where
  ok : TOk e p.M p.Ok
  tw : TW e p.Ok w t en' ev' p.es m
  cnt : m.length = 5 * (p.cn + (if p.sd then 1 else 2)) ∧ ∃ m0, m = m0 ++ evc t e.cl (-1) 2 0
  sz : p.M ≤ w.heap.size
  cn9 : p.cn < 900
  tr : Tr St M0 p.Ok w0 en ev w en' ev'

section
variable {γ : Type} {e : Tk} {St : Addr → Prop} {M0 : Nat} {Ψ : Ph γ → Goroutine → World → Prop}

theorem sleep_u (W : FutU e St M0 Ψ) (p : Ph γ) (K : TOk e p.M p.Ok) (now span : Int) (en ev : Value) (m : List Value) (w0 : World) (H : TW e p.Ok w0 now en ev p.es m) (hM : p.M ≤ w0.heap.size) (hMM : p.M = M0) (hN : e.N2 ≤ M0) (he9 : p.es.length < 900) (hsd : p.sd = false) (hm : m.length = 5 * (p.cn + 1)) (hSt : ∀ a, St a → e.sb a.block ∧ a.block ≠ e.A ∧ a.block ≠ e.J) (hwr : IntKind.i64.wrap (now + span) = now + span) (c : Frame) (cs : List Frame)
    (hc : ∀ (p' : Ph γ) (w' : World) (en' ev' : Value) (m' : List Value), p'.sd = true → TOk e p'.M p'.Ok → TW e p'.Ok w' (now + span) en' ev' p'.es m' → m'.length = 5 * p'.cn → p'.M ≤ w'.heap.size → p'.cn < 900 → Tr St M0 p'.Ok w0 en ev w' en' ev' → Ψ p' (G (c.finish (.tuple #[])) cs) w') :
    Ψ p (G (Frame.enter Tryz.prog 150 #[.pointer (some ⟨e.T, 0, none⟩), .int .i64 span] .normal) (c :: cs)) w0 := by
  have F := W.f p; have lA := K.lA; have l2 := K.l2; rw [enter_at _ Tryz.func150 rfl]; simp only [Tryz.ntmps150, List.size_toArray, List.length_cons, List.length_nil, Nat.reduceAdd, Nat.reduceSub, Array.replicate_succ, Array.replicate_zero, List.push_toArray, List.append_toArray, List.nil_append, List.cons_append]; refine F.rr ?_; simp only [rg, Nat.reduceAdd]; iterate 2 (refine F.oq rfl rfl rfl (by simp [go_sem]) fun d K h => ?_; go_simp; refine h _ ?_; clear h K d; try walk_nrm)
  refine F.enter rfl rfl (by decide) (fun _ => run_call_body rfl Tryz.func152 (by rfl) (by rfl)) (fun _ => events_call_body rfl Tryz.func152 (by rfl) (by rfl) _) ?_; walk_nrm; refine newWait_u e K now span en ev p.es m w0 H hM he9 hwr _ F _ _ (fun v w1 hp => ?_); obtain ⟨x, rfl, hx, hxl, kp, en1, i, hi, H1, nx1, nx2, x0, x1, zx, r1⟩ := hp; rw [Frame.finish_at]; try walk_nrm
  refine F.enter rfl rfl (by decide) (fun _ => run_call_body rfl Tryz.func153 (by rfl) (by rfl)) (fun _ => events_call_body rfl Tryz.func153 (by rfl) (by rfl) _) ?_; walk_nrm; refine W.wait p x _ _ w1 now _ en1 ev m i hsd (by omega) hxl nx1 nx2 x0 x1 zx hi H1 hm (fun p' w2 en2 ev2 m2 q1 q2 q3 q4 q5 q6 q7 q8 q9 q10 q11 => ?_); clear F; have F := W.f p'; rw [Frame.finish_at]; try walk_nrm
  refine F.re ?_; refine F.ctl (fun _ => stepG_end) ?_; refine F.leave rfl rfl Tryz.func150 (resultsC_none (by rfl) _) ?_; have ks := kp.size; refine hc p' w2 en2 ev2 m2 q1 q2 q3 q4 q5 q7 ⟨by omega, fun b b1 b2 b3 b4 => ?_, fun a v hs hv => ?_⟩
  · have hbA : (∀ j, (⟨b, j, none⟩ : Addr) ∉ [(⟨e.A, 1, none⟩ : Addr)]) := fun j z => by simp at z <;> omega
    have hb1 : b ∉ rowL en1 := fun z => by
      rcases r1 b z with y | y
      · exact b3 y
      · omega
    obtain ⟨y1, y2, y3, y4⟩ := q9 b (by omega) b1 (by omega) hb1 b4; refine ⟨fun j v hv => ?_, y2, y3, y4⟩; obtain ⟨z1, z2⟩ := y1 j v (kp.cellC _ _ b3 (hbA j) hv); exact ⟨z1, z2.trans (kp.frozC _ _ b3 (hbA j) hv)⟩
  · obtain ⟨s1, s2, s3⟩ := hSt a hs
    have hr : a.block ∉ rowL en := fun z => H.enS _ z s1
    have hcA : a ∉ [(⟨e.A, 1, none⟩ : Addr)] := fun z => by simp at z; subst z; exact s2 rfl
    obtain ⟨z1, z2⟩ := q10 a v hs (kp.cellC _ _ hr hcA hv); exact ⟨z1, z2.trans (kp.frozC _ _ hr hcA hv)⟩

theorem bk_tell {Ok : Addr → Bool → Prop} {Ψ0 : Goroutine → World → Prop} (F : Fut Tryz.prog false (DX Ok) Ψ0) {M : Nat} (K : TOk e M Ok) (c : Frame) (cs : List Frame) (B q : Nat) {y2 y3 y8 y9 y10 y11 y12 y13 y14 y15 y16 y17 y18 y19 y20 y21 y22 y23 y24 y25 y26 y27 y28 y29 y30 y31 y32 y33 y34 y35 y36 y37 y38 y39 y40 y41 y42 y43 y44 y45 y46 y47 y48 y49 y50 y51 y52 y53 y54 y55 y56 y57 y58 y59 y60 y61 y62 : Value} (now kd nn kn : Int) (en ev : Value) (es : List (Int × Value)) (m : List Value) (w0 : World) (H : TW e Ok w0 now en ev es m) (hM : M ≤ w0.heap.size) (hm : m.length < 4900) (lB : B < e.N) (nB : e.J ≠ B) (b1 : w0.cell? ⟨B, 1, none⟩ = some (.int .i64 (-1))) (b2 : w0.cell? ⟨B, 2, none⟩ = some (.pointer (some ⟨e.J, 0, none⟩))) (o1 : Ok ⟨B, 1, none⟩ false) (o2 : Ok ⟨B, 2, none⟩ false)
    (lq : e.N ≤ q) (nq1 : q ∉ rowL ev) (okq : ∀ (a : Addr) (wr : Bool), a.block = q → Ok a wr) (f0 : w0.cell? ⟨q, 0, none⟩ = some (.int .i64 kd)) (f1 : w0.cell? ⟨q, 1, none⟩ = some (.int .i64 nn)) (hkd : kd = 1 ∨ kd = 2 ∨ kd = 3 ∨ kd = 4)
    (hc : ∀ r w' ev' m', TW e Ok w' now en ev' es m' → m' = m ++ evc now e.cl (-1) 2 kn → Kp (e.J :: rowL ev) w0 w' → (∀ g ∈ rowL ev', g ∈ rowL ev ∨ w0.heap.size ≤ g) → BackV kd nn w0.heap.size Ok w' en ev' r → Ψ0 (G (ends c r) cs) w') :
    Ψ0 (G ((base 146).at ⟨(List.toArray (.pointer (some ⟨B, 0, none⟩) :: .pointer (some ⟨e.T, 0, none⟩) :: y2 :: y3 :: .int .i64 0 :: .nilIface :: .int .i64 kn :: .pointer (some ⟨q, 0, none⟩) :: y8 :: y9 :: y10 :: y11 :: y12 :: y13 :: y14 :: y15 :: y16 :: y17 :: y18 :: y19 :: y20 :: y21 :: y22 :: y23 :: y24 :: y25 :: y26 :: y27 :: y28 :: y29 :: y30 :: y31 :: y32 :: y33 :: y34 :: y35 :: y36 :: y37 :: y38 :: y39 :: y40 :: y41 :: y42 :: y43 :: y44 :: y45 :: y46 :: y47 :: y48 :: y49 :: y50 :: y51 :: y52 :: y53 :: y54 :: y55 :: y56 :: y57 :: y58 :: y59 :: y60 :: y61 :: y62 :: [])), []⟩ [.code (dropSeq 4 (Tryz.f146.body.getD .skip))]) (c :: cs)) w0 := by
  have lA := K.lA; have lT := K.lT; have lJ := K.lJ; have hsz := H.size; unfold dropSeq; refine F.sr ?_; simp only [rg, Nat.reduceAdd]; iterate 5 (refine F.oq rfl rfl rfl (by simp [go_sem]) fun d K h => ?_; go_simp; refine h _ ?_; clear h K d; try walk_nrm)
  refine F.enter rfl rfl (by decide) (fun _ => run_call_body rfl Tryz.func149 (by rfl) (by rfl)) (fun _ => events_call_body rfl Tryz.func149 (by rfl) (by rfl) _) ?_; walk_nrm; refine tell_u e K now en ev es m w0 H hM hm B (-1) 2 kn lB nB b1 b2 o1 o2 _ F _ _ (fun v w8 hp => ?_); obtain ⟨rfl, ev2, m2, hl2, H8, k8, v8⟩ := hp; have hs8 := k8.size; have hqJ : q ∉ e.J :: rowL ev := fun z => by simp at z; rcases z with z | z; omega; exact nq1 z
  have hBJ : B ∉ e.J :: rowL ev := fun z => by simp at z; rcases z with z | z; omega; have := (H.rowN z).1; omega
  have g0 := k8.cell _ _ hqJ f0; have g1 := k8.cell _ _ hqJ f1; have gB := k8.cell _ _ hBJ b1; rw [Frame.finish_at]; try walk_nrm
  refine F.re ?_
  have hc' : ∀ r w', BackU kd nn w8 w' r → Ψ0 (G (ends c r) cs) w' := fun r w' hb => by
    rcases hb with ⟨h1, h2, rfl⟩ | ⟨h1, h2, h3⟩ | ⟨h1, h2, rfl⟩
    · exact hc r w' ev2 m2 H8 hl2 k8 v8 (.inl ⟨h1, h2⟩)
    · generalize hn9 : w8.heap.size = q9 at h2
      have k9 : Kp [] w8 w' := Kp.alloc h3.symm; have sz9 := sz_al h3.symm hn9; have c0 := cl_new (i := 0) h3.symm hn9 rfl; have c1 := cl_new (i := 1) h3.symm hn9 rfl; have c2 := cl_new (i := 2) h3.symm hn9 rfl; have c3 := cl_new (i := 3) h3.symm hn9 rfl; refine hc r w' ev2 m2 (H8.fresh k9 lA lT lJ (by simp)) hl2 (k8.callN k9 (by simp) (by simp)) v8 (.inr (.inl ⟨h1, q9, h2, by omega, by omega, fun z => by have := (H8.rowN z).2; omega, fun z => by have := (H8.entN z).2; omega, fun a wr ha => K.fr a wr (by omega), ⟨c0, c1, c2, c3⟩⟩))
    · exact hc r w' ev2 m2 H8 hl2 k8 v8 (.inr (.inr ⟨h1, h2⟩))
  rcases hkd with rfl | rfl | rfl | rfl
  · exact sw1 F c cs B e.T q nn w8 gB o1 okq g0 g1 hc'
  · exact sw2 F c cs B e.T q nn w8 gB o1 okq g0 g1 hc'
  · exact sw3 F c cs B e.T q nn w8 gB o1 okq g0 g1 hc'
  · exact sw4 F c cs B e.T q nn w8 gB o1 okq g0 g1 hc'

theorem bk_mid (W : FutU e St M0 Ψ) (p : Ph γ) (K : TOk e p.M p.Ok) (c : Frame) (cs : List Frame) (B q : Nat) {y2 y3 y8 y9 y10 y11 y12 y13 y14 y15 y16 y17 y18 y19 y20 y21 y22 y23 y24 y25 y26 y27 y28 y29 y30 y31 y32 y33 y34 y35 y36 y37 y38 y39 y40 y41 y42 y43 y44 y45 y46 y47 y48 y49 y50 y51 y52 y53 y54 y55 y56 y57 y58 y59 y60 y61 y62 : Value} (now kd nn tk kn : Int) (en ev : Value) (m : List Value) (w0 : World) (H : TW e p.Ok w0 now en ev p.es m) (hM : p.M ≤ w0.heap.size) (hMM : p.M = M0) (hN : e.N2 ≤ M0) (he9 : p.es.length < 900) (hc9 : p.cn < 800) (hsd : p.sd = false) (hm : m.length = 5 * (p.cn + 1)) (hSt : ∀ a, St a → e.sb a.block ∧ a.block ≠ e.A ∧ a.block ≠ e.J)
    (lB : B < e.N) (nB : e.J ≠ B) (b1 : w0.cell? ⟨B, 1, none⟩ = some (.int .i64 (-1))) (b2 : w0.cell? ⟨B, 2, none⟩ = some (.pointer (some ⟨e.J, 0, none⟩))) (sB1 : St ⟨B, 1, none⟩) (sB2 : St ⟨B, 2, none⟩) (oB : ∀ (p' : Ph γ) (i : Nat), TOk e p'.M p'.Ok → p'.Ok ⟨B, i, none⟩ false)
    (lq : M0 ≤ q) (lq2 : q < w0.heap.size) (nq1 : q ∉ rowL ev) (nq2 : q ∉ rowL en) (f0 : w0.cell? ⟨q, 0, none⟩ = some (.int .i64 kd)) (f1 : w0.cell? ⟨q, 1, none⟩ = some (.int .i64 nn)) (f2 : w0.cell? ⟨q, 2, none⟩ = some (.int .i64 tk)) (hkd : kd = 1 ∨ kd = 2 ∨ kd = 3 ∨ kd = 4) (htk : 0 ≤ tk) (hwr : IntKind.i64.wrap (now + tk) = now + tk) (hkn : kn ≤ 0 ∧ 0 ≤ kn)
    (hc : ∀ p' r w' en' ev' m', Dn e St M0 (now + tk) w0 en ev p' w' en' ev' m' → BackV kd nn w0.heap.size p'.Ok w' en' ev' r → Ψ p' (G (ends c r) cs) w') :
    Ψ p (G ((base 146).at ⟨(List.toArray (.pointer (some ⟨B, 0, none⟩) :: .pointer (some ⟨e.T, 0, none⟩) :: y2 :: y3 :: .int .i64 0 :: .nilIface :: .int .i64 kn :: .pointer (some ⟨q, 0, none⟩) :: y8 :: y9 :: y10 :: y11 :: y12 :: y13 :: y14 :: y15 :: y16 :: y17 :: y18 :: y19 :: y20 :: y21 :: y22 :: y23 :: y24 :: y25 :: y26 :: y27 :: y28 :: y29 :: y30 :: y31 :: y32 :: y33 :: y34 :: y35 :: y36 :: y37 :: y38 :: y39 :: y40 :: y41 :: y42 :: y43 :: y44 :: y45 :: y46 :: y47 :: y48 :: y49 :: y50 :: y51 :: y52 :: y53 :: y54 :: y55 :: y56 :: y57 :: y58 :: y59 :: y60 :: y61 :: y62 :: [])), []⟩ [.code (dropSeq 3 (Tryz.f146.body.getD .skip))]) (c :: cs)) w0 := by
  have F := W.f p; have lA := K.lA; have l2 := K.l2; have lT := K.lT; have lJ := K.lJ; have hsz := H.size; have okq : ∀ (a : Addr) (wr : Bool), a.block = q → p.Ok a wr := fun a wr h => K.fr a wr (by omega)
  have o2 := okq ⟨q, 2, none⟩ false rfl
  have hSw : ∀ {Ok : Addr → Bool → Prop} {w : World} {now : Int} {en ev : Value} {es : List (Int × Value)} {m : List Value}, TW e Ok w now en ev es m → ∀ a, St a → a.block < w.heap.size ∧ a.block ∉ rowL en ∧ a.block ∉ rowL ev := fun H a ha => by
    have h1 := hSt a ha; have h2 := H.size2; have h3 := K.sN _ h1.1; exact ⟨by omega, fun z => H.enS _ z h1.1, fun z => H.evS _ z h1.1⟩
  unfold dropSeq
  by_cases htp : (0 : Int) < tk
  · refine F.ctl (fun _ => stepG_seq) ?_
    refine F.sr ?_; simp only [rg, Nat.reduceAdd]; refine F.oq rfl rfl rfl (by simp [go_sem]) fun d K h => ?_; go_simp; refine h _ ?_; clear h K d; try walk_nrm
    refine F.ol rfl rfl rfl fun d K h => ?_; go_simp; refine h _ (fun e m => ?_) ?_; simp [go_sem, *] at m; subst m; exact evr (w := w0) (by assumption) (by first | assumption | (apply hfr <;> dsimp only <;> omega)); clear h K d; try walk_nrm
    refine F.oq rfl rfl rfl (by simp [go_sem]) fun d K h => ?_; go_simp; refine h _ ?_; clear h K d; try walk_nrm
    refine F.re ?_; refine F.ct rfl ?_; refine F.rr ?_; simp only [rg, Nat.reduceAdd]; iterate 2 (refine F.oq rfl rfl rfl (by simp [go_sem]) fun d K h => ?_; go_simp; refine h _ ?_; clear h K d; try walk_nrm)
    refine F.ol rfl rfl rfl fun d K h => ?_; go_simp; refine h _ (fun e m => ?_) ?_; simp [go_sem, *] at m; subst m; exact evr (w := w0) (by assumption) (by first | assumption | (apply hfr <;> dsimp only <;> omega)); clear h K d; try walk_nrm
    refine F.enter rfl rfl (by decide) (fun _ => run_call_body rfl Tryz.func150 (by rfl) (by rfl)) (fun _ => events_call_body rfl Tryz.func150 (by rfl) (by rfl) _) ?_; walk_nrm; refine sleep_u W p K now tk en ev m w0 H hM hMM hN he9 hsd hm hSt hwr _ _ (fun p' w7 en7 ev7 m7 a1 K' H7 a2 a3 a4 tr => ?_); obtain ⟨t1, t2, t3, t4⟩ := tr.temp q lq lq2 nq2 nq1; have b17 := (tr.stat _ _ sB1 b1).1; have b27 := (tr.stat _ _ sB2 b2).1; clear F; have F := W.f p'; rw [Frame.finish_at]; try walk_nrm
    refine F.re ?_; refine bk_tell F K' c cs B q (now + tk) kd nn kn en7 ev7 p'.es m7 w7 H7 a3 (by omega) lB nB b17 b27 (oB p' 1 K') (oB p' 2 K') (by omega) t3 t4 (t1 0 _ f0).1 (t1 1 _ f1).1 hkd (fun r w' ev' m' H' hl k7 v7 hb => ?_); have hk := k7.size; have hs7 := tr.size; refine hc p' r w' en7 ev' m' ⟨K', H', ⟨by rw [hl]; simp [evc]; rw [a2, a1]; simp; omega, _, by rw [hl, show kn = 0 by omega]⟩, by omega, a4, tr.seg k7 (fun x hx => ?_) (by simp) (hSw H7) (fun g hg => .inl hg) v7⟩ ?_
    · simp at hx
      rcases hx with rfl | hx
      · exact .inr (.inr (.inr ⟨by omega, fun a ha => (hSt a ha).2.2⟩))
      · exact .inr (.inl hx)
    · rcases hb with h | ⟨h, q9, h1, h2, h3⟩ | h
      · exact .inl h
      · exact .inr (.inl ⟨h, q9, h1, by omega, h3⟩)
      · exact .inr (.inr h)
  · have htz : tk = 0 := by omega
    subst htz; refine F.sq ?_; refine F.sr ?_; simp only [rg, Nat.reduceAdd]; refine F.oq rfl rfl rfl (by simp [go_sem]) fun d K h => ?_; go_simp; refine h _ ?_; clear h K d; try walk_nrm
    refine F.ol rfl rfl rfl fun d K h => ?_; go_simp; refine h _ (fun e m => ?_) ?_; simp [go_sem, *] at m; subst m; exact evr (w := w0) (by assumption) (by first | assumption | (apply hfr <;> dsimp only <;> omega)); clear h K d; try walk_nrm
    refine F.oq rfl rfl rfl (by simp [go_sem]) fun d K h => ?_; go_simp; refine h _ ?_; clear h K d; try walk_nrm
    refine F.re ?_; refine F.cf rfl ?_; refine F.sk ?_; rw [Int.add_zero] at hc; refine bk_tell F K c cs B q now kd nn kn en ev p.es m w0 H hM (by omega) lB nB b1 b2 (oB p 1 K) (oB p 2 K) (by omega) nq1 okq f0 f1 hkd (fun r w' ev' m' H' hl k7 v7 hb => ?_); have hk := k7.size; refine hc p r w' en ev' m' ⟨K, H', ⟨by rw [hl]; simp [evc]; rw [hm, hsd]; simp; omega, _, by rw [hl, show kn = 0 by omega]⟩, by omega, by omega, Tr.of k7 (fun a wr h _ => K.fr a wr (by omega)) (fun x hx => ?_) (by simp) (hSw H) (fun g hg => .inl hg) v7⟩ ?_
    · simp at hx
      rcases hx with rfl | hx
      · exact .inr (.inr (.inr ⟨by omega, fun a ha => (hSt a ha).2.2⟩))
      · exact .inr (.inl hx)
    · rcases hb with h | ⟨h, q9, h1, h2, h3⟩ | h
      · exact .inl h
      · exact .inr (.inl ⟨h, q9, h1, by omega, h3⟩)
      · exact .inr (.inr h)
end
end
section
open Go.Conc Go.RowKit

section
variable {γ : Type} {e : Tk} {St : Addr → Prop} {M0 : Nat} {Ψ : Ph γ → Goroutine → World → Prop}

theorem back_u (W : FutU e St M0 Ψ) (p : Ph γ) (K : TOk e p.M p.Ok) (c : Frame) (cs : List Frame) (B HD : Nat) (now k0 k1 k2 : Int) (en ev : Value) (m : List Value) (w0 : World) (H : TW e p.Ok w0 now en ev p.es m) (hM : p.M ≤ w0.heap.size) (hMM : p.M = M0) (hN : e.N2 ≤ M0) (he9 : p.es.length < 900) (hc9 : p.cn < 800) (hsd : p.sd = false) (hm : m.length = 5 * p.cn) (hSt : ∀ a, St a → e.sb a.block ∧ a.block ≠ e.A ∧ a.block ≠ e.J ∧ a ≠ ⟨HD, e.cl, none⟩)
    (lB : B < e.N) (sH : e.sb HD) (nB : e.J ≠ B) (nBH : B ≠ HD) (nH : HD ≠ e.A ∧ HD ≠ e.T ∧ HD ≠ e.J) (b1 : w0.cell? ⟨B, 1, none⟩ = some (.int .i64 (-1))) (b2 : w0.cell? ⟨B, 2, none⟩ = some (.pointer (some ⟨e.J, 0, none⟩))) (sB1 : St ⟨B, 1, none⟩) (sB2 : St ⟨B, 2, none⟩) (oB : ∀ (p' : Ph γ) (i : Nat), TOk e p'.M p'.Ok → p'.Ok ⟨B, i, none⟩ false)
    (hnx : CallsX Tryz.prog false (DX p.Ok) 147 #[.pointer (some ⟨B, 0, none⟩), .int .i64 (e.cl : Int)] w0 fun v w' => v = .tuple #[.int .i64 0, .agg #[.int .i64 k0, .int .i64 k1, .int .i64 k2]] ∧ Kp [] w0 w' [⟨HD, e.cl, none⟩] ∧ w'.cell? ⟨HD, e.cl, none⟩ = some (.int .i64 1) ∧ w'.frozen? ⟨HD, e.cl, none⟩ = false)
    (hkd : k0 = 1 ∨ k0 = 2 ∨ k0 = 3 ∨ k0 = 4) (htk : 0 ≤ k2) (hwr : IntKind.i64.wrap (now + k2) = now + k2)
    (hc : ∀ p' r w' en' ev' m', Dn e St M0 (now + k2) w0 en ev p' w' en' ev' m' → BackV k0 k1 w0.heap.size p'.Ok w' en' ev' r → Ψ p' (G (ends c r) cs) w') :
    Ψ p (G (Frame.enter Tryz.prog 146 #[.pointer (some ⟨B, 0, none⟩), .pointer (some ⟨e.T, 0, none⟩)] .normal) (c :: cs)) w0 := by
  have F := W.f p; have lA := K.lA; have lT := K.lT; have lJ := K.lJ; have hsz := H.size; have lH := K.sN _ sH; have l2 := K.l2; have hsz2 := H.size2; have ht2 := H.t2; have okt2 := K.t2; have hfr : ∀ (a : Addr) (wr : Bool), w0.heap.size ≤ a.block → p.Ok a wr := fun a wr h => K.fr a wr (by omega)
  rw [enter_at _ Tryz.func146 rfl]; simp only [Tryz.ntmps146, List.size_toArray, List.length_cons, List.length_nil, Nat.reduceAdd, Nat.reduceSub, Array.replicate_succ, Array.replicate_zero, List.push_toArray, List.append_toArray, List.nil_append, List.cons_append]; refine F.sr ?_; simp only [rg, Nat.reduceAdd]; iterate 2 (refine F.oq rfl rfl rfl (by simp [go_sem]) fun d K h => ?_; go_simp; refine h _ ?_; clear h K d; try walk_nrm)
  refine F.esr ?_; simp only [rg, Nat.reduceAdd]; iterate 2 (refine F.oq rfl rfl rfl (by simp [go_sem]) fun d K h => ?_; go_simp; refine h _ ?_; clear h K d; try walk_nrm)
  refine F.enter rfl rfl (by decide) (fun _ => run_call_body rfl Tryz.func148 (by rfl) (by rfl)) (fun _ => events_call_body rfl Tryz.func148 (by rfl) (by rfl) _) ?_; walk_nrm; refine client_x e.T e.cl w0 ht2 okt2 _ F _ _ (fun v wq hp => ?_); obtain ⟨rfl, hq⟩ := hp; have hq := hq.symm; subst hq; rw [Frame.finish_at]; try walk_nrm
  refine F.enter rfl rfl (by decide) (fun _ => run_call_body rfl Tryz.func147 (by rfl) (by rfl)) (fun _ => events_call_body rfl Tryz.func147 (by rfl) (by rfl) _) ?_; walk_nrm; refine hnx _ F _ _ (fun v w1 hp => ?_); obtain ⟨rfl, kn, hh, zh⟩ := hp; have kp : Kp [] w0 w1 [⟨HD, e.cl, none⟩] := kn; have hs1 := kn.size; rw [Frame.finish_at]; try walk_nrm
  iterate 3 (refine F.oq rfl rfl rfl (by simp [go_sem]) fun d K h => ?_; go_simp; refine h _ ?_; clear h K d; try walk_nrm)
  refine F.op rfl rfl (by decide) (fun d K hK => ?_); go_simp; rw [alloc_at']; refine hK _ _ ⟨DX.alloc _ _ (fun e he => ?_), ?_⟩
  · have hm := mem_listed he
    simp [go_sem] at hm
  clear hK K d; try walk_nrm
  generalize ew2 : World.alloc w1 _ = w2; generalize hn2 : (World.heap w1).size = n2; have sz2 := sz_al2 ew2 hn2; replace zh := fz_al zh hh ew2; replace hh := cl_al hh ew2; have hu0 := cl_new (i := 0) ew2 hn2 rfl; have zu0 := fz_new ew2 hn2 0; have hu1 := cl_new (i := 1) ew2 hn2 rfl; have zu1 := fz_new ew2 hn2 1; have hu2 := cl_new (i := 2) ew2 hn2 rfl; have zu2 := fz_new ew2 hn2 2; try simp only [List.getElem_toArray, List.getElem_cons_zero, List.getElem_cons_succ] at hu0 hu1 hu2
  replace kp := kp.alN ew2; refine F.oq rfl rfl rfl (by simp [go_sem]) fun d K h => ?_; go_simp; refine h _ ?_; clear h K d; try walk_nrm
  refine F.op rfl rfl (by decide) (fun d K hK => ?_); go_simp
  repeat rw [setCell_at']
  refine hK _ _ ⟨DX.set3 _ (by (first | assumption | (apply hfr <;> dsimp only <;> omega))) (by (first | assumption | (apply hfr <;> dsimp only <;> omega))) (by (first | assumption | (apply hfr <;> dsimp only <;> omega))) (fun e he => ?_), ?_⟩
  · have hm := mem_listed he
    simp [go_sem, storedEv, evst_slice, evst_ptr, evst_iface, evst_nil, evst_bool, *] at hm; rcases hm with rfl | rfl | rfl <;> exact .inl ⟨_, rfl, rfl, by (first | assumption | (apply hfr <;> dsimp only <;> omega)), by simp only [size_at, size_set]; first | omega | exact lt_of_cell (by assumption)⟩
  clear hK K d; try walk_nrm
  generalize ew3 : World.setCell w2 _ _ = w3; have sz3 := sz_st2 ew3; replace zh := fz_st zh ew3; replace zu0 := fz_st zu0 ew3; replace zu1 := fz_st zu1 ew3; replace zu2 := fz_st zu2 ew3; replace hh := cl_st hh ew3 (by simp <;> omega); replace hu0 := cl_st' hu0 ew3; replace hu1 := cl_st hu1 ew3 (by simp <;> omega); replace hu2 := cl_st hu2 ew3 (by simp <;> omega); replace kp := kp.stN ew3 (by first | (left; simp; done) | (right; left; simp; done) | (right; right; dsimp only; omega)); generalize ew4 : World.setCell w3 _ _ = w4; have sz4 := sz_st2 ew4; replace zh := fz_st zh ew4; replace zu0 := fz_st zu0 ew4; replace zu1 := fz_st zu1 ew4; replace zu2 := fz_st zu2 ew4; replace hh := cl_st hh ew4 (by simp <;> omega); replace hu0 := cl_st hu0 ew4 (by simp <;> omega); replace hu1 := cl_st' hu1 ew4; replace hu2 := cl_st hu2 ew4 (by simp <;> omega); replace kp := kp.stN ew4 (by first | (left; simp; done) | (right; left; simp; done) | (right; right; dsimp only; omega)); generalize ew5 : World.setCell w4 _ _ = w5; have sz5 := sz_st2 ew5; replace zh := fz_st zh ew5; replace zu0 := fz_st zu0 ew5; replace zu1 := fz_st zu1 ew5; replace zu2 := fz_st zu2 ew5; replace hh := cl_st hh ew5 (by simp <;> omega); replace hu0 := cl_st hu0 ew5 (by simp <;> omega); replace hu1 := cl_st hu1 ew5 (by simp <;> omega); replace hu2 := cl_st' hu2 ew5; replace kp := kp.stN ew5 (by first | (left; simp; done) | (right; left; simp; done) | (right; right; dsimp only; omega))
  refine F.re ?_; have hrH : HD ∉ rowL en ∧ HD ∉ rowL ev := ⟨fun z => H.enS _ z sH, fun z => H.evS _ z sH⟩; have H5 : TW e p.Ok w5 now en ev p.es m := H.keep kp lA lT lJ (by simp) (by intro x hx; simp at hx; subst hx; exact ⟨nH.1, nH.2.1, nH.2.2, hrH.1, hrH.2⟩); have cB : ∀ i, (⟨B, i, none⟩ : Addr) ∉ [(⟨HD, e.cl, none⟩ : Addr)] := fun i z => nBH (by simpa using congrArg Addr.block (List.mem_singleton.1 z))
  have b15 := kp.cellC _ _ (by simp) (cB 1) b1; have b25 := kp.cellC _ _ (by simp) (cB 2) b2; have hs5 := kp.size; have n5 : n2 ∉ rowL ev := fun z => by have := (H.rowN z).2; omega
  have n5' : n2 ∉ rowL en := fun z => by have := (H.entN z).2; omega
  refine F.sr ?_; simp only [rg, Nat.reduceAdd]; iterate 5 (refine F.oq rfl rfl rfl (by simp [go_sem]) fun d K h => ?_; go_simp; refine h _ ?_; clear h K d; try walk_nrm)
  refine F.enter rfl rfl (by decide) (fun _ => run_call_body rfl Tryz.func149 (by rfl) (by rfl)) (fun _ => events_call_body rfl Tryz.func149 (by rfl) (by rfl) _) ?_; walk_nrm; refine tell_u e K now en ev p.es m w5 H5 (by omega) (by omega) B (-1) 1 0 lB nB b15 b25 (oB p 1 K) (oB p 2 K) _ F _ _ (fun v w6 hp => ?_); obtain ⟨rfl, ev1, m1, hl1', H6, k6, v6⟩ := hp; have hl1 : m1.length = m.length + 5 := by rw [hl1']; simp [evc]
  clear hl1'; have hs6 := k6.size; have hnJ : n2 ∉ e.J :: rowL ev := fun z => by simp at z; rcases z with z | z; omega; exact n5 z
  have hBJ : B ∉ e.J :: rowL ev := fun z => by simp at z; rcases z with z | z; omega; have := (H.rowN z).1; omega
  have f0 := k6.cell _ _ hnJ hu0; have f1 := k6.cell _ _ hnJ hu1; have f2 := k6.cell _ _ hnJ hu2; have b16 := k6.cell _ _ hBJ b15; have b26 := k6.cell _ _ hBJ b25
  have n6 : n2 ∉ rowL ev1 := fun z => by
    rcases v6 _ z with y | y
    · exact n5 y
    · omega
  clear hu0 hu1 hu2 zu0 zu1 zu2 hh zh; rw [Frame.finish_at]; try walk_nrm
  refine F.re ?_; refine bk_mid W p K c cs B n2 now k0 k1 k2 0 en ev1 m1 w6 H6 (by omega) hMM hN he9 hc9 hsd (by omega) (fun a ha => ⟨(hSt a ha).1, (hSt a ha).2.1, (hSt a ha).2.2.1⟩) lB nB b16 b26 sB1 sB2 oB (by omega) (by omega) n6 n5' f0 f1 f2 hkd htk hwr ⟨Int.le_refl _, Int.le_refl _⟩ (fun p' r w' en' ev' m' hd hb => hc p' r w' en' ev' m' ⟨hd.ok, hd.tw, hd.cnt, hd.sz, hd.cn9, ?_⟩ (hb.less (Nat.le_trans hs5 hs6)))
  have hS0 : ∀ a, St a → a.block < w0.heap.size ∧ a.block ∉ rowL en ∧ a.block ∉ rowL ev := fun a ha => by
    have h1 := K.sN _ (hSt a ha).1; exact ⟨by omega, fun z => H.enS _ z (hSt a ha).1, fun z => H.evS _ z (hSt a ha).1⟩
  have t5 : Tr St M0 p.Ok w0 en ev w5 en ev := Tr.of kp (fun a wr h _ => K.fr a wr (by omega)) (by simp) (by intro x hx; simp at hx; subst hx; exact ⟨by show HD < M0; omega, fun z => (hSt _ z).2.2.2 rfl⟩) hS0 (fun g hg => .inl hg) (fun g hg => .inl hg)
  have t6 : Tr St M0 p.Ok w0 en ev w6 en ev1 := t5.seg k6 (fun x hx => by
    simp at hx
    rcases hx with rfl | hx
    · exact .inr (.inr (.inr ⟨by omega, fun a ha => (hSt a ha).2.2.1⟩))
    · exact .inr (.inl hx)) (by simp) (fun a ha => ⟨Nat.lt_of_lt_of_le (hS0 a ha).1 hs5, (hS0 a ha).2⟩) (fun g hg => .inl hg) v6
  exact t6.trans hd.tr
end
end
end Go.Proofs.YtobagnjnbmgidaaGreatDoor
