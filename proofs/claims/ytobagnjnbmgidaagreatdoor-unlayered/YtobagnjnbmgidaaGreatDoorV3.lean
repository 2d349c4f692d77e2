/- A task among several: its world, its waits. -/
import Derived.Test.YtobagnjnbmgidaaGreatDoorV2
set_option linter.unusedSimpArgs false
set_option linter.unusedVariables false
set_option maxHeartbeats 4000000
set_option maxRecDepth 100000
namespace Go.Proofs.YtobagnjnbmgidaaGreatDoor
open Go.Conc Go.RowKit

/-- The blocks of an agenda and of one of its tasks, and the channels. -/
structure Tk where
  N : Nat
  N1 : Nat
  N2 : Nat
  A : Nat
  T : Nat
  J : Nat
  wch : Nat
  ech : Nat
  tch : Nat
  cl : Nat
  sb : Nat → Prop
  ro : Addr → Prop
  rw : Addr → Prop

/-- What a task may touch; M: what is newer may be written. -/
structure TOk (e : Tk) (M : Nat) (Ok : Addr → Bool → Prop) : Prop where
  lA : e.A < e.N
  lT : e.T < e.N
  lJ : e.J < e.N
  nAT : e.A ≠ e.T
  nAJ : e.A ≠ e.J
  nTJ : e.T ≠ e.J
  t0 : Ok ⟨e.T, 0, none⟩ false
  t2 : Ok ⟨e.T, 2, none⟩ false
  t3 : Ok ⟨e.T, 3, none⟩ false
  t7w : Ok ⟨e.T, 7, none⟩ true
  a0 : Ok ⟨e.A, 0, none⟩ false
  a1 : Ok ⟨e.A, 1, none⟩ false
  a1w : Ok ⟨e.A, 1, none⟩ true
  a3 : Ok ⟨e.A, 3, none⟩ false
  a4 : Ok ⟨e.A, 4, none⟩ false
  j0 : Ok ⟨e.J, 0, none⟩ false
  j0w : Ok ⟨e.J, 0, none⟩ true
  fr : ∀ (a : Addr) (wr : Bool), M ≤ a.block → Ok a wr
  l1 : e.N1 ≤ e.N
  lA1 : e.A < e.N1
  lJ1 : e.J < e.N1
  sA : e.sb e.A
  sT : e.sb e.T
  sJ : e.sb e.J
  sN : ∀ g, e.sb g → g < e.N2
  l2 : e.N ≤ e.N2
  st : ∀ a, e.ro a → Ok a false
  sw : ∀ (a : Addr) (wr : Bool), e.rw a → Ok a wr

/-- What stands of a task's own block, its agenda's and its journal's. -/
structure TW (e : Tk) (Ok : Addr → Bool → Prop) (w : World) (now : Int) (en ev : Value) (es : List (Int × Value)) (m : List Value) : Prop where
  size : e.N ≤ w.heap.size
  size2 : e.N2 ≤ w.heap.size
  t0 : w.cell? ⟨e.T, 0, none⟩ = some (.pointer (some ⟨e.A, 0, none⟩))
  t2 : w.cell? ⟨e.T, 2, none⟩ = some (.int .i64 (e.cl : Int))
  t3 : w.cell? ⟨e.T, 3, none⟩ = some (.chan (some e.tch))
  t7 : w.cell? ⟨e.T, 7, none⟩ = some (.bool false)
  z7 : w.frozen? ⟨e.T, 7, none⟩ = false
  a0 : w.cell? ⟨e.A, 0, none⟩ = some (.int .i64 now)
  za0 : w.frozen? ⟨e.A, 0, none⟩ = false
  a1 : w.cell? ⟨e.A, 1, none⟩ = some en
  z1 : w.frozen? ⟨e.A, 1, none⟩ = false
  a3 : w.cell? ⟨e.A, 3, none⟩ = some (.chan (some e.wch))
  a4 : w.cell? ⟨e.A, 4, none⟩ = some (.chan (some e.ech))
  j0 : w.cell? ⟨e.J, 0, none⟩ = some ev
  zj : w.frozen? ⟨e.J, 0, none⟩ = false
  row : ∃ k, k * 5 = m.length ∧ w.ownsRow e.N 55 5 ev k m
  ent : Ents e.N1 w en es
  enS : ∀ g ∈ rowL en, ¬ e.sb g
  evS : ∀ g ∈ rowL ev, ¬ e.sb g
  sep : ∀ g ∈ rowL ev, g ∉ rowL en
  rok : ∀ (a : Addr) (wr : Bool), a.block ∈ rowL en ∨ a.block ∈ rowL ev → Ok a wr

section
variable {e : Tk} {Ok Ok' : Addr → Bool → Prop} {w w' : World} {now : Int} {en ev : Value} {es : List (Int × Value)} {m : List Value}
theorem TW.rowN (H : TW e Ok w now en ev es m) {g : Nat} (hg : g ∈ rowL ev) : e.N ≤ g ∧ g < w.heap.size := by
  obtain ⟨k, _, hr⟩ := H.row; exact row_ge hr hg
theorem TW.entN (H : TW e Ok w now en ev es m) {g : Nat} (hg : g ∈ rowL en) : e.N1 ≤ g ∧ g < w.heap.size :=
  ⟨(H.ent.lt (mem_rowL.1 hg)).1, (Array.getElem?_eq_some_iff.1 (H.ent.lt (mem_rowL.1 hg)).2.choose_spec).1⟩
theorem TW.keep {L : List Nat} {C : List Addr} (H : TW e Ok w now en ev es m) (k : Kp L w w' C) (lA : e.A < e.N) (lT : e.T < e.N) (lJ : e.J < e.N) (hL : ∀ x ∈ L, x ≠ e.A ∧ x ≠ e.T ∧ x ≠ e.J ∧ x ∉ rowL en ∧ x ∉ rowL ev) (hC : ∀ x ∈ C, x.block ≠ e.A ∧ x.block ≠ e.T ∧ x.block ≠ e.J ∧ x.block ∉ rowL en ∧ x.block ∉ rowL ev) : TW e Ok w' now en ev es m := by
  have hA : e.A ∉ L := fun z => (hL _ z).1 rfl
  have hT : e.T ∉ L := fun z => (hL _ z).2.1 rfl
  have hJ : e.J ∉ L := fun z => (hL _ z).2.2.1 rfl
  have cA : ∀ i, (⟨e.A, i, none⟩ : Addr) ∉ C := fun i z => (hC _ z).1 rfl
  have cT : ∀ i, (⟨e.T, i, none⟩ : Addr) ∉ C := fun i z => (hC _ z).2.1 rfl
  have cJ : ∀ i, (⟨e.J, i, none⟩ : Addr) ∉ C := fun i z => (hC _ z).2.2.1 rfl
  obtain ⟨kk, hkl, hr⟩ := H.row
  exact { size := Nat.le_trans H.size k.size
          size2 := Nat.le_trans H.size2 k.size
          t0 := k.cellC _ _ hT (cT _) H.t0
          t2 := k.cellC _ _ hT (cT _) H.t2
          t3 := k.cellC _ _ hT (cT _) H.t3
          t7 := k.cellC _ _ hT (cT _) H.t7
          z7 := (k.frozC _ _ hT (cT _) H.t7).trans H.z7
          a0 := k.cellC _ _ hA (cA _) H.a0
          za0 := (k.frozC _ _ hA (cA _) H.a0).trans H.za0
          a1 := k.cellC _ _ hA (cA _) H.a1
          z1 := (k.frozC _ _ hA (cA _) H.a1).trans H.z1
          a3 := k.cellC _ _ hA (cA _) H.a3
          a4 := k.cellC _ _ hA (cA _) H.a4
          j0 := k.cellC _ _ hJ (cJ _) H.j0
          zj := (k.frozC _ _ hJ (cJ _) H.j0).trans H.zj
          row := ⟨kk, hkl, k.row hr fun g hg => ⟨fun z => (hL _ z).2.2.2.2 hg, fun x hx z => (hC x hx).2.2.2.2 (z ▸ hg)⟩⟩
          ent := k.ents H.ent fun g hg => ⟨fun z => (hL _ z).2.2.2.1 hg, fun x hx z => (hC x hx).2.2.2.1 (z ▸ hg)⟩
          enS := H.enS
          evS := H.evS
          sep := H.sep
          rok := H.rok }
theorem TW.fresh {L : List Nat} (H : TW e Ok w now en ev es m) (k : Kp L w w') (lA : e.A < e.N) (lT : e.T < e.N) (lJ : e.J < e.N) (hL : ∀ x ∈ L, w.heap.size ≤ x) : TW e Ok w' now en ev es m :=
  H.keep k lA lT lJ (fun x hx => by have h1 := hL x hx; have h2 := H.size; exact ⟨by omega, by omega, by omega, fun z => by have := (H.entN z).2; omega, fun z => by have := (H.rowN z).2; omega⟩) (by simp)
end

/-- What a task leans on over a stretch of its way. St: cells that nobody else turns; from M on: its own blocks. -/
structure Tr (St : Addr → Prop) (M : Nat) (Ok' : Addr → Bool → Prop) (w : World) (en ev : Value) (w' : World) (en' ev' : Value) : Prop where
  size : w.heap.size ≤ w'.heap.size
  temp : ∀ b, M ≤ b → b < w.heap.size → b ∉ rowL en → b ∉ rowL ev → (∀ i v, w.cell? ⟨b, i, none⟩ = some v → w'.cell? ⟨b, i, none⟩ = some v ∧ w'.frozen? ⟨b, i, none⟩ = w.frozen? ⟨b, i, none⟩) ∧ b ∉ rowL en' ∧ b ∉ rowL ev' ∧ ∀ (a : Addr) (wr : Bool), a.block = b → Ok' a wr
  stat : ∀ a v, St a → w.cell? a = some v → w'.cell? a = some v ∧ w'.frozen? a = w.frozen? a

section
variable {St : Addr → Prop} {M : Nat} {Ok Ok' Ok1 : Addr → Bool → Prop} {w w1 w' : World} {en ev en1 ev1 en' ev' : Value}
theorem Tr.trans (h : Tr St M Ok1 w en ev w1 en1 ev1) (h' : Tr St M Ok' w1 en1 ev1 w' en' ev') : Tr St M Ok' w en ev w' en' ev' := by
  refine ⟨Nat.le_trans h.size h'.size, fun b b1 b2 b3 b4 => ?_, fun a v hs hv => ?_⟩
  · obtain ⟨x1, x2, x3, _⟩ := h.temp b b1 b2 b3 b4
    obtain ⟨y1, y2⟩ := h'.temp b b1 (Nat.lt_of_lt_of_le b2 h.size) x2 x3; refine ⟨fun i v hv => ?_, y2⟩; obtain ⟨z1, z2⟩ := x1 i v hv; obtain ⟨z3, z4⟩ := y1 i v z1; exact ⟨z3, z4.trans z2⟩
  · obtain ⟨x1, x2⟩ := h.stat a v hs hv
    obtain ⟨y1, y2⟩ := h'.stat a v hs x1; exact ⟨y1, y2.trans x2⟩
theorem Tr.of {L : List Nat} {C : List Addr} (k : Kp L w w' C) (hok : ∀ (a : Addr) (wr : Bool), M ≤ a.block → a.block < w.heap.size → Ok a wr) (hL : ∀ x ∈ L, x ∈ rowL en ∨ x ∈ rowL ev ∨ w.heap.size ≤ x ∨ (x < M ∧ ∀ a, St a → a.block ≠ x)) (hC : ∀ x ∈ C, x.block < M ∧ ¬ St x) (hS : ∀ a, St a → a.block < w.heap.size ∧ a.block ∉ rowL en ∧ a.block ∉ rowL ev)
    (h1 : ∀ g ∈ rowL en', g ∈ rowL en ∨ w.heap.size ≤ g) (h2 : ∀ g ∈ rowL ev', g ∈ rowL ev ∨ w.heap.size ≤ g) : Tr St M Ok w en ev w' en' ev' := by
  refine ⟨k.size, fun b b1 b2 b3 b4 => ⟨fun i v hv => ?_, fun z => ?_, fun z => ?_, fun a wr ha => hok a wr (by omega) (by omega)⟩, fun a v hs hv => ?_⟩
  · have hb : b ∉ L := fun z => by rcases hL b z with y | y | y | y; exact b3 y; exact b4 y; omega; omega
    have hc : (⟨b, i, none⟩ : Addr) ∉ C := fun z => by have := (hC _ z).1; dsimp only at this; omega
    exact ⟨k.cellC _ _ hb hc hv, k.frozC _ _ hb hc hv⟩
  · rcases h1 b z with y | y
    · exact b3 y
    · omega
  · rcases h2 b z with y | y
    · exact b4 y
    · omega
  · obtain ⟨s1, s2, s3⟩ := hS a hs
    have hb : a.block ∉ L := fun z => by rcases hL _ z with y | y | y | y; exact s2 y; exact s3 y; omega; exact y.2 a hs rfl
    have hc : a ∉ C := fun z => (hC _ z).2 hs
    exact ⟨k.cellC _ _ hb hc hv, k.frozC _ _ hb hc hv⟩
end

/-- A phase of a task's: what it may touch, how old its world is, the agenda's entries and the number of events at its beginning, whether it has waited. -/
structure Ph (γ : Type) where
  Ok : Addr → Bool → Prop
  M : Nat
  es : List (Int × Value)
  cn : Nat
  sd : Bool
  σ : γ

def wakeE (t : Int) (x : Nat) : Int × Value := (t, .func (.func 144) #[.pointer (some ⟨x, 0, none⟩)] #[])

/-- A task's future, over its wait. -/
structure FutU {γ : Type} (e : Tk) (St : Addr → Prop) (M0 : Nat) (Ψ : Ph γ → Goroutine → World → Prop) : Prop where
  f : ∀ p, Fut Tryz.prog false (DX p.Ok) (Ψ p)
  wait : ∀ (p : Ph γ) (x : Nat) (c : Frame) (cs : List Frame) (w : World) (now t : Int) (en ev : Value) (m : List Value) (i : Nat), p.sd = false → M0 ≤ x → x < w.heap.size → x ∉ rowL en → x ∉ rowL ev → w.cell? ⟨x, 0, none⟩ = some (.pointer (some ⟨e.T, 0, none⟩)) → w.cell? ⟨x, 1, none⟩ = some (.int .i64 0) → w.frozen? ⟨x, 1, none⟩ = false → i ≤ p.es.length →
    TW e p.Ok w now en ev (p.es.take i ++ wakeE t x :: p.es.drop i) m → m.length = 5 * (p.cn + 1) →
    (∀ (p' : Ph γ) (w' : World) (en' ev' : Value) (m' : List Value), p'.sd = true → TOk e p'.M p'.Ok → TW e p'.Ok w' t en' ev' p'.es m' → m'.length = 5 * p'.cn → p'.M ≤ w'.heap.size → p'.es.length < 900 → p'.cn < 900 → (∀ a, St a → a.block ∉ rowL en' ∧ a.block ∉ rowL ev') →
      (∀ b, b ≠ x → M0 ≤ b → b < w.heap.size → b ∉ rowL en → b ∉ rowL ev → (∀ i v, w.cell? ⟨b, i, none⟩ = some v → w'.cell? ⟨b, i, none⟩ = some v ∧ w'.frozen? ⟨b, i, none⟩ = w.frozen? ⟨b, i, none⟩) ∧ b ∉ rowL en' ∧ b ∉ rowL ev' ∧ ∀ (a : Addr) (wr : Bool), a.block = b → p'.Ok a wr) →
      (∀ a v, St a → w.cell? a = some v → w'.cell? a = some v ∧ w'.frozen? a = w.frozen? a) → w.heap.size ≤ w'.heap.size → Ψ p' (G (c.finish (.int .i64 1)) cs) w') →
    Ψ p (G (Frame.enter Tryz.prog 153 #[.pointer (some ⟨x, 0, none⟩)] .normal) (c :: cs)) w

variable {Ok : Addr → Bool → Prop}

theorem tell_u (e : Tk) {M : Nat} (K : TOk e M Ok) (now : Int) (en ev : Value) (es : List (Int × Value)) (m : List Value) (w0 : World) (H : TW e Ok w0 now en ev es m) (hM : M ≤ w0.heap.size) (hm : m.length < 4900) (cb : Nat) (num what nn : Int) (l1 : cb < e.N) (n1 : e.J ≠ cb) (hn : w0.cell? ⟨cb, 1, none⟩ = some (.int .i64 num)) (hj : w0.cell? ⟨cb, 2, none⟩ = some (.pointer (some ⟨e.J, 0, none⟩))) (o1 : Ok ⟨cb, 1, none⟩ false) (o2 : Ok ⟨cb, 2, none⟩ false) :
    CallsX Tryz.prog false (DX Ok) 149 #[.pointer (some ⟨cb, 0, none⟩), .pointer (some ⟨e.T, 0, none⟩), .int .i64 what, .int .i64 nn] w0 fun v w' => v = .tuple #[] ∧ ∃ ev' m', m' = m ++ evc now e.cl num what nn ∧ TW e Ok w' now en ev' es m' ∧ Kp (e.J :: rowL ev) w0 w' ∧ ∀ g ∈ rowL ev', g ∈ rowL ev ∨ w0.heap.size ≤ g := by
  obtain ⟨kk, hkl, hr⟩ := H.row; have lA := K.lA; have lT := K.lT; have lJ := K.lJ; have hs := H.size; refine (tell2_x e.N cb e.J e.T e.A kk now e.cl num what nn ev m w0 hs l1 lJ lT lA n1 (Ne.symm K.nTJ) (Ne.symm K.nAJ) hj hn H.t0 H.t2 H.a0 H.j0 H.zj hr (by omega) ?_ K.j0 K.j0w (fun a wr h => H.rok a wr (.inr h)) (fun a wr h => K.fr a wr (by omega))).mono fun v w' hp => ?_
  · intro a h
    rcases h with rfl | rfl | rfl | rfl | rfl
    · exact o2
    · exact o1
    · exact K.t0
    · exact K.t2
    · exact K.a0
  obtain ⟨rfl, kp, ev', f1, f2, f3, f4⟩ := hp; have nAJ := K.nAJ; have nTJ := K.nTJ; have hA : e.A ∉ e.J :: rowL ev := fun z => by simp at z; rcases z with z | z; omega; have := (H.rowN z).1; omega
  have hT : e.T ∉ e.J :: rowL ev := fun z => by simp at z; rcases z with z | z; omega; have := (H.rowN z).1; omega
  have cN : ∀ (b i : Nat), (⟨b, i, none⟩ : Addr) ∉ ([] : List Addr) := by simp
  have hlen : (m ++ evc now e.cl num what nn).length = m.length + 5 := by simp [evc]
  refine ⟨rfl, ev', _, rfl, ?_, kp, f4⟩
  exact { size := Nat.le_trans hs kp.size
          size2 := Nat.le_trans H.size2 kp.size
          t0 := kp.cell _ _ hT H.t0
          t2 := kp.cell _ _ hT H.t2
          t3 := kp.cell _ _ hT H.t3
          t7 := kp.cell _ _ hT H.t7
          z7 := (kp.froz _ _ hT H.t7).trans H.z7
          a0 := kp.cell _ _ hA H.a0
          za0 := (kp.froz _ _ hA H.a0).trans H.za0
          a1 := kp.cell _ _ hA H.a1
          z1 := (kp.froz _ _ hA H.a1).trans H.z1
          a3 := kp.cell _ _ hA H.a3
          a4 := kp.cell _ _ hA H.a4
          j0 := f1
          zj := f2
          row := ⟨kk + 1, by rw [hlen]; omega, f3⟩
          ent := kp.ents H.ent fun g hg => ⟨fun z => by
            have h1 := H.entN hg; have h2 := K.lJ1
            simp at z
            rcases z with z | z
            · omega
            · exact H.sep g z hg, by simp⟩
          enS := H.enS
          evS := fun g hg z => by
            rcases f4 g hg with y | y
            · exact H.evS g y z
            · have := K.sN g z; have := H.size2; omega
          sep := fun g hg z => by
            rcases f4 g hg with y | y
            · exact H.sep g y z
            · have := H.entN z; omega
          rok := fun a wr h => by
            rcases h with h | h
            · exact H.rok a wr (.inl h)
            · rcases f4 _ h with y | y
              · exact H.rok a wr (.inr y)
              · exact K.fr a wr (by omega) }

theorem newWait_u (e : Tk) {M : Nat} (K : TOk e M Ok) (now span : Int) (en ev : Value) (es : List (Int × Value)) (m : List Value) (w0 : World) (H : TW e Ok w0 now en ev es m) (hM : M ≤ w0.heap.size) (he9 : es.length < 900) (hwr : IntKind.i64.wrap (now + span) = now + span) :
    CallsX Tryz.prog false (DX Ok) 152 #[.pointer (some ⟨e.T, 0, none⟩), .int .i64 span] w0 fun v w' => ∃ x, v = .pointer (some ⟨x, 0, none⟩) ∧ x = w0.heap.size ∧ x < w'.heap.size ∧ Kp (rowL en) w0 w' [⟨e.A, 1, none⟩] ∧ ∃ en' i, i ≤ es.length ∧ TW e Ok w' now en' ev (es.take i ++ wakeE (now + span) x :: es.drop i) m ∧ x ∉ rowL en' ∧ x ∉ rowL ev ∧
      w'.cell? ⟨x, 0, none⟩ = some (.pointer (some ⟨e.T, 0, none⟩)) ∧ w'.cell? ⟨x, 1, none⟩ = some (.int .i64 0) ∧ w'.frozen? ⟨x, 1, none⟩ = false ∧ ∀ g ∈ rowL en', g ∈ rowL en ∨ w0.heap.size < g := by
  intro Ψ F c cs hc; have hsz := H.size; have lA := K.lA; have lT := K.lT; have lJ := K.lJ; have nAT := K.nAT; have nAJ := K.nAJ; have o1 := K.t0; have o2 := K.a0; have hlt : ∀ g ∈ rowL en, g < w0.heap.size := fun g hg => (H.entN hg).2
  have ht0 := H.t0; have ha0 := H.a0; rw [enter_at _ Tryz.func152 rfl]; simp only [Tryz.ntmps152, List.size_toArray, List.length_cons, List.length_nil, Nat.reduceAdd, Nat.reduceSub, Array.replicate_succ, Array.replicate_zero, List.push_toArray, List.append_toArray, List.nil_append, List.cons_append]; refine F.sr ?_; simp only [rg, Nat.reduceAdd]; refine F.oq rfl rfl rfl (by simp [go_sem]) fun d K h => ?_; go_simp; refine h _ ?_; clear h K d; try walk_nrm
  refine F.esr ?_; simp only [rg, Nat.reduceAdd]; iterate 2 (refine F.oq rfl rfl rfl (by simp [go_sem]) fun d K h => ?_; go_simp; refine h _ ?_; clear h K d; try walk_nrm)
  refine F.op rfl rfl (by decide) (fun d K hK => ?_); go_simp; rw [alloc_at']; refine hK _ _ ⟨DX.alloc _ _ (fun e he => ?_), ?_⟩
  · have hm := mem_listed he
    simp [go_sem] at hm
  clear hK K d; try walk_nrm
  generalize ew1 : World.alloc w0 _ = w1; generalize hn1 : (World.heap w0).size = n1; have sz1 := sz_al2 ew1 hn1; have hx0 := cl_new (i := 0) ew1 hn1 rfl; have zx0 := fz_new ew1 hn1 0; have hx1 := cl_new (i := 1) ew1 hn1 rfl; have zx1 := fz_new ew1 hn1 1; try simp only [List.getElem_toArray, List.getElem_cons_zero, List.getElem_cons_succ] at hx0 hx1
  have kp : Kp (rowL en) w0 w0 [⟨e.A, 1, none⟩] := Kp.refl _; replace kp := kp.alN ew1; have H1 : TW e Ok w1 now en ev es m := H.fresh (Kp.alloc (L := []) ew1) lA lT lJ (by simp); clear ht0 ha0; have ht0 := H1.t0; have ha0 := H1.a0; refine F.oq rfl rfl rfl (by simp [go_sem]) fun d K h => ?_; go_simp; refine h _ ?_; clear h K d; try walk_nrm
  refine F.es ?_; refine F.drawB (γ := Unit) (n := 16) mixed [[], [0], [1], [2], [], [4], [5], [6], [7], [8], [9], [], [10, 11], [], [13], [3, 12, 14]] rfl (by kernel_rfl) (fun b g => [(9, sel (b 0) (.pointer (some ⟨e.T, 0, none⟩)) (undef)), (10, sel (b 1) (.pointer (some ⟨e.T, 0, none⟩)) (undef)), (11, sel (b 2) (.pointer (some ⟨e.T, 0, none⟩)) (undef)), (12, sel (b 3) (.pointer (some ⟨e.A, 0, none⟩)) (undef)), (13, sel (b 4) (.pointer (some ⟨e.T, 0, none⟩)) (undef)), (14, sel (b 5) (.pointer (some ⟨e.T, 0, none⟩)) (undef)), (15, sel (b 6) (.pointer (some ⟨e.T, 0, none⟩)) (undef)), (16, sel (b 7) (.pointer (some ⟨e.A, 0, none⟩)) (undef)), (17, sel (b 8) (.pointer (some ⟨e.A, 0, none⟩)) (undef)), (18, sel (b 9) (.pointer (some ⟨e.A, 0, none⟩)) (undef)), (19, sel (b 10) (.int .i64 now) (undef)), (20, sel (b 11) (.int .i64 span) (undef)), (21, sel (b 12) (.int .i64 (now + span)) (undef)), (22, sel (b 13) (.pointer (some ⟨n1, 0, none⟩)) (undef)), (23, sel (b 14) (.func (.func 144) #[.pointer (some ⟨n1, 0, none⟩)] #[]) (undef)), (24, sel (b 15) (.tuple #[]) (undef))]) (fun b g w => (b 15 = false → w = w1) ∧ (b 15 = true → ( Kp (rowL en) w0 w [⟨e.A, 1, none⟩] ∧ n1 < w.heap.size ∧ ∃ en' i, i ≤ es.length ∧ TW e Ok w now en' ev (es.take i ++ wakeE (now + span) n1 :: es.drop i) m ∧ n1 ∉ rowL en' ∧ n1 ∉ rowL ev ∧ w.cell? ⟨n1, 0, none⟩ = some (.pointer (some ⟨e.T, 0, none⟩)) ∧ w.cell? ⟨n1, 1, none⟩ = some (.int .i64 0) ∧ w.frozen? ⟨n1, 1, none⟩ = false ∧ ∀ g ∈ rowL en', g ∈ rowL en ∨ w0.heap.size < g))) (()) (by simp only [pu, Nat.reduceAdd, Nat.reduceEqDiff, reduceIte]) (⟨fun _ => rfl, fun h => by cases h⟩) (all_cons ?_ (all_cons ?_ (all_cons ?_ (all_cons ?_ (all_cons ?_ (all_cons ?_ (all_cons ?_ (all_cons ?_ (all_cons ?_ (all_cons ?_ (all_cons ?_ (all_cons ?_ (all_cons ?_ (all_cons ?_ (all_cons ?_ (all_cons ?_ (all_nil))))))))))))))))) ?_
  · intro b g w hI hcl hbi hdp rest hre hkk
    obtain ⟨hwf, hwt⟩ := hI; replace hbi : b 0 = false := hbi; have nb1 := nbf (hcl 1 0 rfl) hbi; have nb2 := nbf (hcl 2 1 rfl) nb1; have nb3 := nbf (hcl 3 2 rfl) nb2; have nb15 := nbf (hcl 15 3 rfl) nb3; have ewc := (hwf nb15).symm; subst ewc; simp only [nb1, nb2, nb3, nb15, hbi, pu, Nat.reduceAdd, Nat.reduceEqDiff, reduceIte]; refine F.oq rfl rfl rfl (by simp [go_sem]) fun d K h => ?_; go_simp; refine h _ ?_; clear h K d; try walk_nrm
    have hk2 := hkk g _ ⟨fun _ => rfl, fun h => no nb15 h⟩; simp only [nb1, nb2, nb3, nb15, hbi, pu, Nat.reduceAdd, Nat.reduceEqDiff, reduceIte] at hk2; exact hk2
  · intro b g w hI hcl hbi hdp rest hre hkk
    obtain ⟨hwf, hwt⟩ := hI; replace hbi : b 1 = false := hbi; have d0 := hdp 0 rfl; have nb2 := nbf (hcl 2 1 rfl) hbi; have nb3 := nbf (hcl 3 2 rfl) nb2; have nb15 := nbf (hcl 15 3 rfl) nb3; have ewc := (hwf nb15).symm; subst ewc; simp only [d0, nb2, nb3, nb15, hbi, pu, Nat.reduceAdd, Nat.reduceEqDiff, reduceIte]; refine F.oq rfl rfl rfl (by simp [go_sem]) fun d K h => ?_; go_simp; refine h _ ?_; clear h K d; try walk_nrm
    have hk2 := hkk g _ ⟨fun _ => rfl, fun h => no nb15 h⟩; simp only [d0, nb2, nb3, nb15, hbi, pu, Nat.reduceAdd, Nat.reduceEqDiff, reduceIte] at hk2; exact hk2
  · intro b g w hI hcl hbi hdp rest hre hkk
    obtain ⟨hwf, hwt⟩ := hI; replace hbi : b 2 = false := hbi; have d1 := hdp 1 rfl; have nb3 := nbf (hcl 3 2 rfl) hbi; have nb15 := nbf (hcl 15 3 rfl) nb3; have ewc := (hwf nb15).symm; subst ewc; simp only [d1, nb3, nb15, hbi, pu, Nat.reduceAdd, Nat.reduceEqDiff, reduceIte]; refine F.oq rfl rfl rfl (by simp [go_sem]) fun d K h => ?_; go_simp; refine h _ ?_; clear h K d; try walk_nrm
    have hk2 := hkk g _ ⟨fun _ => rfl, fun h => no nb15 h⟩; simp only [d1, nb3, nb15, hbi, pu, Nat.reduceAdd, Nat.reduceEqDiff, reduceIte] at hk2; exact hk2
  · intro b g w hI hcl hbi hdp rest hre hkk
    obtain ⟨hwf, hwt⟩ := hI; replace hbi : b 3 = false := hbi; have d2 := hdp 2 rfl; have nb15 := nbf (hcl 15 3 rfl) hbi; have ewc := (hwf nb15).symm; subst ewc; simp only [d2, nb15, hbi, pu, Nat.reduceAdd, Nat.reduceEqDiff, reduceIte]; refine F.ol rfl rfl rfl fun d K h => ?_; go_simp; refine h _ (fun e m => ?_) ?_; simp [go_sem, *] at m; subst m; exact evr (w := w1) (by assumption) (by first | assumption | (apply hfr <;> dsimp only <;> omega) | (apply hok; simp)); clear h K d; try walk_nrm
    have hk2 := hkk g _ ⟨fun _ => rfl, fun h => no nb15 h⟩; simp only [d2, nb15, hbi, pu, Nat.reduceAdd, Nat.reduceEqDiff, reduceIte] at hk2; exact hk2
  · intro b g w hI hcl hbi hdp rest hre hkk
    obtain ⟨hwf, hwt⟩ := hI; replace hbi : b 4 = false := hbi; have nb5 := nbf (hcl 5 4 rfl) hbi; have nb6 := nbf (hcl 6 5 rfl) nb5; have nb7 := nbf (hcl 7 6 rfl) nb6; have nb8 := nbf (hcl 8 7 rfl) nb7; have nb9 := nbf (hcl 9 8 rfl) nb8; have nb10 := nbf (hcl 10 9 rfl) nb9; have nb12 := nbf (hcl 12 10 rfl) nb10; have nb15 := nbf (hcl 15 12 rfl) nb12; have ewc := (hwf nb15).symm; subst ewc; simp only [nb5, nb6, nb7, nb8, nb9, nb10, nb12, nb15, hbi, pu, Nat.reduceAdd, Nat.reduceEqDiff, reduceIte]; refine F.oq rfl rfl rfl (by simp [go_sem]) fun d K h => ?_; go_simp; refine h _ ?_; clear h K d; try walk_nrm
    have hk2 := hkk g _ ⟨fun _ => rfl, fun h => no nb15 h⟩; simp only [nb5, nb6, nb7, nb8, nb9, nb10, nb12, nb15, hbi, pu, Nat.reduceAdd, Nat.reduceEqDiff, reduceIte] at hk2; exact hk2
  · intro b g w hI hcl hbi hdp rest hre hkk
    obtain ⟨hwf, hwt⟩ := hI; replace hbi : b 5 = false := hbi; have d4 := hdp 4 rfl; have nb6 := nbf (hcl 6 5 rfl) hbi; have nb7 := nbf (hcl 7 6 rfl) nb6; have nb8 := nbf (hcl 8 7 rfl) nb7; have nb9 := nbf (hcl 9 8 rfl) nb8; have nb10 := nbf (hcl 10 9 rfl) nb9; have nb12 := nbf (hcl 12 10 rfl) nb10; have nb15 := nbf (hcl 15 12 rfl) nb12; have ewc := (hwf nb15).symm; subst ewc; simp only [d4, nb6, nb7, nb8, nb9, nb10, nb12, nb15, hbi, pu, Nat.reduceAdd, Nat.reduceEqDiff, reduceIte]; refine F.oq rfl rfl rfl (by simp [go_sem]) fun d K h => ?_; go_simp; refine h _ ?_; clear h K d; try walk_nrm
    have hk2 := hkk g _ ⟨fun _ => rfl, fun h => no nb15 h⟩; simp only [d4, nb6, nb7, nb8, nb9, nb10, nb12, nb15, hbi, pu, Nat.reduceAdd, Nat.reduceEqDiff, reduceIte] at hk2; exact hk2
  · intro b g w hI hcl hbi hdp rest hre hkk
    obtain ⟨hwf, hwt⟩ := hI; replace hbi : b 6 = false := hbi; have d5 := hdp 5 rfl; have nb7 := nbf (hcl 7 6 rfl) hbi; have nb8 := nbf (hcl 8 7 rfl) nb7; have nb9 := nbf (hcl 9 8 rfl) nb8; have nb10 := nbf (hcl 10 9 rfl) nb9; have nb12 := nbf (hcl 12 10 rfl) nb10; have nb15 := nbf (hcl 15 12 rfl) nb12; have ewc := (hwf nb15).symm; subst ewc; simp only [d5, nb7, nb8, nb9, nb10, nb12, nb15, hbi, pu, Nat.reduceAdd, Nat.reduceEqDiff, reduceIte]; refine F.oq rfl rfl rfl (by simp [go_sem]) fun d K h => ?_; go_simp; refine h _ ?_; clear h K d; try walk_nrm
    have hk2 := hkk g _ ⟨fun _ => rfl, fun h => no nb15 h⟩; simp only [d5, nb7, nb8, nb9, nb10, nb12, nb15, hbi, pu, Nat.reduceAdd, Nat.reduceEqDiff, reduceIte] at hk2; exact hk2
  · intro b g w hI hcl hbi hdp rest hre hkk
    obtain ⟨hwf, hwt⟩ := hI; replace hbi : b 7 = false := hbi; have d6 := hdp 6 rfl; have nb8 := nbf (hcl 8 7 rfl) hbi; have nb9 := nbf (hcl 9 8 rfl) nb8; have nb10 := nbf (hcl 10 9 rfl) nb9; have nb12 := nbf (hcl 12 10 rfl) nb10; have nb15 := nbf (hcl 15 12 rfl) nb12; have ewc := (hwf nb15).symm; subst ewc; simp only [d6, nb8, nb9, nb10, nb12, nb15, hbi, pu, Nat.reduceAdd, Nat.reduceEqDiff, reduceIte]; refine F.ol rfl rfl rfl fun d K h => ?_; go_simp; refine h _ (fun e m => ?_) ?_; simp [go_sem, *] at m; subst m; exact evr (w := w1) (by assumption) (by first | assumption | (apply hfr <;> dsimp only <;> omega) | (apply hok; simp)); clear h K d; try walk_nrm
    have hk2 := hkk g _ ⟨fun _ => rfl, fun h => no nb15 h⟩; simp only [d6, nb8, nb9, nb10, nb12, nb15, hbi, pu, Nat.reduceAdd, Nat.reduceEqDiff, reduceIte] at hk2; exact hk2
  · intro b g w hI hcl hbi hdp rest hre hkk
    obtain ⟨hwf, hwt⟩ := hI; replace hbi : b 8 = false := hbi; have d7 := hdp 7 rfl; have nb9 := nbf (hcl 9 8 rfl) hbi; have nb10 := nbf (hcl 10 9 rfl) nb9; have nb12 := nbf (hcl 12 10 rfl) nb10; have nb15 := nbf (hcl 15 12 rfl) nb12; have ewc := (hwf nb15).symm; subst ewc; simp only [d7, nb9, nb10, nb12, nb15, hbi, pu, Nat.reduceAdd, Nat.reduceEqDiff, reduceIte]; refine F.oq rfl rfl rfl (by simp [go_sem]) fun d K h => ?_; go_simp; refine h _ ?_; clear h K d; try walk_nrm
    have hk2 := hkk g _ ⟨fun _ => rfl, fun h => no nb15 h⟩; simp only [d7, nb9, nb10, nb12, nb15, hbi, pu, Nat.reduceAdd, Nat.reduceEqDiff, reduceIte] at hk2; exact hk2
  · intro b g w hI hcl hbi hdp rest hre hkk
    obtain ⟨hwf, hwt⟩ := hI; replace hbi : b 9 = false := hbi; have d8 := hdp 8 rfl; have nb10 := nbf (hcl 10 9 rfl) hbi; have nb12 := nbf (hcl 12 10 rfl) nb10; have nb15 := nbf (hcl 15 12 rfl) nb12; have ewc := (hwf nb15).symm; subst ewc; simp only [d8, nb10, nb12, nb15, hbi, pu, Nat.reduceAdd, Nat.reduceEqDiff, reduceIte]; refine F.oq rfl rfl rfl (by simp [go_sem]) fun d K h => ?_; go_simp; refine h _ ?_; clear h K d; try walk_nrm
    have hk2 := hkk g _ ⟨fun _ => rfl, fun h => no nb15 h⟩; simp only [d8, nb10, nb12, nb15, hbi, pu, Nat.reduceAdd, Nat.reduceEqDiff, reduceIte] at hk2; exact hk2
  · intro b g w hI hcl hbi hdp rest hre hkk
    obtain ⟨hwf, hwt⟩ := hI; replace hbi : b 10 = false := hbi; have d9 := hdp 9 rfl; have nb12 := nbf (hcl 12 10 rfl) hbi; have nb15 := nbf (hcl 15 12 rfl) nb12; have ewc := (hwf nb15).symm; subst ewc; simp only [d9, nb12, nb15, hbi, pu, Nat.reduceAdd, Nat.reduceEqDiff, reduceIte]; refine F.ol rfl rfl rfl fun d K h => ?_; go_simp; refine h _ (fun e m => ?_) ?_; simp [go_sem, *] at m; subst m; exact evr (w := w1) (by assumption) (by first | assumption | (apply hfr <;> dsimp only <;> omega) | (apply hok; simp)); clear h K d; try walk_nrm
    have hk2 := hkk g _ ⟨fun _ => rfl, fun h => no nb15 h⟩; simp only [d9, nb12, nb15, hbi, pu, Nat.reduceAdd, Nat.reduceEqDiff, reduceIte] at hk2; exact hk2
  · intro b g w hI hcl hbi hdp rest hre hkk
    obtain ⟨hwf, hwt⟩ := hI; replace hbi : b 11 = false := hbi; have nb12 := nbf (hcl 12 11 rfl) hbi; have nb15 := nbf (hcl 15 12 rfl) nb12; have ewc := (hwf nb15).symm; subst ewc; simp only [nb12, nb15, hbi, pu, Nat.reduceAdd, Nat.reduceEqDiff, reduceIte]; refine F.oq rfl rfl rfl (by simp [go_sem]) fun d K h => ?_; go_simp; refine h _ ?_; clear h K d; try walk_nrm
    have hk2 := hkk g _ ⟨fun _ => rfl, fun h => no nb15 h⟩; simp only [nb12, nb15, hbi, pu, Nat.reduceAdd, Nat.reduceEqDiff, reduceIte] at hk2; exact hk2
  · intro b g w hI hcl hbi hdp rest hre hkk
    obtain ⟨hwf, hwt⟩ := hI; replace hbi : b 12 = false := hbi; have d10 := hdp 10 rfl; have d11 := hdp 11 rfl; have nb15 := nbf (hcl 15 12 rfl) hbi; have ewc := (hwf nb15).symm; subst ewc; simp only [d10, d11, nb15, hbi, pu, Nat.reduceAdd, Nat.reduceEqDiff, reduceIte]; refine F.oq rfl rfl rfl (by simp [go_sem]) fun d K h => ?_; go_simp; refine h _ ?_; clear h K d; try walk_nrm
    have hk2 := hkk g _ ⟨fun _ => rfl, fun h => no nb15 h⟩; simp only [d10, d11, nb15, hbi, pu, Nat.reduceAdd, Nat.reduceEqDiff, reduceIte] at hk2; exact hk2
  · intro b g w hI hcl hbi hdp rest hre hkk
    obtain ⟨hwf, hwt⟩ := hI; replace hbi : b 13 = false := hbi; have nb14 := nbf (hcl 14 13 rfl) hbi; have nb15 := nbf (hcl 15 14 rfl) nb14; have ewc := (hwf nb15).symm; subst ewc; simp only [nb14, nb15, hbi, pu, Nat.reduceAdd, Nat.reduceEqDiff, reduceIte]; refine F.oq rfl rfl rfl (by simp [go_sem]) fun d K h => ?_; go_simp; refine h _ ?_; clear h K d; try walk_nrm
    have hk2 := hkk g _ ⟨fun _ => rfl, fun h => no nb15 h⟩; simp only [nb14, nb15, hbi, pu, Nat.reduceAdd, Nat.reduceEqDiff, reduceIte] at hk2; exact hk2
  · intro b g w hI hcl hbi hdp rest hre hkk
    obtain ⟨hwf, hwt⟩ := hI; replace hbi : b 14 = false := hbi; have d13 := hdp 13 rfl; have nb15 := nbf (hcl 15 14 rfl) hbi; have ewc := (hwf nb15).symm; subst ewc; simp only [d13, nb15, hbi, pu, Nat.reduceAdd, Nat.reduceEqDiff, reduceIte]; refine F.oq rfl rfl rfl (by simp [go_sem]) fun d K h => ?_; go_simp; refine h _ ?_; clear h K d; try walk_nrm
    have hk2 := hkk g _ ⟨fun _ => rfl, fun h => no nb15 h⟩; simp only [d13, nb15, hbi, pu, Nat.reduceAdd, Nat.reduceEqDiff, reduceIte] at hk2; exact hk2
  · intro b g w hI hcl hbi hdp rest hre hkk
    obtain ⟨hwf, hwt⟩ := hI; replace hbi : b 15 = false := hbi; have d3 := hdp 3 rfl; have d12 := hdp 12 rfl; have d14 := hdp 14 rfl; have ewc := (hwf hbi).symm; subst ewc; simp only [d3, d12, d14, hbi, pu, Nat.reduceAdd, Nat.reduceEqDiff, reduceIte]; refine F.enter rfl rfl (by decide) (fun _ => run_call_body rfl Tryz.func49 (by rfl) (by rfl)) (fun _ => events_call_body rfl Tryz.func49 (by rfl) (by rfl) _) ?_; walk_nrm; refine putQ_x e.N1 e.A (now + span) (.func 144) #[.pointer (some ⟨n1, 0, none⟩)] #[] en es w1 (by have := K.l1; omega) K.lA1 he9 H1.ent H1.a1 H1.z1 K.a1 K.a1w (fun a wr h => h.elim (fun h => H1.rok a wr (.inl h)) fun h => K.fr a wr (by omega)) _ F _ _ (fun v w' hp => ?_); obtain ⟨rfl, kq, en', i, hi, f1, f2, f3, f4⟩ := hp; rw [Frame.finish_at]; try walk_nrm
    have hA' : e.A ∉ rowL en := fun z => H.enS _ z K.sA
    have hT' : e.T ∉ rowL en := fun z => H.enS _ z K.sT
    have hJ' : e.J ∉ rowL en := fun z => H.enS _ z K.sJ
    have hn' : n1 ∉ rowL en := fun z => by have := hlt _ z; omega
    have cT : ∀ i, (⟨e.T, i, none⟩ : Addr) ∉ [(⟨e.A, 1, none⟩ : Addr)] := fun i z => by simp at z <;> omega
    have cJ : ∀ i, (⟨e.J, i, none⟩ : Addr) ∉ [(⟨e.A, 1, none⟩ : Addr)] := fun i z => by simp at z <;> omega
    have cn : ∀ i, (⟨n1, i, none⟩ : Addr) ∉ [(⟨e.A, 1, none⟩ : Addr)] := fun i z => by simp at z <;> omega
    have cA : ∀ i, i ≠ 1 → (⟨e.A, i, none⟩ : Addr) ∉ [(⟨e.A, 1, none⟩ : Addr)] := fun i h z => by simp at z <;> omega
    have r4 : ∀ g ∈ rowL en', g ∈ rowL en ∨ w0.heap.size < g := fun g hg => (f4 g hg).imp id fun y => by omega
    obtain ⟨kk, hkl, hr⟩ := H1.row
    have hw : TW e Ok w' now en' ev (es.take i ++ wakeE (now + span) n1 :: es.drop i) m :=
      { size := Nat.le_trans H1.size kq.size
        size2 := Nat.le_trans H1.size2 kq.size
        t0 := kq.cellC _ _ hT' (cT _) H1.t0
        t2 := kq.cellC _ _ hT' (cT _) H1.t2
        t3 := kq.cellC _ _ hT' (cT _) H1.t3
        t7 := kq.cellC _ _ hT' (cT _) H1.t7
        z7 := (kq.frozC _ _ hT' (cT _) H1.t7).trans H1.z7
        a0 := kq.cellC _ _ hA' (cA _ (by decide)) H1.a0
        za0 := (kq.frozC _ _ hA' (cA _ (by decide)) H1.a0).trans H1.za0
        a1 := f1
        z1 := f2
        a3 := kq.cellC _ _ hA' (cA _ (by decide)) H1.a3
        a4 := kq.cellC _ _ hA' (cA _ (by decide)) H1.a4
        j0 := kq.cellC _ _ hJ' (cJ _) H1.j0
        zj := (kq.frozC _ _ hJ' (cJ _) H1.j0).trans H1.zj
        row := ⟨kk, hkl, kq.row hr fun g hg => ⟨fun z => H.sep g hg z, fun y hy z => by have := (row_ge hr hg).1; simp at hy; subst hy; dsimp only at z; omega⟩⟩
        ent := f3
        enS := fun g hg z => by
          rcases r4 g hg with y | y
          · exact H.enS g y z
          · have := K.sN g z; have := H.size2; omega
        evS := H.evS
        sep := fun g hg z => by
          rcases r4 g z with y | y
          · exact H.sep g hg y
          · have := (H.rowN hg).2; omega
        rok := fun a wr h => by
          rcases h with h | h
          · rcases r4 _ h with y | y
            · exact H.rok a wr (.inl y)
            · exact K.fr a wr (by omega)
          · exact H.rok a wr (.inr h) }
    have hkp := kp.callN kq (fun x hx => .inl hx) (fun x hx => .inl hx); have hk2 := hkk g _ ⟨fun h => by simp [tick] at h, fun _ => ⟨hkp, Nat.lt_of_lt_of_le (by omega) kq.size, en', i, hi, hw, fun z => by rcases r4 _ z with y | y; exact hn' y; omega, fun z => by have := (H.rowN z).2; omega, kq.cellC _ _ hn' (cn _) hx0, kq.cellC _ _ hn' (cn _) hx1, (kq.frozC _ _ hn' (cn _) hx1).trans zx1, r4⟩⟩; simp only [d3, d12, d14, hbi, pu, Nat.reduceAdd, Nat.reduceEqDiff, reduceIte] at hk2; exact hk2
  intro b g w hI hall; obtain ⟨hwf, hwt⟩ := hI; simp only [hall 0 (by decide), hall 1 (by decide), hall 2 (by decide), hall 3 (by decide), hall 4 (by decide), hall 5 (by decide), hall 6 (by decide), hall 7 (by decide), hall 8 (by decide), hall 9 (by decide), hall 10 (by decide), hall 11 (by decide), hall 12 (by decide), hall 13 (by decide), hall 14 (by decide), hall 15 (by decide), pu, Nat.reduceAdd, Nat.reduceEqDiff, reduceIte]; refine F.esr ?_; simp only [rg, Nat.reduceAdd]; iterate 2 (refine F.oq rfl rfl rfl (by simp [go_sem]) fun d K h => ?_; go_simp; refine h _ ?_; clear h K d; try walk_nrm)
  refine F.re ?_; refine F.ctl (fun _ => stepG_ret') ?_; refine F.leave rfl rfl Tryz.func152 (resultsC_tmp (by rfl) _) ?_; obtain ⟨k1, k0, en', i, k2, k3, k4, k5, k6, k7, k8, k9⟩ := hwt (hall 15 (by decide)); exact hc _ _ ⟨n1, rfl, hn1.symm, k0, k1, en', i, k2, k3, k4, k5, k6, k7, k8, k9⟩
end Go.Proofs.YtobagnjnbmgidaaGreatDoor
