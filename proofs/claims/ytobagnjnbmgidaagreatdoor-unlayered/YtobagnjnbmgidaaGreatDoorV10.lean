/- A region that draws its order, over what may change on the way. -/
import Derived.Test.YtobagnjnbmgidaaGreatDoorV9
set_option linter.unusedSimpArgs false
set_option linter.unusedVariables false
set_option maxHeartbeats 8000000
set_option maxRecDepth 100000
namespace Go.Proofs.YtobagnjnbmgidaaGreatDoor
section
open Go.Conc Go.RowKit
section
variable {P : Program} {main : Bool} {D : World → World → Array Event → Prop} {Ψ : Goroutine → World → Prop} {b : Frame} {k : List Item} {cs : List Frame} {ops : Array Oper}
theorem draw_goP (md : Region.Mode) (I : Array Bool → Act → World → (Goroutine → World → Prop) → Prop)
    (hlow : ∀ (i : Nat) (o : Oper), ops[i]? = some o → ∀ e ∈ o.after, Region.binds md e = true → e.on < i)
    (hsz : ∀ l a w Φ, I l a w Φ → l.size = ops.size)
    (hstep : ∀ (l : Array Bool) (a : Act) (w : World) (Φ : Goroutine → World → Prop) (i : Nat) (o : Oper), I l a w Φ → ops[i]? = some o → l.getD i true = false → (∀ e ∈ o.after, Region.binds md e = true → l.getD e.on false = true) → ∀ rest, ((∀ j, j < ops.size → j ≠ i → l.getD j true = true) → rest = []) →
      (∀ a' w' Φ', I (l.setIfInBounds i true) a' w' Φ' → Φ' (G (b.at a' (.inRegion ops rest :: k)) cs) w') → Φ (G (b.at a (.inRegion ops (i :: rest) :: k)) cs) w)
    (hend : ∀ l a w Φ, I l a w Φ → (∀ i, i < ops.size → l.getD i true = true) → Φ (G (b.at a (.inRegion ops [] :: k)) cs) w) :
    ∀ (fuel t : Nat) (l : Array Bool) (a : Act) (w : World) (Φ : Goroutine → World → Prop), I l a w Φ → (∃ m, m + fuel = ops.size ∧ (l.toList.filter id).length = m) → Φ (G (b.at a (.inRegion ops (Region.linearise.go md ops fuel t l []) :: k)) cs) w := by
  intro fuel
  have hall : ∀ l a w Φ, I l a w Φ → ((List.range ops.size).filter fun i => !l.getD i true && ((ops[i]?).map (·.after.all fun e => !Region.binds md e || l.getD e.on false)).getD false) = [] → ∀ i, i < ops.size → l.getD i true = true := by
    intro l a w Φ hI hr i
    induction i using Nat.strongRecOn with
    | _ i ih =>
      intro hi
      by_cases h : l.getD i true = true
      · exact h
      have hmem : i ∈ ((List.range ops.size).filter fun i => !l.getD i true && ((ops[i]?).map (·.after.all fun e => !Region.binds md e || l.getD e.on false)).getD false) := by
        refine List.mem_filter.2 ⟨List.mem_range.2 hi, ?_⟩; have h0 : l.getD i true = false := by simpa using h
        have ho : ops[i]? = some ops[i] := Array.getElem?_eq_getElem hi; simp only [h0, Bool.not_false, Bool.true_and, ho, Option.map_some, Option.getD_some, Array.all_eq_true_iff_forall_mem]; intro e he; cases hbd : Region.binds md e with
        | false => simp
        | true =>
        have hlt := hlow i _ ho e he hbd; have h1 := ih e.on hlt (Nat.lt_trans hlt hi); have hl : e.on < l.size := by rw [hsz l a w Φ hI]; exact Nat.lt_trans hlt hi
        have h2 : l.getD e.on false = true := by
          simp only [Array.getD, hl, dif_pos] at h1 ⊢; exact h1
        simp [h2]
      rw [hr] at hmem; cases hmem
  induction fuel with
  | zero =>
    intro t l a w Φ hI ⟨m, hm, hc⟩; simp only [Region.linearise.go, List.reverse_nil]; refine hend l a w Φ hI fun i hi => ?_
    have hls : l.toList.length = ops.size := by rw [Array.length_toList]; exact hsz l a w Φ hI
    have hfull : (l.toList.filter id).length = l.toList.length := by omega
    have := List.length_filter_eq_length_iff.1 hfull; have hi' : i < l.size := by rw [hsz l a w Φ hI]; exact hi
    have h3 := this l[i] (by simp); simp only [Array.getD, hi', dif_pos]
    simpa using h3
  | succ fuel ih =>
    intro t l a w Φ hI ⟨m, hm, hc⟩; simp only [Region.linearise.go]; generalize hrs : ((List.range ops.size).filter fun i => !l.getD i true && ((ops[i]?).map (·.after.all fun e => !Region.binds md e || l.getD e.on false)).getD false) = rs; cases hi : rs[t % rs.length]? with
    | none =>
      have hnil : rs = [] := by
        cases rs with
        | nil => rfl
        | cons x xs =>
          have hlt : t % (x :: xs).length < (x :: xs).length := Nat.mod_lt _ (by simp); rw [List.getElem?_eq_getElem hlt] at hi; cases hi
      simp only [List.reverse_nil]; exact hend l a w Φ hI (hall l a w Φ hI (hrs.trans hnil))
    | some i =>
      have hmem : i ∈ rs := List.mem_of_getElem? hi; rw [← hrs] at hmem; obtain ⟨hr, hf⟩ := List.mem_filter.1 hmem; have hlt : i < ops.size := List.mem_range.1 hr; have ho : ops[i]? = some ops[i] := Array.getElem?_eq_getElem hlt; simp only [ho, Option.map_some, Option.getD_some, Bool.and_eq_true, Bool.not_eq_true', Array.all_eq_true_iff_forall_mem] at hf
      simp only
      rw [linearise_go_acc, List.reverse_singleton, List.singleton_append]; refine hstep l a w Φ i ops[i] hI ho hf.1 (fun e he hb => ?_) _ (fun hre => lin_nil md _ (fun j hj => ?_) _ _) fun a' w' Φ' hI' => ?_
      · have := hf.2 e he
        simpa [hb] using this
      · have hil : i < l.size := by rw [hsz l a w Φ hI]; exact hlt
        have hjl : j < l.size := by rw [hsz l a w Φ hI]; exact hj
        by_cases hji : j = i
        · subst hji; simp [Array.getD, hil]
        · have := hre j hj hji
          rw [Array.getD_eq_getD_getElem?] at this ⊢; rw [Array.getElem?_setIfInBounds_ne (fun z => hji z.symm)]; exact this
      · refine ih _ _ _ _ _ hI' ⟨m + 1, by omega, ?_⟩
        have hil : i < l.size := by rw [hsz l a w Φ hI]; exact hlt
        have h0 : l[i] = false := by have := hf.1; simpa [Array.getD, hil] using this
        rw [Array.toList_setIfInBounds]; exact hc ▸ filter_set_true l.toList i hil h0
end

section
variable {P : Program} {main : Bool} {D : World → World → Array Event → Prop} {Ψ0 : Goroutine → World → Prop} {fr : Frame} {k : List Item} {cs : List Frame} {ops : Array Oper} {id : Nat} {a : Act} {w : World}
theorem Fut.drawQ (F : Fut P main D Ψ0) (hm : P.follows .mixedOrders = true)
    {n : Nat} (Dp : List (List Nat)) (hn : ops.size = n) (hD : depsOk ops Dp = true)
    (I : (Nat → Bool) → Act → World → (Goroutine → World → Prop) → Prop) (h0 : I (fun _ => false) a w Ψ0)
    (hstep : ∀ i, 0 ≤ i → i < n → ∀ (b : Nat → Bool) (a : Act) (w : World) (Φ : Goroutine → World → Prop), I b a w Φ → (∀ x, x < n → b x = true → ∀ j ∈ Dp.getD x [], b j = true) → b i = false → (∀ j ∈ Dp.getD i [], b j = true) → ∀ rest, ((∀ x, x < n → x ≠ i → b x = true) → rest = []) →
      (∀ a' w' Φ', I (tick b i) a' w' Φ' → Φ' (G (fr.at a' (.inRegion ops rest :: k)) cs) w') → Φ (G (fr.at a (.inRegion ops (i :: rest) :: k)) cs) w)
    (hend : ∀ b a w Φ, I b a w Φ → (∀ i, i < n → b i = true) → Φ (G (fr.at a (.inRegion ops [] :: k)) cs) w) :
    Ψ0 (G (fr.at a (.code (.region id ops true) :: k)) cs) w := by
  subst hn
  have hall : ∀ i o, ops[i]? = some o → (∀ e ∈ o.after, Region.binds .any e = true → e.on < i) ∧ ∀ j ∈ Dp.getD i [], ∃ e ∈ o.after, e.on = j ∧ Region.binds .any e = true := by
    intro i o ho; have hi : i < ops.size := (Array.getElem?_eq_some_iff.1 ho).1; have := List.all_eq_true.1 hD i (List.mem_range.2 hi); rw [ho] at this; simp only [Bool.and_eq_true, decide_eq_true_eq, List.all_eq_true, List.any_eq_true, Array.mem_toList_iff] at this; exact ⟨fun e he hb => (by have := this.1 e he; simpa [hb] using this), this.2⟩
  let m : Array Bool → Nat → Bool := fun l j => l.getD j false
  refine F.step _ _ rfl fun d => ⟨_, _, _, stepG_region_draw, F.idle _ _, ?_, fun z v _ _ => stepG_region_draw⟩
  show Ψ0 _ (w.at (d + 1))
  refine F.at' _ _ _ ?_; simp only [Region.schedule, hm, Bool.true_or, if_true, Region.linearise]; refine draw_goP .any (fun l a w Φ => l.size = ops.size ∧ I (m l) a w Φ ∧ ∀ x, x < ops.size → m l x = true → ∀ j ∈ Dp.getD x [], m l j = true) (fun i o ho => (hall i o ho).1) (fun l a w Φ h => h.1) (fun l a w Φ i o hI ho hl hd rest hre hk => ?_) (fun l a w Φ hI hf => ?_) _ _ _ _ _ _ ⟨by simp, ?_, fun x hx h => ?_⟩ ⟨0, by simp, by simp⟩
  · have hi : i < ops.size := (Array.getElem?_eq_some_iff.1 ho).1
    have hil : i < l.size := by rw [hI.1]; exact hi
    have hmk : m (l.setIfInBounds i true) = tick (m l) i := by
      funext j
      simp only [m, tick, Array.getD, Array.size_setIfInBounds]
      by_cases hj : j = i
      · subst hj; simp [hil]
      · by_cases hjl : j < l.size
        · simp [hjl, hj, Array.getElem_setIfInBounds]
          exact fun z => absurd z.symm hj
        · simp [hjl, hj]
    have hb : m l i = false := by
      simp only [m, Array.getD, hil, dif_pos] at hl ⊢; exact hl
    have hdd : ∀ j ∈ Dp.getD i [], m l j = true := fun j hj => by
      obtain ⟨e, he, rfl, hbn⟩ := (hall i o ho).2 j hj; exact hd e he hbn
    refine hstep i (Nat.zero_le _) hi (m l) a w Φ hI.2.1 hI.2.2 hb hdd rest (fun h => hre fun j hj hji => by
      have := h j hj hji; have hjl : j < l.size := by rw [hI.1]; exact hj
      simp only [m, Array.getD, hjl, dif_pos] at this ⊢; exact this) fun a' w' Φ' hI' => hk a' w' Φ' ⟨by simp [hI.1], by rw [hmk]; exact hI', ?_⟩
    rw [hmk]; intro x hx h j hj
    by_cases hxi : x = i
    · subst hxi
      by_cases hji : j = x
      · simp [tick, hji]
      · have := hdd j hj
        simp [tick, this]
    · have h' : m l x = true := by simpa [tick, hxi] using h
      have := hI.2.2 x hx h' j hj; simp [tick, this]
  · refine hend (m l) a w Φ hI.2.1 fun i hi => ?_
    have := hf i hi; have hil : i < l.size := by rw [hI.1]; exact hi
    simp only [m, Array.getD, hil, dif_pos] at this ⊢; exact this
  · have : m (Array.replicate ops.size false) = fun _ => false := by
      funext j
      simp only [m, Array.getD]
      split <;> simp
    rw [this]; exact h0
  · have : m (Array.replicate ops.size false) x = false := by
      simp only [m, Array.getD]
      split <;> simp
    rw [this] at h; cases h

theorem Fut.drawP {γ : Type} {Ψ : γ → Goroutine → World → Prop} {g0 : γ} (F : Fut P main D (Ψ g0)) (hm : P.follows .mixedOrders = true)
    {n : Nat} (Dp : List (List Nat)) (hn : ops.size = n) (hD : depsOk ops Dp = true) (vals : (Nat → Bool) → γ → List (Nat × Value)) (J : (Nat → Bool) → γ → World → Prop) (h0 : puts a (vals (fun _ => false) g0) = a) (hJ : J (fun _ => false) g0 w)
    (hstep : ∀ i, 0 ≤ i → i < n → ∀ (b : Nat → Bool) (g : γ) (w : World), J b g w → (∀ x j, (decide (x < n) && (Dp.getD x []).contains j) = true → b x = true → b j = true) → b i = false → (∀ j, (Dp.getD i []).contains j = true → b j = true) → ∀ rest, ((∀ x, x < n → x ≠ i → b x = true) → rest = []) →
      (∀ g' w', J (tick b i) g' w' → Ψ g' (G (fr.at (puts a (vals (tick b i) g')) (.inRegion ops rest :: k)) cs) w') → Ψ g (G (fr.at (puts a (vals b g)) (.inRegion ops (i :: rest) :: k)) cs) w)
    (hend : ∀ b g w, J b g w → (∀ i, i < n → b i = true) → Ψ g (G (fr.at (puts a (vals b g)) (.inRegion ops [] :: k)) cs) w) :
    Ψ g0 (G (fr.at a (.code (.region id ops true) :: k)) cs) w := by
  refine F.drawQ hm Dp hn hD (fun b a' w Φ => ∃ g, Φ = Ψ g ∧ a' = puts a (vals b g) ∧ J b g w) ⟨g0, rfl, h0.symm, hJ⟩ (fun i h1 h2 b a' w Φ hI hcl hb hd rest hre hk => ?_) (fun b a' w Φ hI hall => ?_)
  · obtain ⟨g, rfl, rfl, hJ⟩ := hI
    exact hstep i h1 h2 b g w hJ (fun x j hx hbx => by
      simp only [Bool.and_eq_true, decide_eq_true_eq, List.contains_iff_mem] at hx; exact hcl x hx.1 hbx j hx.2) hb (fun j hj => hd j (by simpa using hj)) rest hre fun g' w' hJ' => hk _ _ _ ⟨g', rfl, rfl, hJ'⟩
  · obtain ⟨g, rfl, rfl, hJ⟩ := hI
    exact hend b g w hJ hall
end
end
section
open Go.Conc Go.RowKit Go.Extern

def Eqw (w w' : World) : Prop := w = w'
theorem und32 : Tryz.prog.underlying 32 = some (.slice 46) := by kernel_rfl
theorem ix32 (w : World) {b : Addr} {q cap p : Nat} (h : p < q) : (Instr.indexAt 32 (.slice (some b) q cap) (.int .i64 (p : Int))).events Tryz.prog w #[] = #[] := by
  obtain ⟨inf, i1⟩ : ∃ inf, Tryz.prog.info? 46 = some inf := ⟨_, rfl⟩; have h' : (p : Int) < (q : Int) := by omega
  simp [Instr.indexAt, run_underlying und32, Instr.index, asInt, asIntOf, sizeOf, typeInfo, i1, h, h']

theorem OutU.shape {kd nn t : Int} {M : Nat} {w : World} {en ev v : Value} (h : OutU kd nn t M w en ev v) : ∃ a b c x n cap, v = .agg #[.int .i64 a, .int .i64 b, .int .i64 c, .slice x n cap] := by
  rcases h with ⟨_, rfl⟩ | ⟨_, g, cap, rfl, _⟩ | ⟨_, rfl⟩
  · exact ⟨_, _, _, _, _, _, rfl⟩
  · exact ⟨_, _, _, _, _, _, rfl⟩
  · exact ⟨_, _, _, _, _, _, rfl⟩

/-- The cells of an outcome. -/
def outC (O i : Nat) : List Addr := [⟨O, i * 4, none⟩, ⟨O, i * 4 + 1, none⟩, ⟨O, i * 4 + 2, none⟩, ⟨O, i * 4 + 3, none⟩]
/-- An outcome stands. -/
structure OutAt (w : World) (O i : Nat) (a b c : Int) (x : Option Addr) (n cap : Nat) : Prop where
  c0 : w.cell? ⟨O, i * 4, none⟩ = some (.int .i64 a)
  c1 : w.cell? ⟨O, i * 4 + 1, none⟩ = some (.int .i64 b)
  c2 : w.cell? ⟨O, i * 4 + 2, none⟩ = some (.int .i64 c)
  c3 : w.cell? ⟨O, i * 4 + 3, none⟩ = some (.slice x n cap)

section
variable {γ : Type} {e : Tk} {St : Addr → Prop} {M0 : Nat} {Ψ : Ph γ → Goroutine → World → Prop}

theorem run1_u (W : FutU e St M0 Ψ) (p : Ph γ) (c : Frame) (cs : List Frame) (B HD O bo bi bl n : Nat) (now k0 k1 k2 : Int) (en ev : Value) (m : List Value) (w0 : World) (I : BIn e St M0 p B HD now k0 k1 k2 en ev m w0) (sG : St ⟨0, 0, none⟩) (rG : e.ro ⟨0, 0, none⟩) (hg : w0.cell? ⟨0, 0, none⟩ = some (.iface 217 (.agg #[.pointer (some ⟨1, 121, none⟩)])))
    (hin : e.cl < n) (hO : w0.cell? ⟨bo, 0, none⟩ = some (.slice (some ⟨O, 0, none⟩) n n)) (hi : w0.cell? ⟨bi, 0, none⟩ = some (.int .i64 (e.cl : Int))) (hl : w0.cell? ⟨bl, 0, none⟩ = some (.iface 138 (.pointer (some ⟨B, 0, none⟩))))
    (sO : St ⟨bo, 0, none⟩) (si : St ⟨bi, 0, none⟩) (sl : St ⟨bl, 0, none⟩) (rO : e.ro ⟨bo, 0, none⟩) (ri : e.ro ⟨bi, 0, none⟩) (rl : e.ro ⟨bl, 0, none⟩) (z0 : OutAt w0 O e.cl 0 0 0 none 0 0) (zf : ∀ x ∈ outC O e.cl, w0.frozen? x = false) (sC : ∀ x ∈ outC O e.cl, St x ∧ e.rw x)
    (hc : ∀ p' a b c' x k cap w2 w' en' ev' m', Dn e St M0 (now + k2) w0 en ev p' w2 en' ev' m' → OutU k0 k1 (now + k2) p'.M w2 en' ev' (.agg #[.int .i64 a, .int .i64 b, .int .i64 c', .slice x k cap]) → Kp [] w2 w' (outC O e.cl) → OutAt w' O e.cl a b c' x k cap → Ψ p' (G (c.finish (.tuple #[])) cs) w') :
    Ψ p (G (Frame.enter Tryz.prog 37 #[.pointer (some ⟨e.T, 0, none⟩), .pointer (some ⟨bl, 0, none⟩), .pointer (some ⟨bo, 0, none⟩), .pointer (some ⟨bi, 0, none⟩)] .normal) (c :: cs)) w0 := by
  have F := W.f p; have hi4 : (e.cl : Int) < (n : Int) := by omega
  have e32 : ∀ w, (Instr.indexAt 32 (.slice (some ⟨O, 0, none⟩) n n) (.int .i64 (e.cl : Int))).events Tryz.prog w #[] = #[] := fun w => ix32 w hin
  have hSt0 : ∀ a v, St a → w0.cell? a = some v → w0.cell? a = some v ∧ w0.frozen? a = w0.frozen? a := fun a v _ h => ⟨h, rfl⟩
  have hK0 : TOk e p.M p.Ok := I.ok; rw [enter_at _ Tryz.func37 rfl]; simp only [Tryz.ntmps37, List.size_toArray, List.length_cons, List.length_nil, Nat.reduceAdd, Nat.reduceSub, Array.replicate_succ, Array.replicate_zero, List.push_toArray, List.append_toArray, List.nil_append, List.cons_append]; refine Fut.drawP (γ := Ph γ × Int × Int × Int × Option Addr × Nat × Nat) (n := 7) (Ψ := fun g => Ψ g.1) (g0 := (p, 0, 0, 0, none, 0, 0)) F mixed [[], [], [], [], [2, 3], [0, 1, 2, 3, 4], [0, 1, 2, 3, 4, 5]] rfl (by kernel_rfl) (fun b g => [(5, sel (b 0) (.slice (some ⟨O, 0, none⟩) n n) (undef)), (6, sel (b 1) (.int .i64 (e.cl : Int)) (undef)), (7, sel (b 2) (.iface 138 (.pointer (some ⟨B, 0, none⟩))) (undef)), (8, sel (b 3) (.pointer (some ⟨e.T, 0, none⟩)) (undef)), (9, sel (b 4) (.agg #[.int .i64 g.2.1, .int .i64 g.2.2.1, .int .i64 g.2.2.2.1, .slice g.2.2.2.2.1 g.2.2.2.2.2.1 g.2.2.2.2.2.2]) (undef)), (10, sel (b 5) (.pointer (some ⟨O, e.cl * 4, none⟩)) (undef))]) (fun b g w => (b 6 = false → ((∀ a v, St a → w0.cell? a = some v → w.cell? a = some v ∧ w.frozen? a = w0.frozen? a) ∧ (TOk e g.1.M g.1.Ok) ∧ (b 4 = false → g.1 = p ∧ Eqw w w0) ∧ (b 4 = true → ∃ en' ev' m', Dn e St M0 (now + k2) w0 en ev g.1 w en' ev' m' ∧ OutU k0 k1 (now + k2) g.1.M w en' ev' (.agg #[.int .i64 g.2.1, .int .i64 g.2.2.1, .int .i64 g.2.2.2.1, .slice g.2.2.2.2.1 g.2.2.2.2.2.1 g.2.2.2.2.2.2])))) ∧ (b 6 = true → ( ∃ w2 en' ev' m', Dn e St M0 (now + k2) w0 en ev g.1 w2 en' ev' m' ∧ OutU k0 k1 (now + k2) g.1.M w2 en' ev' (.agg #[.int .i64 g.2.1, .int .i64 g.2.2.1, .int .i64 g.2.2.2.1, .slice g.2.2.2.2.1 g.2.2.2.2.2.1 g.2.2.2.2.2.2]) ∧ Kp [] w2 w (outC O e.cl) ∧ OutAt w O e.cl g.2.1 g.2.2.1 g.2.2.2.1 g.2.2.2.2.1 g.2.2.2.2.2.1 g.2.2.2.2.2.2))) (by simp only [pu, Nat.reduceAdd, Nat.reduceEqDiff, reduceIte]) (⟨fun _ => ⟨hSt0, hK0, fun _ => ⟨rfl, rfl⟩, fun h => (by cases h)⟩, fun h => by cases h⟩) (all_cons ?_ (all_cons ?_ (all_cons ?_ (all_cons ?_ (all_cons ?_ (all_cons ?_ (all_cons ?_ (all_nil)))))))) ?_
  · intro b g w hI hcl hbi hdp rest hre hkk
    obtain ⟨hwf, hwt⟩ := hI; replace hbi : b 0 = false := hbi; have nb6 := nbf (hcl 6 0 rfl) hbi; obtain ⟨hst, hok, hwe, hqq⟩ := hwf nb6; clear hwf hwt; simp only [nb6, hbi, pu, Nat.reduceAdd, Nat.reduceEqDiff, reduceIte]; have F := W.f g.1; have hO1 := (hst _ _ sO hO).1; have oO := hok.st _ rO; refine F.ol rfl rfl rfl fun d K h => ?_; go_simp; refine h _ (fun e m => ?_) ?_; simp [go_sem, *] at m; subst m; exact evr (w := w) (by assumption) (by first | assumption | (apply hfr <;> dsimp only <;> omega)); clear h K d; try walk_nrm
    have hk2 := hkk g _ ⟨fun _ => ⟨hst, hok, hwe, hqq⟩, fun h => no nb6 h⟩; simp only [nb6, hbi, pu, Nat.reduceAdd, Nat.reduceEqDiff, reduceIte] at hk2; exact hk2
  · intro b g w hI hcl hbi hdp rest hre hkk
    obtain ⟨hwf, hwt⟩ := hI; replace hbi : b 1 = false := hbi; have nb6 := nbf (hcl 6 1 rfl) hbi; obtain ⟨hst, hok, hwe, hqq⟩ := hwf nb6; clear hwf hwt; simp only [nb6, hbi, pu, Nat.reduceAdd, Nat.reduceEqDiff, reduceIte]; have F := W.f g.1; have hO1 := (hst _ _ si hi).1; have oO := hok.st _ ri; refine F.ol rfl rfl rfl fun d K h => ?_; go_simp; refine h _ (fun e m => ?_) ?_; simp [go_sem, *] at m; subst m; exact evr (w := w) (by assumption) (by first | assumption | (apply hfr <;> dsimp only <;> omega)); clear h K d; try walk_nrm
    have hk2 := hkk g _ ⟨fun _ => ⟨hst, hok, hwe, hqq⟩, fun h => no nb6 h⟩; simp only [nb6, hbi, pu, Nat.reduceAdd, Nat.reduceEqDiff, reduceIte] at hk2; exact hk2
  · intro b g w hI hcl hbi hdp rest hre hkk
    obtain ⟨hwf, hwt⟩ := hI; replace hbi : b 2 = false := hbi; have nb6 := nbf (hcl 6 2 rfl) hbi; obtain ⟨hst, hok, hwe, hqq⟩ := hwf nb6; clear hwf hwt; simp only [nb6, hbi, pu, Nat.reduceAdd, Nat.reduceEqDiff, reduceIte]; have F := W.f g.1; have hO1 := (hst _ _ sl hl).1; have oO := hok.st _ rl; refine F.ol rfl rfl rfl fun d K h => ?_; go_simp; refine h _ (fun e m => ?_) ?_; simp [go_sem, *] at m; subst m; exact evr (w := w) (by assumption) (by first | assumption | (apply hfr <;> dsimp only <;> omega)); clear h K d; try walk_nrm
    have hk2 := hkk g _ ⟨fun _ => ⟨hst, hok, hwe, hqq⟩, fun h => no nb6 h⟩; simp only [nb6, hbi, pu, Nat.reduceAdd, Nat.reduceEqDiff, reduceIte] at hk2; exact hk2
  · intro b g w hI hcl hbi hdp rest hre hkk
    obtain ⟨hwf, hwt⟩ := hI; replace hbi : b 3 = false := hbi; have nb6 := nbf (hcl 6 3 rfl) hbi; obtain ⟨hst, hok, hwe, hqq⟩ := hwf nb6; clear hwf hwt; simp only [nb6, hbi, pu, Nat.reduceAdd, Nat.reduceEqDiff, reduceIte]; have F := W.f g.1; refine F.oq rfl rfl rfl (by simp [go_sem]) fun d K h => ?_; go_simp; refine h _ ?_; clear h K d; try walk_nrm
    have hk2 := hkk g _ ⟨fun _ => ⟨hst, hok, hwe, hqq⟩, fun h => no nb6 h⟩; simp only [nb6, hbi, pu, Nat.reduceAdd, Nat.reduceEqDiff, reduceIte] at hk2; exact hk2
  · intro b g w hI hcl hbi hdp rest hre hkk
    obtain ⟨hwf, hwt⟩ := hI; replace hbi : b 4 = false := hbi; have d2 := hdp 2 rfl; have d3 := hdp 3 rfl; have nb5 := nbf (hcl 5 4 rfl) hbi; have nb6 := nbf (hcl 6 4 rfl) hbi; obtain ⟨hst, hok, hwe, hqq⟩ := hwf nb6; clear hwf hwt; simp only [d2, d3, nb5, nb6, hbi, pu, Nat.reduceAdd, Nat.reduceEqDiff, reduceIte]; have hw0 : w0 = w := (show w = w0 from (hwe hbi).2).symm; subst hw0; have hgp := (hwe hbi).1; have F := W.f g.1; refine F.enter rfl rfl (by decide) (fun _ => run_call_body rfl Tryz.func38 (by rfl) (by rfl)) (fun _ => events_call_body rfl Tryz.func38 (by rfl) (by rfl) _) ?_; walk_nrm; rw [hgp]; refine call_u W p _ _ B HD now k0 k1 k2 en ev m w0 I sG (fun p' K' => K'.st _ rG) hg (fun p' v w2 en2 ev2 m2 hd ho => ?_); obtain ⟨y1, y2, y3, y4, y5, y6, rfl⟩ := ho.shape; rw [Frame.finish_at]; try walk_nrm
    have hk2 := hkk (p', y1, y2, y3, y4, y5, y6) _ ⟨fun _ => ⟨fun a v h1 h2 => hd.tr.stat a v h1 h2, hd.ok, fun h => (by simp [tick] at h), fun _ => ⟨en2, ev2, m2, hd, ho⟩⟩, fun h => no nb6 h⟩; simp only [d2, d3, nb5, nb6, hbi, pu, Nat.reduceAdd, Nat.reduceEqDiff, reduceIte] at hk2; exact hk2
  · intro b g w hI hcl hbi hdp rest hre hkk
    obtain ⟨hwf, hwt⟩ := hI; replace hbi : b 5 = false := hbi; have d0 := hdp 0 rfl; have d1 := hdp 1 rfl; have d2 := hdp 2 rfl; have d3 := hdp 3 rfl; have d4 := hdp 4 rfl; have nb6 := nbf (hcl 6 5 rfl) hbi; obtain ⟨hst, hok, hwe, hqq⟩ := hwf nb6; clear hwf hwt; simp only [d0, d1, d2, d3, d4, nb6, hbi, pu, Nat.reduceAdd, Nat.reduceEqDiff, reduceIte]; have F := W.f g.1; refine F.oq rfl rfl rfl (fun _ => by first | (simp [go_sem]; done) | simp [go_sem, Instr.makeInterface, Instr.makeFunc, *]) fun d K hK => ?_; go_simp; refine hK _ ?_; clear hK K d; try walk_nrm
    have hk2 := hkk g _ ⟨fun _ => ⟨hst, hok, hwe, hqq⟩, fun h => no nb6 h⟩; simp only [d0, d1, d2, d3, d4, nb6, hbi, pu, Nat.reduceAdd, Nat.reduceEqDiff, reduceIte] at hk2; exact hk2
  · intro b g w hI hcl hbi hdp rest hre hkk
    obtain ⟨hwf, hwt⟩ := hI; replace hbi : b 6 = false := hbi; have d0 := hdp 0 rfl; have d1 := hdp 1 rfl; have d2 := hdp 2 rfl; have d3 := hdp 3 rfl; have d4 := hdp 4 rfl; have d5 := hdp 5 rfl; obtain ⟨hst, hok, hwe, hqq⟩ := hwf hbi; clear hwf hwt; simp only [d0, d1, d2, d3, d4, d5, hbi, pu, Nat.reduceAdd, Nat.reduceEqDiff, reduceIte]; have F := W.f g.1; obtain ⟨en2, ev2, m2, hd, ho⟩ := hqq d4; have s0 := sC ⟨O, e.cl * 4, none⟩ (by simp [outC]); have s1 := sC ⟨O, e.cl * 4 + 1, none⟩ (by simp [outC]); have s2 := sC ⟨O, e.cl * 4 + 2, none⟩ (by simp [outC]); have s3 := sC ⟨O, e.cl * 4 + 3, none⟩ (by simp [outC]); obtain ⟨ho0, zo0⟩ := hst _ _ s0.1 z0.c0; obtain ⟨ho1, zo1⟩ := hst _ _ s1.1 z0.c1; obtain ⟨ho2, zo2⟩ := hst _ _ s2.1 z0.c2; obtain ⟨ho3, zo3⟩ := hst _ _ s3.1 z0.c3; replace zo0 := zo0.trans (zf _ (by simp [outC])); replace zo1 := zo1.trans (zf _ (by simp [outC])); replace zo2 := zo2.trans (zf _ (by simp [outC])); replace zo3 := zo3.trans (zf _ (by simp [outC])); have q0 := hok.sw _ true s0.2; have q1 := hok.sw _ true s1.2; have q2 := hok.sw _ true s2.2; have q3 := hok.sw _ true s3.2; obtain ⟨w9, ew9⟩ : ∃ x, x = w := ⟨w, rfl⟩; have kp : Kp [] w9 w [⟨O, e.cl * 4, none⟩, ⟨O, e.cl * 4 + 1, none⟩, ⟨O, e.cl * 4 + 2, none⟩, ⟨O, e.cl * 4 + 3, none⟩] := by rw [ew9]; exact Kp.refl _
    clear hwe hqq hst z0 s0 s1 s2 s3 hc I hSt0; refine F.op rfl rfl (by decide) (fun d K hK => ?_); go_simp
    repeat rw [setCell_at']
    refine hK _ _ ⟨DX.set4 _ (by (first | assumption | (apply hfr <;> dsimp only <;> omega))) (by (first | assumption | (apply hfr <;> dsimp only <;> omega))) (by (first | assumption | (apply hfr <;> dsimp only <;> omega))) (by (first | assumption | (apply hfr <;> dsimp only <;> omega))) (fun e he => ?_), ?_⟩
    · have hm := mem_listed he
      simp [go_sem, storedEv, evst_slice, evst_ptr, evst_iface, evst_nil, evst_bool, *] at hm; rcases hm with rfl | rfl | rfl | rfl <;> exact .inl ⟨_, rfl, rfl, by (first | assumption | (apply hfr <;> dsimp only <;> omega)), by simp only [size_at, size_set]; first | omega | exact lt_of_cell (by assumption)⟩
    clear hK K d; try walk_nrm
    generalize ew1 : World.setCell w _ _ = w1; have sz1 := sz_st2 ew1; replace zo0 := fz_st zo0 ew1; replace zo1 := fz_st zo1 ew1; replace zo2 := fz_st zo2 ew1; replace zo3 := fz_st zo3 ew1; replace ho0 := cl_st' ho0 ew1; replace ho1 := cl_st ho1 ew1 (by simp <;> omega); replace ho2 := cl_st ho2 ew1 (by simp <;> omega); replace ho3 := cl_st ho3 ew1 (by simp <;> omega); replace kp := kp.stN ew1 (by first | (left; simp; done) | (right; left; simp; done) | (right; right; dsimp only; omega)); generalize ew2 : World.setCell w1 _ _ = w2; have sz2 := sz_st2 ew2; replace zo0 := fz_st zo0 ew2; replace zo1 := fz_st zo1 ew2; replace zo2 := fz_st zo2 ew2; replace zo3 := fz_st zo3 ew2; replace ho0 := cl_st ho0 ew2 (by simp <;> omega); replace ho1 := cl_st' ho1 ew2; replace ho2 := cl_st ho2 ew2 (by simp <;> omega); replace ho3 := cl_st ho3 ew2 (by simp <;> omega); replace kp := kp.stN ew2 (by first | (left; simp; done) | (right; left; simp; done) | (right; right; dsimp only; omega)); generalize ew3 : World.setCell w2 _ _ = w3; have sz3 := sz_st2 ew3; replace zo0 := fz_st zo0 ew3; replace zo1 := fz_st zo1 ew3; replace zo2 := fz_st zo2 ew3; replace zo3 := fz_st zo3 ew3; replace ho0 := cl_st ho0 ew3 (by simp <;> omega); replace ho1 := cl_st ho1 ew3 (by simp <;> omega); replace ho2 := cl_st' ho2 ew3; replace ho3 := cl_st ho3 ew3 (by simp <;> omega); replace kp := kp.stN ew3 (by first | (left; simp; done) | (right; left; simp; done) | (right; right; dsimp only; omega))
    generalize ew4 : World.setCell w3 _ _ = w4; have sz4 := sz_st2 ew4; replace zo0 := fz_st zo0 ew4; replace zo1 := fz_st zo1 ew4; replace zo2 := fz_st zo2 ew4; replace zo3 := fz_st zo3 ew4; replace ho0 := cl_st ho0 ew4 (by simp <;> omega); replace ho1 := cl_st ho1 ew4 (by simp <;> omega); replace ho2 := cl_st ho2 ew4 (by simp <;> omega); replace ho3 := cl_st' ho3 ew4; replace kp := kp.stN ew4 (by first | (left; simp; done) | (right; left; simp; done) | (right; right; dsimp only; omega)); rw [← ew9] at hd ho; have hk2 := hkk g _ ⟨fun h => by simp [tick] at h, fun _ => ⟨w9, en2, ev2, m2, hd, ho, kp, ⟨ho0, ho1, ho2, ho3⟩⟩⟩; simp only [d0, d1, d2, d3, d4, d5, hbi, pu, Nat.reduceAdd, Nat.reduceEqDiff, reduceIte] at hk2; exact hk2
  intro b g w hI hall; obtain ⟨hwf, hwt⟩ := hI; simp only [hall 0 (by decide), hall 1 (by decide), hall 2 (by decide), hall 3 (by decide), hall 4 (by decide), hall 5 (by decide), hall 6 (by decide), pu, Nat.reduceAdd, Nat.reduceEqDiff, reduceIte]; obtain ⟨w2, en2, ev2, m2, f1, f2, f3, f4⟩ := hwt (hall 6 (by decide)); have F := W.f g.1; clear hwf hwt; refine F.re ?_; refine F.ctl (fun _ => stepG_end) ?_; refine F.leave rfl rfl Tryz.func37 (resultsC_none (by rfl) _) ?_; exact hc _ _ _ _ _ _ _ _ _ _ _ _ f1 f2 f3 f4
end
end
end Go.Proofs.YtobagnjnbmgidaaGreatDoor
