/- A walk in company without a count of steps: 'Fut': a property of a goroutine's record and a world that is closed under the goroutine's own steps, whatever the count of draws; and the rules by which a walk goes from record to record. -/
import Derived.Conc.CompanyMem
import Derived.Conc.CompanyCalls
import Derived.Conc.CompanyDraw
import Derived.Conc.DeferLaws
import Derived.Conc.Starve
import Derived.Conc.AppendWalk
import Derived.RowKit
import Derived.KernelRfl
import Derived.Below
import Derived.OwnWalk
import Derived.WalkKit
import Derived.Conc.Token
import Derived.Conc.MarkLaws
set_option linter.unusedVariables false
set_option linter.unusedSimpArgs false
namespace Go.Proofs.YtobagnjnbmgidaaGreatDoor
open Go.Conc Go.RowKit

/-- A future. -/
structure Fut (P : Program) (main : Bool) (D : World → World → Array Event → Prop) (Ψ : Goroutine → World → Prop) : Prop where
  at' : ∀ g w d, Ψ g w → Ψ g (w.at d)
  idle : ∀ w d, D w (w.at d) #[]
  step : ∀ g w, g.status = .running → (∀ d, (stepG P main g (w.at d)).goes fun g' w' es => D (w.at d) w' es ∧ Ψ g' w') → Ψ g w

section
variable {P : Program} {main : Bool} {D : World → World → Array Event → Prop} {Ψ : Goroutine → World → Prop} {b : Frame} {a : Act} {k : List Item} {cs : List Frame} {w : World}

/-- A move of control. -/
theorem Fut.ctl (F : Fut P main D Ψ) {fr fr' : Frame} {cs cs' : List Frame} (h : ∀ w, stepG P main (G fr cs) w = .go (G fr' cs') w #[]) (hk : Ψ (G fr' cs') w) : Ψ (G fr cs) w :=
  F.step _ _ rfl fun d => by rw [h]; exact ⟨F.idle _ _, F.at' _ _ _ hk⟩

/-- An operation that yields a value or nothing. -/
theorem Fut.op (F : Fut P main D Ψ) {ops : Array Oper} {i : Nat} {rest : List Nat} {o : Oper} (ho : ops[i]? = some o) (hw : Region.wanted o (yielded ops a.tmps) = true) (hk : b.kind ≠ .early)
    (h : ∀ d, ∀ K : Act → World → Prop, (∀ a' w', D (w.at d) (w'.at d) (listed P b.fn a o (w.at d)) ∧ Ψ (G (b.at a' (.inRegion ops rest :: k)) cs) w' → K a' (w'.at d)) → uponK o a K ((execOp a.eval o).run P (w.at d))) :
    Ψ (G (b.at a (.inRegion ops (i :: rest) :: k)) cs) w :=
  F.step _ _ rfl fun d => goes_oper_k ho hw hk fun K hK => by
    have h' := h d (fun a' W => D (w.at d) W (listed P b.fn a o (w.at d)) ∧ Ψ (G (b.at a' (.inRegion ops rest :: k)) cs) W) fun a' w' x => ⟨x.1, F.at' _ _ _ x.2⟩
    exact uponK_mono (fun a' w' x => hK a' w' x) h'

/-- An operation that yields a value or nothing, turns nothing and lists nothing. -/
theorem Fut.opq (F : Fut P main D Ψ) {ops : Array Oper} {i : Nat} {rest : List Nat} {o : Oper} (ho : ops[i]? = some o) (hw : Region.wanted o (yielded ops a.tmps) = true) (hk : b.kind ≠ .early)
    (he : ∀ d, (execOp a.eval o).events P (w.at d) #[] = #[])
    (h : ∀ d, ∀ K : Act → World → Prop, (∀ a', Ψ (G (b.at a' (.inRegion ops rest :: k)) cs) w → K a' (w.at d)) → uponK o a K ((execOp a.eval o).run P (w.at d))) :
    Ψ (G (b.at a (.inRegion ops (i :: rest) :: k)) cs) w :=
  F.op ho hw hk fun d K hK => h d K fun a' x => hK a' w ⟨by rw [listed_nil (he d)]; exact F.idle _ _, x⟩

/-- An operation that is not wanted. -/
theorem Fut.unwanted (F : Fut P main D Ψ) {ops : Array Oper} {i : Nat} {rest : List Nat} {o : Oper} (ho : ops[i]? = some o) (hw : Region.wanted o (yielded ops a.tmps) = false)
    (h : Ψ (G (b.at (a.put o.dst undef) (.inRegion ops rest :: k)) cs) w) : Ψ (G (b.at a (.inRegion ops (i :: rest) :: k)) cs) w :=
  F.ctl (fun _ => stepG_unwanted ho hw) h

def late (b : Frame) : Bool := match b.kind with | .early => false | _ => true
theorem not_early {b : Frame} (h : late b = true) : b.kind ≠ .early := fun z => by rw [late, z] at h; cases h
theorem Fut.oq (F : Fut P main D Ψ) {ops : Array Oper} {i : Nat} {rest : List Nat} {o : Oper} (ho : ops[i]? = some o) (hw : Region.wanted o (yielded ops a.tmps) = true) (hk : late b = true)
    (he : ∀ d, (execOp a.eval o).events P (w.at d) #[] = #[])
    (h : ∀ d, ∀ K : Act → World → Prop, (∀ a', Ψ (G (b.at a' (.inRegion ops rest :: k)) cs) w → K a' (w.at d)) → uponK o a K ((execOp a.eval o).run P (w.at d))) :
    Ψ (G (b.at a (.inRegion ops (i :: rest) :: k)) cs) w := F.opq ho hw (not_early hk) he h

def rg : List Oper → Nat → List Nat
  | [], _ => []
  | _ :: l, n => n :: rg l (n + 1)
theorem rg_range (l : List Oper) : List.range l.toArray.size = rg l 0 := by
  have h : ∀ (l : List Oper) (n : Nat), rg l n = List.range' n l.length := by
    intro l
    induction l with
    | nil => intro n; rfl
    | cons x l ih => intro n; simp [rg, ih, List.range'_succ]
  rw [h, List.range_eq_range']
  simp
theorem no {x : Bool} {p : Prop} (h : x = false) (h' : x = true) : p := by rw [h] at h'; cases h'
theorem nbf {x y : Bool} (h : x = true → y = true) (hy : y = false) : x = false := by
  cases hx : x with
  | false => rfl
  | true => have := h hx; rw [hy] at this; cases this
theorem Fut.re (F : Fut P main D Ψ) {ops : Array Oper} (h : Ψ (G (b.at a (k)) cs) w) : Ψ (G (b.at a (.inRegion ops [] :: k)) cs) w := F.ctl (fun _ => stepG_region_end) h
theorem Fut.sq (F : Fut P main D Ψ) {x y : Code} (h : Ψ (G (b.at a (.code x :: .code y :: k)) cs) w) : Ψ (G (b.at a (.code (.seq x y) :: k)) cs) w := F.ctl (fun _ => stepG_seq) h
theorem Fut.rr (F : Fut P main D Ψ) {id : Nat} {l : List Oper} (h : Ψ (G (b.at a (.inRegion l.toArray (rg l 0) :: k)) cs) w) : Ψ (G (b.at a (.code (.region id l.toArray false) :: k)) cs) w := F.ctl (fun _ => stepG_region) (by rw [rg_range]; exact h)
theorem Fut.sr (F : Fut P main D Ψ) {id : Nat} {l : List Oper} {y : Code} (h : Ψ (G (b.at a (.inRegion l.toArray (rg l 0) :: .code y :: k)) cs) w) : Ψ (G (b.at a (.code (.seq (.region id l.toArray false) y) :: k)) cs) w := F.sq (F.rr h)
theorem Fut.es (F : Fut P main D Ψ) {ops : Array Oper} {x y : Code} (h : Ψ (G (b.at a (.code x :: .code y :: k)) cs) w) : Ψ (G (b.at a (.inRegion ops [] :: .code (.seq x y) :: k)) cs) w := F.re (F.sq h)
theorem Fut.er (F : Fut P main D Ψ) {ops : Array Oper} {id : Nat} {l : List Oper} (h : Ψ (G (b.at a (.inRegion l.toArray (rg l 0) :: k)) cs) w) : Ψ (G (b.at a (.inRegion ops [] :: .code (.region id l.toArray false) :: k)) cs) w := F.re (F.rr h)
theorem Fut.esr (F : Fut P main D Ψ) {ops : Array Oper} {id : Nat} {l : List Oper} {y : Code} (h : Ψ (G (b.at a (.inRegion l.toArray (rg l 0) :: .code y :: k)) cs) w) : Ψ (G (b.at a (.inRegion ops [] :: .code (.seq (.region id l.toArray false) y) :: k)) cs) w := F.re (F.sr h)
theorem Fut.cf (F : Fut P main D Ψ) {c : Operand} {x y : Code} (e : a.eval c = .bool false) (h : Ψ (G (b.at a (.code y :: k)) cs) w) : Ψ (G (b.at a (.code (.cond c x y) :: k)) cs) w := F.ctl (fun _ => stepG_cond (t := false) e) h
theorem Fut.ct (F : Fut P main D Ψ) {c : Operand} {x y : Code} (e : a.eval c = .bool true) (h : Ψ (G (b.at a (.code x :: k)) cs) w) : Ψ (G (b.at a (.code (.cond c x y) :: k)) cs) w := F.ctl (fun _ => stepG_cond (t := true) e) h
theorem Fut.sk (F : Fut P main D Ψ) (h : Ψ (G (b.at a (k)) cs) w) : Ψ (G (b.at a (.code .skip :: k)) cs) w := F.ctl (fun _ => stepG_skip) h
theorem Fut.bl (F : Fut P main D Ψ) {id : Nat} {c : Code} (h : Ψ (G (b.at a (.code c :: .inBlock id :: k)) cs) w) : Ψ (G (b.at a (.code (.block id c) :: k)) cs) w := F.ctl (fun _ => stepG_block) h
theorem Fut.ib (F : Fut P main D Ψ) {id : Nat} (h : Ψ (G (b.at a (k)) cs) w) : Ψ (G (b.at a (.inBlock id :: k)) cs) w := F.ctl (fun _ => stepG_inBlock) h

/-- A contract in company, by what follows. -/
def CallsX (P : Program) (main : Bool) (D : World → World → Array Event → Prop) (f : FuncId) (args : Array Value) (w : World) (Post : Value → World → Prop) : Prop :=
  ∀ Ψ, Fut P main D Ψ → ∀ c cs, (∀ v w', Post v w' → Ψ (G (c.finish v) cs) w') → Ψ (G (Frame.enter P f args .normal) (c :: cs)) w

theorem CallsX.mono {f : FuncId} {args : Array Value} {Post Post' : Value → World → Prop} (h : CallsX P main D f args w Post) (hp : ∀ v w', Post v w' → Post' v w') : CallsX P main D f args w Post' :=
  fun Ψ F c cs hc => h Ψ F c cs fun v w' x => hc v w' (hp v w' x)

/-- A call whose callee is found by reckoning: it enters f. -/
theorem Fut.enter (F : Fut P main D Ψ) {ops : Array Oper} {i : Nat} {rest : List Nat} {o : Oper} {f : FuncId} {args : Array Value} (ho : ops[i]? = some o) (hw : Region.wanted o (yielded ops a.tmps) = true) (hk : b.kind ≠ .early)
    (hr : ∀ d, (execOp a.eval o).run P (w.at d) = .ok (.enter f args) (w.at d)) (he : ∀ d, (execOp a.eval o).events P (w.at d) #[] = #[])
    (h : Ψ (G (Frame.enter P f args .normal) (b.at a (.inRegion ops (i :: rest) :: k) :: cs)) w) : Ψ (G (b.at a (.inRegion ops (i :: rest) :: k)) cs) w :=
  F.step _ _ rfl fun d => by rw [stepG_enter ho hw hk (hr d), listed_nil (he d)]; exact ⟨F.idle _ _, F.at' _ _ _ h⟩

/-- .. of a function that is named outright, by its contract. -/
theorem Fut.call (F : Fut P main D Ψ) {ops : Array Oper} {i : Nat} {rest : List Nat} {o : Oper} {f : FuncId} {fn : Func} {args : Array Operand} {ats : Array TypeId} {Post : Value → World → Prop}
    (ho : ops[i]? = some o) (hw : Region.wanted o (yielded ops a.tmps) = true) (hk : b.kind ≠ .early) (hop : o.op = .call { callee := .value (.func f), args, argTypes := ats })
    (hf : P.funcs[f]? = some fn) (hname : (fn.name == "runtime.NumGoroutine") = false) (hb : fn.body.isNone = false)
    (hc : CallsX P main D f (args.map a.eval) w Post) (h : ∀ v w', Post v w' → Ψ (G (b.at (a.put o.dst v) (.inRegion ops rest :: k)) cs) w') :
    Ψ (G (b.at a (.inRegion ops (i :: rest) :: k)) cs) w :=
  F.enter ho hw hk (fun _ => run_call_body hop hf hname hb) (fun _ => events_call_body hop hf hname hb _) (hc Ψ F _ _ fun v w' p => by rw [Frame.finish_at, ho]; exact h v w' p)

/-- The return. -/
theorem Fut.leave (F : Fut P main D Ψ) {fn : Func} {todo : List Item} {c : Frame} {v : Value} (hn : b.kind = .normal) (hd : a.defers = []) (hf : P.funcs[b.fn]? = some fn) (hr : ResultsC P fn a.tmps v)
    (h : Ψ (G (c.finish v) cs) w) : Ψ (G { b.at a todo with mode := .returning } (c :: cs)) w :=
  F.step _ _ rfl fun d => by rw [stepG_leave hn hd hf (hr _).1 (hr _).2]; exact ⟨F.idle _ _, F.at' _ _ _ h⟩
end

theorem filter_set_true : ∀ (l : List Bool) (i : Nat) (h : i < l.length), l[i] = false → ((l.set i true).filter id).length = (l.filter id).length + 1
  | x :: xs, 0, _, h => by
    have : x = false := h
    subst this
    simp
  | x :: xs, i + 1, h, h0 => by
    have ih := filter_set_true xs i (by simpa using h) (by simpa using h0)
    cases x <;> simp [ih]

/-! ### A region that draws its order: whatever comes up -/
section
variable {P : Program} {main : Bool} {D : World → World → Array Event → Prop} {Ψ : Goroutine → World → Prop} {b : Frame} {k : List Item} {cs : List Frame} {ops : Array Oper}

theorem lin_nil (md : Region.Mode) (l : Array Bool) (h : ∀ j, j < ops.size → l.getD j true = true) (fuel t : Nat) : Region.linearise.go md ops fuel t l [] = [] := by
  cases fuel with
  | zero => simp [Region.linearise.go]
  | succ fuel =>
    have hrs : ((List.range ops.size).filter fun i => !l.getD i true && ((ops[i]?).map (·.after.all fun e => !Region.binds md e || l.getD e.on false)).getD false) = [] := by
      rw [List.filter_eq_nil_iff]
      intro j hj
      rw [h j (List.mem_range.1 hj)]
      simp
    simp only [Region.linearise.go, hrs]
    simp
theorem draw_go (md : Region.Mode) (I : Array Bool → Act → World → Prop)
    (hlow : ∀ (i : Nat) (o : Oper), ops[i]? = some o → ∀ e ∈ o.after, Region.binds md e = true → e.on < i)
    (hsz : ∀ l a w, I l a w → l.size = ops.size)
    (hstep : ∀ (l : Array Bool) (a : Act) (w : World) (i : Nat) (o : Oper), I l a w → ops[i]? = some o → l.getD i true = false → (∀ e ∈ o.after, Region.binds md e = true → l.getD e.on false = true) → ∀ rest, ((∀ j, j < ops.size → j ≠ i → l.getD j true = true) → rest = []) →
      (∀ a' w', I (l.setIfInBounds i true) a' w' → Ψ (G (b.at a' (.inRegion ops rest :: k)) cs) w') → Ψ (G (b.at a (.inRegion ops (i :: rest) :: k)) cs) w)
    (hend : ∀ l a w, I l a w → (∀ i, i < ops.size → l.getD i true = true) → Ψ (G (b.at a (.inRegion ops [] :: k)) cs) w) :
    ∀ (fuel t : Nat) (l : Array Bool) (a : Act) (w : World), I l a w → (∃ m, m + fuel = ops.size ∧ (l.toList.filter id).length = m) → Ψ (G (b.at a (.inRegion ops (Region.linearise.go md ops fuel t l []) :: k)) cs) w := by
  intro fuel
  have hall : ∀ l a w, I l a w → ((List.range ops.size).filter fun i => !l.getD i true && ((ops[i]?).map (·.after.all fun e => !Region.binds md e || l.getD e.on false)).getD false) = [] → ∀ i, i < ops.size → l.getD i true = true := by
    intro l a w hI hr i
    induction i using Nat.strongRecOn with
    | _ i ih =>
      intro hi
      by_cases h : l.getD i true = true
      · exact h
      have hmem : i ∈ ((List.range ops.size).filter fun i => !l.getD i true && ((ops[i]?).map (·.after.all fun e => !Region.binds md e || l.getD e.on false)).getD false) := by
        refine List.mem_filter.2 ⟨List.mem_range.2 hi, ?_⟩
        have h0 : l.getD i true = false := by simpa using h
        have ho : ops[i]? = some ops[i] := Array.getElem?_eq_getElem hi
        simp only [h0, Bool.not_false, Bool.true_and, ho, Option.map_some, Option.getD_some, Array.all_eq_true_iff_forall_mem]
        intro e he
        cases hbd : Region.binds md e with
        | false => simp
        | true =>
        have hlt := hlow i _ ho e he hbd
        have h1 := ih e.on hlt (Nat.lt_trans hlt hi)
        have hl : e.on < l.size := by rw [hsz l a w hI]; exact Nat.lt_trans hlt hi
        have h2 : l.getD e.on false = true := by
          simp only [Array.getD, hl, dif_pos] at h1 ⊢; exact h1
        simp [h2]
      rw [hr] at hmem
      cases hmem
  induction fuel with
  | zero =>
    intro t l a w hI ⟨m, hm, hc⟩
    simp only [Region.linearise.go, List.reverse_nil]
    refine hend l a w hI fun i hi => ?_
    have hls : l.toList.length = ops.size := by rw [Array.length_toList]; exact hsz l a w hI
    have hfull : (l.toList.filter id).length = l.toList.length := by omega
    have := List.length_filter_eq_length_iff.1 hfull
    have hi' : i < l.size := by rw [hsz l a w hI]; exact hi
    have h3 := this l[i] (by simp)
    simp only [Array.getD, hi', dif_pos]
    simpa using h3
  | succ fuel ih =>
    intro t l a w hI ⟨m, hm, hc⟩
    simp only [Region.linearise.go]
    generalize hrs : ((List.range ops.size).filter fun i => !l.getD i true && ((ops[i]?).map (·.after.all fun e => !Region.binds md e || l.getD e.on false)).getD false) = rs
    cases hi : rs[t % rs.length]? with
    | none =>
      have hnil : rs = [] := by
        cases rs with
        | nil => rfl
        | cons x xs =>
          have hlt : t % (x :: xs).length < (x :: xs).length := Nat.mod_lt _ (by simp)
          rw [List.getElem?_eq_getElem hlt] at hi
          cases hi
      simp only [List.reverse_nil]
      exact hend l a w hI (hall l a w hI (hrs.trans hnil))
    | some i =>
      have hmem : i ∈ rs := List.mem_of_getElem? hi
      rw [← hrs] at hmem
      obtain ⟨hr, hf⟩ := List.mem_filter.1 hmem
      have hlt : i < ops.size := List.mem_range.1 hr
      have ho : ops[i]? = some ops[i] := Array.getElem?_eq_getElem hlt
      simp only [ho, Option.map_some, Option.getD_some, Bool.and_eq_true, Bool.not_eq_true', Array.all_eq_true_iff_forall_mem] at hf
      simp only
      rw [linearise_go_acc, List.reverse_singleton, List.singleton_append]
      refine hstep l a w i ops[i] hI ho hf.1 (fun e he hb => ?_) _ (fun hre => lin_nil md _ (fun j hj => ?_) _ _) fun a' w' hI' => ?_
      · have := hf.2 e he
        simpa [hb] using this
      · have hil : i < l.size := by rw [hsz l a w hI]; exact hlt
        have hjl : j < l.size := by rw [hsz l a w hI]; exact hj
        by_cases hji : j = i
        · subst hji; simp [Array.getD, hil]
        · have := hre j hj hji
          rw [Array.getD_eq_getD_getElem?] at this ⊢
          rw [Array.getElem?_setIfInBounds_ne (fun z => hji z.symm)]
          exact this
      · refine ih _ _ _ _ hI' ⟨m + 1, by omega, ?_⟩
        have hil : i < l.size := by rw [hsz l a w hI]; exact hlt
        have h0 : l[i] = false := by have := hf.1; simpa [Array.getD, hil] using this
        rw [Array.toList_setIfInBounds]
        exact hc ▸ filter_set_true l.toList i hil h0
end

/-- A region that draws its order. 'I l a w': what holds of slots and world once the operations that l marks have come up. -/
theorem Fut.draw {P : Program} {main : Bool} {D : World → World → Array Event → Prop} {Ψ : Goroutine → World → Prop} {b : Frame} {k : List Item} {cs : List Frame} {ops : Array Oper} {id : Nat} {a : Act} {w : World} (F : Fut P main D Ψ) (hm : P.follows .mixedOrders = true)
    (I : Array Bool → Act → World → Prop) (hlow : ∀ (i : Nat) (o : Oper), ops[i]? = some o → ∀ e ∈ o.after, Region.binds .any e = true → e.on < i) (hsz : ∀ l a w, I l a w → l.size = ops.size) (h0 : I (Array.replicate ops.size false) a w)
    (hstep : ∀ (l : Array Bool) (a : Act) (w : World) (i : Nat) (o : Oper), I l a w → ops[i]? = some o → l.getD i true = false → (∀ e ∈ o.after, Region.binds .any e = true → l.getD e.on false = true) → ∀ rest, ((∀ j, j < ops.size → j ≠ i → l.getD j true = true) → rest = []) →
      (∀ a' w', I (l.setIfInBounds i true) a' w' → Ψ (G (b.at a' (.inRegion ops rest :: k)) cs) w') → Ψ (G (b.at a (.inRegion ops (i :: rest) :: k)) cs) w)
    (hend : ∀ l a w, I l a w → (∀ i, i < ops.size → l.getD i true = true) → Ψ (G (b.at a (.inRegion ops [] :: k)) cs) w) :
    Ψ (G (b.at a (.code (.region id ops true) :: k)) cs) w := by
  refine F.step _ _ rfl fun d => ?_
  rw [stepG_region_draw]
  refine ⟨F.idle _ _, ?_⟩
  show Ψ _ (w.at (d + 1))
  refine F.at' _ _ _ ?_
  simp only [Region.schedule, hm, Bool.true_or, if_true, Region.linearise]
  exact draw_go .any I hlow hsz hstep hend _ _ _ _ _ h0 ⟨0, by simp, by simp⟩

/-! ### What a step may list and turn -/
/-- An entry of the trace: a plain access of a cell that is there, which 'Ok' allows; or that no room was asked for. -/
def EvX (Ok : Addr → Bool → Prop) (w' : World) (e : Event) : Prop := (∃ a : Addr, e.loc = .cell a ∧ e.sync = e.sync ∧ Ok a e.write ∧ a.block < w'.heap.size) ∨ e = noRoomEvent
structure DX (Ok : Addr → Bool → Prop) (w w' : World) (es : Array Event) : Prop where
  ev : ∀ e ∈ es, EvX Ok w' e
  size : w.heap.size ≤ w'.heap.size
  obj : ∀ (c : Nat) (o : Obj), w.heap[c]? = some o → (∀ cs t f, o ≠ Obj.cells cs t f) → w'.heap[c]? = some o
  cell : ∀ a : Addr, ¬ Ok a true → a.block < w.heap.size → w'.cell? a = w.cell? a ∧ w'.frozen? a = w.frozen? a
  blk : ∀ k : Nat, k < w.heap.size → (∀ a : Addr, a.block = k → ¬ Ok a true) → w'.heap[k]? = w.heap[k]?
  rest : w'.os = w.os ∧ w'.tape = w.tape ∧ w'.output = w.output

section
variable {Ok : Addr → Bool → Prop} {w w' : World} {es : Array Event}
theorem DX.idle (w : World) (d : Nat) : DX Ok w (w.at d) #[] := ⟨by simp, Nat.le_refl _, fun _ _ h _ => h, fun _ _ _ => ⟨rfl, rfl⟩, fun _ _ _ => rfl, rfl, rfl, rfl⟩
theorem DX.still (d : Nat) (h : ∀ e ∈ es, EvX Ok (w.at d) e) : DX Ok (w.at d) (w.at d) es := ⟨h, Nat.le_refl _, fun _ _ h _ => h, fun _ _ _ => ⟨rfl, rfl⟩, fun _ _ _ => rfl, rfl, rfl, rfl⟩
theorem lt_of_cell {a : Addr} {v : Value} (h : w.cell? a = some v) : a.block < w.heap.size := by
  unfold World.cell? at h
  split at h
  · rename_i h'; exact (Array.getElem?_eq_some_iff.1 h').1
  · cases h
theorem DX.set {a : Addr} {v : Value} (d : Nat) (ok : Ok a true) (h : ∀ e ∈ es, EvX Ok ((w.setCell a v).at d) e) : DX Ok (w.at d) ((w.setCell a v).at d) es := by
  refine ⟨h, by show w.heap.size ≤ (w.setCell a v).heap.size; simp [World.setCell], fun c o ho hn => ?_, fun x hx hlt => ?_, fun k hk hn => Below.heap_setCell w a v k (fun e => hn a e.symm ok), rfl, rfl, rfl⟩
  · show (w.setCell a v).heap[c]? = some o
    have ho' : w.heap[c]? = some o := ho
    simp only [World.setCell, Array.getElem?_modify, ho']
    split
    · cases o <;> first | rfl | exact absurd rfl (hn _ _ _)
    · rfl
  · have hne : a ≠ x := fun e => hx (e ▸ ok)
    exact ⟨World.cell?_setCell_other _ _ _ _ hne, World.frozen?_setCell _ _ _ _⟩
theorem DX.alloc (d : Nat) (o : Obj) (h : ∀ e ∈ es, EvX Ok ((w.alloc o).at d) e) : DX Ok (w.at d) ((w.alloc o).at d) es := by
  refine ⟨h, by show w.heap.size ≤ (w.alloc o).heap.size; simp, fun c x hx _ => ?_, fun x _ hlt => ?_, fun k hk _ => Below.heap_alloc w o k hk, rfl, rfl, rfl⟩
  · have hx' : w.heap[c]? = some x := hx
    show (w.alloc o).heap[c]? = some x
    rw [Below.heap_alloc _ _ _ ((Array.getElem?_eq_some_iff.1 hx').1)]; exact hx'
  · have hlt' : x.block < w.heap.size := hlt
    exact ⟨World.cell?_alloc_lt _ _ _ hlt', World.frozen?_alloc_past _ _ _ hlt'⟩
end

theorem Fut.ol {Ok : Addr → Bool → Prop} {P : Program} {main : Bool} {Ψ : Goroutine → World → Prop} {b : Frame} {a : Act} {k : List Item} {cs : List Frame} {w : World} (F : Fut P main (DX Ok) Ψ) {ops : Array Oper} {i : Nat} {rest : List Nat} {o : Oper} (ho : ops[i]? = some o) (hw : Region.wanted o (yielded ops a.tmps) = true) (hk : late b = true)
    (h : ∀ d, ∀ K : Act → World → Prop, (∀ a', (∀ e ∈ (execOp a.eval o).events P (w.at d) #[], EvX Ok (w.at d) e) → Ψ (G (b.at a' (.inRegion ops rest :: k)) cs) w → K a' (w.at d)) → uponK o a K ((execOp a.eval o).run P (w.at d))) :
    Ψ (G (b.at a (.inRegion ops (i :: rest) :: k)) cs) w :=
  F.op ho hw (not_early hk) fun d K hK => h d K fun a' he x => hK a' w ⟨DX.still _ fun e hm => he e (mem_listed hm), x⟩
theorem evr {Ok : Addr → Bool → Prop} {w : World} {d : Nat} {a : Addr} {v : Value} {wr sy : Bool} (h : w.cell? a = some v) (ok : Ok a wr) : EvX Ok (w.at d) ⟨.cell a, wr, sy⟩ := .inl ⟨a, rfl, rfl, ok, lt_of_cell h⟩
end Go.Proofs.YtobagnjnbmgidaaGreatDoor

/-! The trace while one of two parties goes on at a time, beside atomic touches of shunned places that nobody accounts for. -/
namespace Go.Proofs.YtobagnjnbmgidaaGreatDoor
open Go.Conc
open Go.ConcN (sumTo upd sumTo_upd upd_ne upd_same)

/-- Touch i is accounted for: h knows it, or it is an atomic one of a shunned place that nobody hears; and at a shunned place it is not plain, and said by goroutine 0 alone. -/
def Acc (Shun : Loc → Prop) (h : Nat) (t : Trace) (i : Nat) : Prop :=
  i < t.size ∧ (Knows t h i ∨ ∃ a, touchAt t i = some a ∧ a.kind = .atomic ∧ Shun a.loc ∧ ¬ t.heard i) ∧ ∀ a, touchAt t i = some a → Shun a.loc → a.kind ≠ .plain ∧ (a.kind = .said → t.g? i = some 0)

section
variable {Shun Still : Loc → Prop} {Mem Lo : Nat → Prop} {B h j c : Nat} {t u : Trace}

theorem Acc.app {i : Nat} (H : Acc Shun h t i) (u : Trace) : Acc Shun h (t ++ u) i := by
  obtain ⟨hi, hk, hn⟩ := H
  refine ⟨by simp; omega, hk.imp (Knows.app u) fun ⟨a, ha, x1, x2, x3⟩ => ⟨a, by rw [touchAt_old hi]; exact ha, x1, x2, fun z => x3 ((heard_old hi).1 z)⟩, fun a ha hs => ?_⟩
  rw [touchAt_old hi] at ha
  rw [g?_old hi]
  exact hn a ha hs

/-- To another knower. -/
theorem Acc.to {i : Nat} (H : Acc Shun h t i) (hk : Knows t h i → Knows (t ++ u) j i) : Acc Shun j (t ++ u) i := by
  obtain ⟨hi, hk', hn⟩ := H
  refine ⟨by simp; omega, hk'.imp hk fun ⟨a, ha, x1, x2, x3⟩ => ⟨a, by rw [touchAt_old hi]; exact ha, x1, x2, fun z => x3 ((heard_old hi).1 z)⟩, fun a ha hs => ?_⟩
  rw [touchAt_old hi] at ha
  rw [g?_old hi]
  exact hn a ha hs

/-- What a step of the holder's may list. -/
def EvR (Shun Still : Loc → Prop) (B h : Nat) (e : Event) : Prop :=
  (∀ x, (MemAct.ofEvent e).touch? = some x → (Still x.loc → x.write = false) ∧ (Shun x.loc → x.kind ≠ .plain ∧ (x.kind = .said → h = 0))) ∧ (MemAct.ofEvent e).low B

theorem past_own (H : PastG Still Mem Lo B (Acc Shun h t) t) {fn : FuncId} {pos : String} {es : Array Event} (hes : ∀ e ∈ es, EvR Shun Still B h e) (hd : Mem h → deafBehind (Deaf t h) es = Deaf t h) :
    PastG Still Mem Lo B (Acc Shun h (t ++ MemOp.ofEvents h fn pos es)) (t ++ MemOp.ofEvents h fn pos es) := by
  have hu : ∀ op ∈ MemOp.ofEvents h fn pos es, op.g = h := fun op hop => by obtain ⟨e, _, rfl⟩ := Go.Conc.mem_ofEvents hop; rfl
  have hev : ∀ op ∈ MemOp.ofEvents h fn pos es, ∀ b, op.act.touch? = some b → (Still b.loc → b.write = false) ∧ (Shun b.loc → b.kind ≠ .plain ∧ (b.kind = .said → h = 0)) := fun op hop b hb => by
    obtain ⟨e, he, rfl⟩ := Go.Conc.mem_ofEvents hop; exact (hes e he).1 b hb
  refine ⟨fun said => noRace_append (H.clean said) hu fun i a ha op hop b hb hc => ?_, fun i a ha hm => ?_, fun i a ha hw hS g hg => ?_, fun g hg => ?_, fun op hop => ?_⟩
  · obtain ⟨e1, e2, e3, e4⟩ := hc
    rcases H.known i a ha e2 with ⟨_, hk, _⟩ | ⟨hw, hS, _⟩
    · rcases hk with hk | ⟨a', ha', hat, hsh, _⟩
      · exact hk
      · have ea : a' = a := by rw [ha] at ha'; exact (Option.some.inj ha').symm
        subst ea
        have hb' := (hev op hop b hb).2 (e1 ▸ hsh)
        rcases e4 with x | x | ⟨_, x, _⟩
        · rw [hat] at x; cases x
        · exact absurd x hb'.1
        · rw [hat] at x; cases x
    · rcases e3 with x | x
      · rw [hw] at x; cases x
      · have := (hev op hop b hb).1 (e1 ▸ hS)
        rw [this] at x; cases x
  · obtain ⟨x, hx, hxa⟩ := touch_of ha
    rcases getElem?_append_cases hx with ⟨hi, hx'⟩ | ⟨_, hxu⟩
    · rcases H.known i a (by rw [touchAt_of hx']; exact hxa) hm with hk | ⟨p, q, g, hg, hl⟩
      · exact .inl (hk.app _)
      · exact .inr ⟨p, q, g, by rw [g?_old hi]; exact hg, hl⟩
    · have hk := knows_own hx
      rw [hu x hxu] at hk
      refine .inl ⟨lt_size_of_getElem? hx, .inl hk, fun a' ha' hs => ?_⟩
      have ea : a' = a := by rw [show touchAt _ i = some a from ha] at ha'; exact (Option.some.inj ha').symm
      subst ea
      obtain ⟨h1, h2⟩ := (hev x hxu a' hxa).2 hs
      exact ⟨h1, fun h3 => by rw [g?_of hx, hu x hxu, h2 h3]⟩
  · obtain ⟨x, hx, hxa⟩ := touch_of ha
    rcases getElem?_append_cases hx with ⟨_, hx'⟩ | ⟨_, hxu⟩
    · exact (H.wrote i a (by rw [touchAt_of hx']; exact hxa) hw hS g hg).app _
    · rw [(hev x hxu a hxa).1 hS] at hw; cases hw
  · by_cases e : g = h
    · subst e; rw [Deaf_own, hd hg]; exact H.hears g hg
    · rw [Deaf_other t (fun z => e z.symm) _ hu]; exact H.hears g hg
  · rcases Array.mem_append.1 hop with hop | hop
    · exact H.seen op hop
    · obtain ⟨e, he, rfl⟩ := Go.Conc.mem_ofEvents hop; exact (hes e he).2

/-- An edge from the holder's next operation to one of j's makes j know all that h knew. -/
theorem past_pass (H : PastG Still Mem Lo B (Acc Shun h t) t) (hSS : ∀ l, Still l → ¬ Shun l) (Mem' : Nat → Prop) (hn : ∀ op ∈ u, op.act.touch? = none) (hl : ∀ op ∈ u, op.act.low B)
    (hM : ∀ g, Mem' g → (Mem g ∨ g = j) ∧ Deaf (t ++ u) g = 0) {p q : Nat} {x y : MemOp} (hp : t.size ≤ p) (hx : (t ++ u)[p]? = some x) (hxg : x.g = h) (hy : (t ++ u)[q]? = some y) (hyg : y.g = j)
    (edge : HappensBefore (t ++ u) p q) (hwr : ¬ Mem j → Mem h) : PastG Still Mem' (fun g => Lo g ∧ g ≠ j) B (Acc Shun j (t ++ u)) (t ++ u) := by
  have pass : ∀ i, Knows t h i → Knows (t ++ u) j i := fun i hk => ⟨q, y, hy, hyg, .inr ((hk.hb_new hp hx hxg).trans edge)⟩
  refine ⟨fun said => noRace_appendMute (H.clean said) hn, fun i a ha hm => ?_, fun i a ha hw hS g hg => ?_, fun g hg => (hM g hg).2, fun op hop => ?_⟩
  · obtain ⟨z, hz, hza⟩ := touch_of ha
    rcases getElem?_append_cases hz with ⟨hi, hz'⟩ | ⟨_, hzu⟩
    · rcases H.known i a (by rw [touchAt_of hz']; exact hza) hm with hk | ⟨p', q', g, hg, hl'⟩
      · exact .inl (hk.to (pass i))
      · by_cases e : g = j
        · subst e
          have hk := knows_own hz
          rw [show z.g = g from by have := g?_of hz'; rw [hg] at this; exact (Option.some.inj this).symm] at hk
          refine .inl ⟨lt_size_of_getElem? hz, .inl hk, fun a' ha' hs => ?_⟩
          have ea : a' = a := by rw [show touchAt _ i = some a from ha] at ha'; exact (Option.some.inj ha').symm
          subst ea
          exact absurd hs (hSS _ q')
        · exact .inr ⟨p', q', g, by rw [g?_old hi]; exact hg, hl', e⟩
    · rw [hn z hzu] at hza; cases hza
  · obtain ⟨z, hz, hza⟩ := touch_of ha
    rcases getElem?_append_cases hz with ⟨_, hz'⟩ | ⟨_, hzu⟩
    · have hold := H.wrote i a (by rw [touchAt_of hz']; exact hza) hw hS
      rcases (hM g hg).1 with hg' | rfl
      · exact (hold g hg').app u
      · by_cases e : Mem g
        · exact (hold g e).app u
        · exact pass i (hold h (hwr e))
    · rw [hn z hzu] at hza; cases hza
  · rcases Array.mem_append.1 hop with hop | hop
    · exact H.seen op hop
    · exact hl op hop
end

end Go.Proofs.YtobagnjnbmgidaaGreatDoor

/-! The machine's side: the holder walks, beside one who sits or is on its way to its seat, and others that only leave. -/
namespace Go.Proofs.YtobagnjnbmgidaaGreatDoor
open Go.Conc
open Go.ConcN (sumTo upd sumTo_upd upd_ne upd_same)

/-- A walk to a stop, without a count. -/
def Walk (P : Program) (main : Bool) (D : World → World → Array Event → Prop) (Stop : Goroutine → World → Prop) (g : Goroutine) (w : World) : Prop :=
  ∀ R : Goroutine → World → Prop, (∀ g w, (∀ d, Stop g (w.at d)) → R g w) → (∀ g w, g.status = .running → (∀ d, ∃ g' w' es, stepG P main g (w.at d) = .go g' w' es ∧ D (w.at d) w' es ∧ R g' w') → R g w) → R g w

section
variable {P : Program} {main : Bool} {D : World → World → Array Event → Prop} {Stop : Goroutine → World → Prop} {g : Goroutine} {w : World}
theorem Walk.stop (h : ∀ d, Stop g (w.at d)) : Walk P main D Stop g w := fun _ hs _ => hs g w h
theorem Walk.step (hs : g.status = .running) (h : ∀ d, ∃ g' w' es, stepG P main g (w.at d) = .go g' w' es ∧ D (w.at d) w' es ∧ Walk P main D Stop g' w') : Walk P main D Stop g w :=
  fun R h0 h1 => h1 g w hs fun d => by
    obtain ⟨g', w', es, a, b, c⟩ := h d
    exact ⟨g', w', es, a, b, c R h0 h1⟩
/-- By what follows. -/
theorem Walk.ind {M : Goroutine → World → Prop} (h : Walk P main D Stop g w) (h0 : ∀ g w, (∀ d, Stop g (w.at d)) → M g w)
    (h1 : ∀ g w, g.status = .running → (∀ d, ∃ g' w' es, stepG P main g (w.at d) = .go g' w' es ∧ D (w.at d) w' es ∧ Walk P main D Stop g' w' ∧ M g' w') → M g w) : M g w :=
  (h (fun g w => Walk P main D Stop g w ∧ M g w) (fun g w x => ⟨.stop x, h0 g w x⟩) fun g w hs x => ⟨.step hs fun d => by
    obtain ⟨g', w', es, a, b, c, _⟩ := x d
    exact ⟨g', w', es, a, b, c⟩, h1 g w hs x⟩).2
end

theorem walk_fut {P : Program} {main : Bool} {D : World → World → Array Event → Prop} (hi : ∀ w d, D w (w.at d) #[]) (Stop : Goroutine → World → Prop) : Fut P main D (Walk P main D Stop) := by
  refine ⟨fun g w d h => ?_, hi, fun g w hs h => .step hs fun d => ?_⟩
  · refine h.ind (M := fun g w => Walk P main D Stop g (w.at d)) (fun g w h => .stop fun d' => h d') fun g w hs h => .step hs fun d' => ?_
    obtain ⟨g', w', es, a, b, c, _⟩ := h d'
    exact ⟨g', w', es, a, b, c⟩
  · have := h d
    cases hg : stepG P main g (w.at d) with
    | go g' w' es => rw [hg, goes_go] at this; exact ⟨g', w', es, rfl, this.1, this.2⟩
    | _ => rw [hg] at this; exact this.elim

/-- The frame: goroutine h holds; whoever has a seat sits there or is on its way; all others only leave. -/
def R2 (P : Program) (K : World → Prop) (Shun Still : Loc → Prop) (B : Nat) (Mem : Nat → Prop) (Inb : Nat → Option Seat) (h : Nat) (T : Trace) (gs : Array Goroutine) (w : World) (q : Nat → Nat) : Prop :=
  TokCore P K Still B (Acc Shun h) Mem (fun g => g ≠ h ∧ (Inb g).isSome) Inb (· = h) (fun _ => False) T gs w q

section
variable {P : Program} {K : World → Prop} {Shun Still : Loc → Prop} {B B' : Nat} {Mem : Nat → Prop} {Inb : Nat → Option Seat} {h : Nat} {T : Trace} {gs : Array Goroutine} {w : World} {q : Nat → Nat}

theorem goes_weaken {main : Bool} {R : World → World → Prop} {D D' : World → World → Array Event → Prop} {S S' : Goroutine → World → Prop} (hD : ∀ w w' es, D w w' es → D' w w' es) (hS : ∀ g w, S g w → S' g w) :
    ∀ {n : Nat} {g : Goroutine} {w : World}, Goes P main R D S n g w → Goes P main R D' S' n g w
  | 0, _, _, h => fun w₁ r => hS _ _ (h w₁ r)
  | n + 1, _, _, h => h.elim (fun x => .inl fun w₁ r => hS _ _ (x w₁ r)) fun ⟨hs, x⟩ => .inr ⟨hs, fun w₁ r => by
      have := x w₁ r
      revert this
      cases stepG P main _ w₁ <;> simp only [GStep.goes, imp_self]
      exact fun ⟨d, y⟩ => ⟨hD _ _ _ d, goes_weaken hD hS y⟩⟩

theorem AtIn.raise {main : Bool} {s : Seat} {g g₂ : Goroutine} (hB : B ≤ B') (x : AtIn P main K Still B s g g₂) : AtIn P main K Still B' s g g₂ := by
  obtain ⟨h1, h2, h3, h4, h5, es, hes, hst⟩ := x
  exact ⟨h1, h2, h3, h4, h5, es, fun e he => by obtain ⟨a, e1, e2, e3⟩ := hes e he; exact ⟨a, e1, e2, Nat.lt_of_lt_of_le e3 hB⟩, hst⟩

theorem Sits.raise {main : Bool} {s : Seat} {n : Nat} {g : Goroutine} (hB : B ≤ B') (x : Sits P main K Still B s n g) : Sits P main K Still B' s n g := by
  rcases x with ⟨k, w, e, hg⟩ | ⟨e, g₀, g₂, e2, hat⟩
  · exact .inl ⟨k, w, e, goes_weaken (fun _ _ _ ⟨d1, d2⟩ => ⟨d1, fun e he => by obtain ⟨a, e1, e2, e3⟩ := d2 e he; exact ⟨a, e1, e2, Nat.lt_of_lt_of_le e3 hB⟩⟩) (fun _ _ ⟨g₂, y⟩ => ⟨g₂, AtIn.raise hB y⟩) hg⟩
  · exact .inr ⟨e, g₀, g₂, e2, AtIn.raise hB hat⟩

theorem core_raise {Kf : Trace → Nat → Prop} {Lo Sp Dead : Nat → Prop} (C : TokCore P K Still B Kf Mem Lo Inb Sp Dead T gs w q) (hB : B ≤ B') : TokCore P K Still B' Kf Mem Lo Inb Sp Dead T gs w q :=
  ⟨fun i g hi hg => by
    have := C.idle i g hi hg
    cases e : Inb i with
    | none => rw [e] at this; exact this
    | some s => rw [e] at this; exact Sits.raise hB this, C.chans, C.wf, C.live, C.inj, C.above, fun i s e => ⟨(C.mem i s e).1, fun c hc => Nat.lt_of_lt_of_le ((C.mem i s e).2 c hc) hB⟩, C.nomem, C.lo, C.past.mono hB, C.keep⟩

/-- Nobody has ended by a blow. -/
theorem R2.awake (C : R2 P K Shun Still B Mem Inb h T gs w q) {a : Goroutine} (ha : gs[h]? = some a) (hs : a.status = .running ∨ a.status = .blocked) (g : Goroutine) (hg : g ∈ gs) : Go.Conc.awake g := by
  obtain ⟨i, hgi⟩ := Array.mem_iff_getElem?.1 hg
  refine awake_of ?_
  by_cases e : i = h
  · rw [e, ha] at hgi
    cases hgi
    exact hs.imp_right .inl
  have hid := C.idle i g e hgi
  revert hid
  cases Inb i with
  | none => exact fun z => z.2.status.imp_right .inr
  | some s => exact fun z => (Go.Conc.Sits.status C.keep z).imp And.left fun y => .inl y.1

/-- The holder's own step. -/
theorem R2.own (C : R2 P K Shun Still B Mem Inb h T gs w q) {a a' : Goroutine} {w' : World} {es : Array Event} (ha : gs[h]? = some a) (hK : K w') (hch : ∀ i s c, Inb i = some s → s.has c → w'.heap[c]? = w.heap[c]?)
    (hes : ∀ e ∈ es, EvR Shun Still B h e) (hd : Mem h → deafBehind (Deaf T h) es = Deaf T h) :
    R2 P K Shun Still B Mem Inb h (T ++ MemOp.ofEvents h a.frame.fn a.frame.place es) ((gs.map (woken P a a' w')).setIfInBounds h a') w' q ∧ ((gs.map (woken P a a' w')).setIfInBounds h a')[h]? = some a' := by
  have hlt : h < gs.size := (Array.getElem?_eq_some_iff.1 ha).1
  have hops : ∀ op ∈ MemOp.ofEvents h a.frame.fn a.frame.place es, op.g = h := fun op hop => by obtain ⟨e, _, rfl⟩ := Go.Conc.mem_ofEvents hop; rfl
  have C' : TokCore P K Still B (Acc Shun h) Mem (fun g => g ≠ h ∧ (Inb g).isSome) Inb (· = h) (fun _ => False) T gs w' q :=
    ⟨C.idle, fun i s c hi e hc => by obtain ⟨cap, k, hk⟩ := C.chans i s c hi e hc; exact ⟨cap, k, (hch i s c e hc).trans hk⟩, C.wf, C.live, C.inj, C.above, C.mem, C.nomem, C.lo, C.past, hK⟩
  refine ⟨⟨fun x y hx hy => ?_, C'.chans, C.wf, fun _ _ z => z.elim, C.inj, fun j hj => ?_, C.mem, C.nomem, C.lo, past_own C.past hes hd, hK⟩, Array.getElem?_setIfInBounds_self_of_lt (by simpa using hlt)⟩
  · rw [Array.getElem?_setIfInBounds_ne (fun e => hx e.symm), Array.getElem?_map] at hy
    obtain ⟨y₀, hy₀, rfl⟩ := Option.map_eq_some_iff.1 hy
    rw [woken_of_again (C'.fixed hx hy₀)]
    have hi := C.idle x y₀ hx hy₀
    cases e : Inb x with
    | none => rw [e] at hi; exact ⟨hi.1, by rw [Deaf_other T (fun z => hx z.symm) _ hops]; exact hi.2⟩
    | some s => rw [e] at hi; exact hi
  · simp only [Array.size_setIfInBounds, Array.size_map] at hj
    rw [Deaf_other T (g' := h) (by omega) _ hops]
    exact C.above j hj

/-- A leaver's step. -/
theorem core_slip {Kf : Trace → Nat → Prop} {Lo Sp : Nat → Prop} (hKf : ∀ t u i, Kf t i → Kf (t ++ u) i) (C : TokCore P K Still B Kf Mem Lo Inb Sp (fun _ => False) T gs w q) {i : Nat} {g : Goroutine} {sl : Option (Nat × Nat)} (hi : gs[i]? = some g) (hsp : ¬ Sp i) (hn : Inb i = none) (hrun : g.status = .running)
    (hsA : ∀ x gx, Sp x → gs[x]? = some gx → gx.again w = gx) :
    ∃ (gs' : Array Goroutine) (ops : Array MemOp) (q' : Nat → Nat), runT P (crowd gs w sl) i = (.next (crowd gs' w sl), ops) ∧ (∀ op ∈ ops, op.g = i) ∧ gs'.size = gs.size ∧ (∀ x, x ≠ i → gs'[x]? = gs[x]?) ∧ (∀ x, x ≠ i → q' x = q x) ∧
      TokCore P K Still B Kf Mem Lo Inb Sp (fun _ => False) (T ++ ops) gs' w q' ∧ sumTo gs.size q' < sumTo gs.size q := by
  have hlt : i < gs.size := (Array.getElem?_eq_some_iff.1 hi).1
  have hid := C.idle i g hsp hi
  rw [hn] at hid
  obtain ⟨hpos, hq⟩ := hid
  have hi0 : (i == 0) = false := by simp; omega
  cases hqi : q i with
  | zero => rw [hqi] at hq; rw [hq.1] at hrun; cases hrun
  | succ k =>
    rw [hqi] at hq
    rcases hq with ⟨hf, _⟩ | ⟨_, g', es, hm, hstp, hq'⟩
    · rw [hf] at hrun; cases hrun
    have hops : ∀ op ∈ MemOp.ofEvents i g.frame.fn g.frame.place es, op.g = i := fun op hop => by obtain ⟨e, _, rfl⟩ := Go.Conc.mem_ofEvents hop; rfl
    have hoth : ∀ x, x ≠ i → ((gs.map (woken P g g' w)).setIfInBounds i g')[x]? = gs[x]? := by
      intro x hx
      rw [Array.getElem?_setIfInBounds_ne (fun e => hx e.symm), Array.getElem?_map]
      cases e : gs[x]? with
      | none => rfl
      | some y =>
        have : woken P g g' w y = y := woken_of_again (by
          by_cases hxs : Sp x
          · exact hsA x y hxs e
          · exact C.fixed hxs e)
        simp [this]
    refine ⟨_, _, upd q i k, runT_crowd_go (sl := sl) hi (by rw [hi0]; exact hstp w), hops, by simp, hoth, fun x hx => upd_ne q k hx, ?_, ?_⟩
    · refine C.put hlt (by simp) hoth (Array.getElem?_setIfInBounds_self_of_lt (by simpa using hlt)) hops (fun z => z.elim) (by rw [hn]; exact ⟨hpos, by rw [Deaf_own]; exact hq'⟩) ?_
      exact C.past.appMute (hKf T _) hops (fun op hop => by obtain ⟨e, he, rfl⟩ := Go.Conc.mem_ofEvents hop; exact touch_mute (hm e he)) (fun hM => ((C.nomem i hM).elim (fun z => absurd hn z) (fun z => absurd z hsp))) (fun op hop => by obtain ⟨e, he, rfl⟩ := Go.Conc.mem_ofEvents hop; exact low_mute (hm e he) B)
    · have h2 : sumTo gs.size (upd q i k) + (k + 1) = sumTo gs.size q + k := by
        have := sumTo_upd q k id hlt
        simpa [hqi] using this
      omega
end

/-- What the holder's walk must guarantee. -/
structure DR (K : World → Prop) (Shun Still : Loc → Prop) (h : Nat) (w w' : World) (es : Array Event) : Prop where
  keep : K w → K w'
  chan : ∀ (c cap k : Nat), w.heap[c]? = some (Obj.chan cap #[] false k k false) → w'.heap[c]? = w.heap[c]?
  size : w.heap.size ≤ w'.heap.size
  ev : ∀ e ∈ es, EvR Shun Still w'.heap.size h e ∧ e.loc ≠ .mark .disable ∧ e.loc ≠ .mark .enable

section
variable {P : Program} {K : World → Prop} {Shun Still : Loc → Prop} {Mem : Nat → Prop} {Inb : Nat → Option Seat} {h : Nat}

/-- The holder's walk, on whatever tape. -/
theorem hold {D : World → World → Array Event → Prop} {Stop : Goroutine → World → Prop} (hKat : ∀ w d, K w → K (w.at d)) (hD : ∀ w w' es, D w w' es → DR K Shun Still h w w' es) (hMem : Mem h ∨ ∀ i, Inb i = none)
    {a : Goroutine} {w : World} (hW : Walk P (h == 0) D Stop a w) : ∀ (gs : Array Goroutine) (T : Trace) (q : Nat → Nat) (sl : Option (Nat × Nat)), gs[h]? = some a → R2 P K Shun Still w.heap.size Mem Inb h T gs w q →
    ∃ N gs' a' w' sl' T' q', runNT P N (crowd gs w sl) T = (.next (crowd gs' w' sl'), T') ∧ gs'.size = gs.size ∧ gs'[h]? = some a' ∧ Stop a' w' ∧ R2 P K Shun Still w'.heap.size Mem Inb h T' gs' w' q' ∧ Deaf T' h = Deaf T h := by
  refine Walk.ind (M := fun a w => ∀ (gs : Array Goroutine) (T : Trace) (q : Nat → Nat) (sl : Option (Nat × Nat)), gs[h]? = some a → R2 P K Shun Still w.heap.size Mem Inb h T gs w q →
    ∃ N gs' a' w' sl' T' q', runNT P N (crowd gs w sl) T = (.next (crowd gs' w' sl'), T') ∧ gs'.size = gs.size ∧ gs'[h]? = some a' ∧ Stop a' w' ∧ R2 P K Shun Still w'.heap.size Mem Inb h T' gs' w' q' ∧ Deaf T' h = Deaf T h) hW ?_ ?_
  · exact fun a w hst gs T q sl ha C => ⟨0, gs, _, _, sl, T, q, rfl, rfl, ha, hst _, C, rfl⟩
  · intro a w hs hx
    have claim : ∀ (μ : Nat) (gs : Array Goroutine) (T : Trace) (q : Nat → Nat) (sl : Option (Nat × Nat)) (d₀ : Nat), sumTo gs.size q = μ → gs[h]? = some a → R2 P K Shun Still w.heap.size Mem Inb h T gs (w.at d₀) q →
        ∃ N gs' a' w' sl' T' q', runNT P N (crowd gs (w.at d₀) sl) T = (.next (crowd gs' w' sl'), T') ∧ gs'.size = gs.size ∧ gs'[h]? = some a' ∧ Stop a' w' ∧ R2 P K Shun Still w'.heap.size Mem Inb h T' gs' w' q' ∧ Deaf T' h = Deaf T h := by
      intro μ
      induction μ using Nat.strongRecOn with
      | _ μ ihμ =>
        intro gs T q sl d₀ hμ ha C
        obtain ⟨i, g, d, sl', hi, hg, hpick⟩ := crowd_pick (P := P) (w := w.at d₀) (sl := sl) (C.awake ha (.inl hs)) ⟨h, a, ha, hs⟩
        have Cd : R2 P K Shun Still w.heap.size Mem Inb h T gs (w.at d) q := TokCore.at hKat C d
        have hpick' : stepT P (crowd gs (w.at d₀) sl) = runT P (crowd gs (w.at d) sl') i := hpick
        have next : ∀ {m₁ ops}, runT P (crowd gs (w.at d) sl') i = (.next m₁, ops) → ∀ N, runNT P (N + 1) (crowd gs (w.at d₀) sl) T = runNT P N m₁ (T ++ ops) := fun e N => by simp only [runNT, hpick', e]
        by_cases e : i = h
        · subst e
          obtain rfl : g = a := by rw [ha] at hi; exact (Option.some.inj hi).symm
          obtain ⟨g1, w1, es1, hst, hDs, _, ih⟩ := hx d
          have hr := hD _ _ _ hDs
          have hmarks : Mem i → deafBehind (Deaf T i) es1 = Deaf T i := fun _ => deafBehind_still (fun e he => (hr.ev e he).2) _
          obtain ⟨C', ha'⟩ := R2.own (a' := g1) (core_raise Cd hr.size) ha (hr.keep Cd.keep) (fun i s c e hc => by obtain ⟨cap, k, hk⟩ := Cd.chans i s c (fun z => z) e hc; exact hr.chan c cap k hk) (fun e he => (hr.ev e he).1) hmarks
          obtain ⟨N', gs', a', w', sl'', T', q', h1, h2, h3, h4, h5, h6⟩   := ih _ _ _ sl' ha' C'
          refine ⟨N' + 1, gs', a', w', sl'', T', q', by rw [next (runT_crowd_go (sl := sl') hi hst)]; exact h1, by rw [h2]; simp, h3, h4, h5, ?_⟩
          rw [h6, Deaf_own]
          exact deafBehind_still (fun e he => (hr.ev e he).2) _
        · cases hn' : Inb i with
          | none =>
            obtain ⟨gs', ops, q', hrt, hops, hsz, hoth, _, C', hlt⟩ := core_slip (Kf := Acc Shun h) (sl := sl') (fun t u i x => Acc.app x u) Cd hi e hn' hg (fun x gx hx hgx => by subst hx; rw [ha] at hgx; obtain rfl := Option.some.inj hgx; exact again_running _ (.inl hs))
            obtain ⟨N', gs'', a', w', sl'', T', q'', h1, h2, h3, h4, h5, h6⟩ := ihμ (sumTo gs'.size q') (by rw [hsz]; omega) gs' _ q' sl' d rfl (by rw [hoth h (fun z => e z.symm)]; exact ha) C'
            exact ⟨N' + 1, gs'', a', w', sl'', T', q'', by rw [next hrt]; exact h1, by rw [h2, hsz], h3, h4, h5, by rw [h6]; exact Deaf_other T (fun z => e z) _ hops⟩
          | some s =>
            have hM : Mem h := hMem.elim id fun z => by rw [z i] at hn'; cases hn'
            obtain ⟨gs', ops, q', hrt, hsz, hsp, _, _, C', hlt⟩ := TokCore.by_step (Kf := Acc Shun h) (sl := sl') (fun t u i x => Acc.app x u) Cd hi e hg (fun x gx hx hgx => by subst hx; rw [ha] at hgx; obtain rfl := Option.some.inj hgx; exact again_running _ (.inl hs)) (fun z => z.elim)
              (fun s' g₂ _ _ => ⟨fun z => z, fun x gx c hx hgx _ => by subst hx; rw [ha] at hgx; obtain rfl := Option.some.inj hgx; exact offersAt_of_not_blocked (by rw [hs]; simp) _ _⟩)
            obtain ⟨N', gs'', a', w', sl'', T', q'', h1, h2, h3, h4, h5, h6⟩ := ihμ (sumTo gs'.size q') (by rw [hsz]; omega) gs' _ q' sl' d rfl (by rw [hsp h rfl]; exact ha) C'
            exact ⟨N' + 1, gs'', a', w', sl'', T', q'', by rw [next hrt]; exact h1, by rw [h2, hsz], h3, h4, h5, by rw [h5.past.hears h hM, C.past.hears h hM]⟩
    exact fun gs T q sl ha C => claim _ gs T q sl w.drawn rfl ha C
end

end Go.Proofs.YtobagnjnbmgidaaGreatDoor

/-! The machine's side, on: a send that is met; a go statement. -/
namespace Go.Proofs.YtobagnjnbmgidaaGreatDoor
open Go.Conc
open Go.ConcN (sumTo upd sumTo_upd upd_ne upd_same)

section
variable {Shun Still : Loc → Prop} {Mem Lo : Nat → Prop} {B h j c : Nat} {t : Trace}

theorem past_met (H : PastG Still Mem Lo B (Acc Shun h t) t) (hSS : ∀ l, Still l → ¬ Shun l) (hh : Mem h) (hj : Mem j) (fh : FuncId) (ph : String) (fj : FuncId) (pj : String) (k : Nat) (hc : c < B) :
    PastG Still Mem (fun g => Lo g ∧ g ≠ j) B (Acc Shun j (t ++ met h j fh ph fj pj c k 0)) (t ++ met h j fh ph fj pj c k 0) := by
  have e0 : (t ++ met h j fh ph fj pj c k 0)[t.size]? = some { g := h, fn := fh, pos := ph, act := .send c k } := by simp [met]
  have e3 : (t ++ met h j fh ph fj pj c k 0)[t.size + 3]? = some { g := j, fn := fj, pos := pj, act := .recvDone c k } := by simp [met]
  have hq := met_quiet h j fh ph fj pj c k 0
  have d0 : (t ++ met h j fh ph fj pj c k 0).deaf h t.size = 0 := by rw [deaf_old (Nat.le_refl _)]; exact H.hears h hh
  have d3 : (t ++ met h j fh ph fj pj c k 0).deaf j (t.size + 3) = 0 := by rw [deaf_quiet (hq j) 3 (by simp [met])]; exact H.hears j hj
  refine past_pass H hSS Mem (met_mute h j fh ph fj pj c k 0) (fun op hop => ?_) (fun g hg => ⟨.inl hg, (Deaf_quiet (hq g)).trans (H.hears g hg)⟩) (Nat.le_refl _) e0 rfl e3 rfl
    (Relation.TransGen.single (.inr ⟨.handOver (act?_of e0) (act?_of e3), ⟨h, g?_of e0, d0⟩, ⟨j, g?_of e3, d3⟩⟩)) (fun _ => hh)
  simp only [met, List.mem_toArray, List.mem_cons, List.not_mem_nil, or_false] at hop
  rcases hop with rfl | rfl | rfl | rfl <;> exact hc

theorem past_go (H : PastG Still Mem Lo B (Acc Shun h t) t) (hSS : ∀ l, Still l → ¬ Shun l) (hh : Mem h) (hc0 : Deaf t c = 0) (fh : FuncId) (ph : String) (fc : FuncId) (fp : String) :
    PastG Still (fun g => Mem g ∨ g = c) (fun g => Lo g ∧ g ≠ c) B (Acc Shun c (t ++ #[{ g := h, fn := fh, pos := ph, act := .go c }, { g := c, fn := fc, pos := fp, act := .start }])) (t ++ #[{ g := h, fn := fh, pos := ph, act := .go c }, { g := c, fn := fc, pos := fp, act := .start }]) := by
  have e0 : (t ++ #[{ g := h, fn := fh, pos := ph, act := .go c }, { g := c, fn := fc, pos := fp, act := .start }])[t.size]? = some { g := h, fn := fh, pos := ph, act := .go c } := by simp
  have e1 : (t ++ #[{ g := h, fn := fh, pos := ph, act := .go c }, { g := c, fn := fc, pos := fp, act := .start }])[t.size + 1]? = some { g := c, fn := fc, pos := fp, act := .start } := by simp
  have hq : ∀ g, ∀ op ∈ (#[{ g := h, fn := fh, pos := ph, act := .go c }, { g := c, fn := fc, pos := fp, act := .start }] : Trace), ∀ d, deafStep g d op = d := by
    intro g op hop d
    simp only [List.mem_toArray, List.mem_cons, List.not_mem_nil, or_false] at hop
    rcases hop with rfl | rfl <;> rfl
  refine past_pass H hSS _ (fun op hop => ?_) (fun op hop => ?_) (fun g hg => ⟨hg, ?_⟩) (Nat.le_refl _) e0 rfl e1 rfl
    (Relation.TransGen.single (.inr ⟨.spawn (act?_of e0) (act?_of e1) (g?_of e1), ⟨h, g?_of e0, by rw [deaf_old (Nat.le_refl _)]; exact H.hears h hh⟩, ⟨c, g?_of e1, by rw [deaf_quiet (hq c) 1 (by simp)]; exact hc0⟩⟩)) (fun _ => hh)
  · simp only [List.mem_toArray, List.mem_cons, List.not_mem_nil, or_false] at hop
    rcases hop with rfl | rfl <;> rfl
  · simp only [List.mem_toArray, List.mem_cons, List.not_mem_nil, or_false] at hop
    rcases hop with rfl | rfl <;> trivial
  · rw [Deaf_quiet (hq g)]
    exact hg.elim (H.hears g) fun e => e ▸ hc0
end

theorem run_one {P : Program} {m m₁ : Machine} {t : Trace} {ops : Array MemOp} (h : stepT P m = (.next m₁, ops)) : runNT P 1 m t = (.next m₁, t ++ ops) := by simp only [runNT, h]

/-- Both parties stand apart: h has given, j has taken; all others as before. -/
def Both (P : Program) (K : World → Prop) (Shun Still : Loc → Prop) (B : Nat) (Mem : Nat → Prop) (Inb : Nat → Option Seat) (h j : Nat) (T : Trace) (gs : Array Goroutine) (w : World) (q : Nat → Nat) : Prop :=
  TokCore P K Still B (Acc Shun j) Mem (fun g => (g ≠ h ∧ (Inb g).isSome) ∧ g ≠ j) Inb (fun x => x = h ∨ x = j) (fun _ => False) T gs w q

section
variable {P : Program} {K : World → Prop} {Shun Still : Loc → Prop} {B : Nat} {Mem : Nat → Prop} {Inb : Nat → Option Seat} {h : Nat} {T : Trace} {gs : Array Goroutine} {w : World} {q : Nat → Nat}

/-- Where a send of h's on channel c, case kk of j's seat s, has been met. -/
def Met (P : Program) (K : World → Prop) (Shun Still : Loc → Prop) (B : Nat) (Mem : Nat → Prop) (Inb : Nat → Option Seat) (h j : Nat) (a₂ : Goroutine) (s : Seat) (c kk k n : Nat) (v : Value) (w : World) (m : Machine) (t : Trace) : Prop :=
  ∃ (gs' : Array Goroutine) (g₂ : Goroutine) (d : Nat) (sl' : Option (Nat × Nat)) (q' : Nat → Nat), m = crowd gs' ((w.at d).setChan c 0 #[] false (k + 1) (k + 1) false) sl' ∧ gs'.size = n ∧ gs'[h]? = some (Go.Conc.served a₂ undef) ∧
    gs'[j]? = some (Go.Conc.served g₂ (commResult s.cases s.shape kk v true)) ∧ s.home g₂ ∧ Both P K Shun Still B Mem Inb h j t gs' ((w.at d).setChan c 0 #[] false (k + 1) (k + 1) false) q'

theorem both_of (hKc : ∀ w i s c k, Inb i = some s → s.has c → K w → K (w.setChan c 0 #[] false k k false)) (C : R2 P K Shun Still B Mem Inb h T gs w q) (hSS : ∀ l, Still l → ¬ Shun l) {j c k kk : Nat} {s : Seat} {z : Value} (hj : Inb j = some s) (hk : s.cases[kk]? = some (rcase c z)) (hMh : Mem h)
    (hc : w.heap[c]? = some (.chan 0 #[] false k k false)) {gs' : Array Goroutine} {ops₀ : Trace} {fh fj : FuncId} {ph pj : String} (hsz : gs'.size = gs.size) (hoth : ∀ x, x ≠ h → x ≠ j → gs'[x]? = gs[x]?) (hp : PastG Still Mem (fun g => g ≠ h ∧ (Inb g).isSome) B (Acc Shun h (T ++ ops₀)) (T ++ ops₀))
    (hD : ∀ x, Deaf (T ++ ops₀) x = Deaf T x) :
    Both P K Shun Still B Mem Inb h j (T ++ (ops₀ ++ met h j fh ph fj pj c k 0)) gs' (w.setChan c 0 #[] false (k + 1) (k + 1) false) q := by
  have hsc : s.has c := ⟨kk, z, hk⟩
  obtain ⟨hMj, hcB⟩ := C.mem j s hj
  have p2 := past_met hp hSS hMh hMj fh ph fj pj k (hcB c hsc)
  rw [Array.append_assoc] at p2
  have hDD : ∀ x, Deaf (T ++ (ops₀ ++ met h j fh ph fj pj c k 0)) x = Deaf T x := fun x => by rw [← Array.append_assoc, Deaf_quiet (met_quiet h j fh ph fj pj c k 0 x), hD]
  refine ⟨fun x y hx hy => ?_, fun i s' c' _ e hc' => ?_, C.wf, fun _ _ z => z.elim, C.inj, fun x hx => by rw [hDD]; exact C.above x (by omega), C.mem, fun i hM => (C.nomem i hM).imp id .inl, fun i s' hi e => ⟨⟨fun z => hi (.inl z), by rw [e]; rfl⟩, fun z => hi (.inr z)⟩, p2, hKc _ j s c _ hj hsc C.keep⟩
  · have hxh : x ≠ h := fun z => hx (.inl z)
    have hxj : x ≠ j := fun z => hx (.inr z)
    rw [hoth x hxh hxj] at hy
    have := C.idle x y hxh hy
    cases e : Inb x with
    | none => rw [e] at this; exact ⟨this.1, by rw [hDD]; exact this.2⟩
    | some s' => rw [e] at this; exact this
  · by_cases ec : c = c'
    · subst ec; exact ⟨0, k + 1, heap_setChan_self w hc _ _ _ _ _ _⟩
    · obtain ⟨cap', k', hk'⟩ := C.chans i s' c' (fun z => z) e hc'
      exact ⟨cap', k', by rw [heap_setChan_ne w _ _ _ _ _ _ ec]; exact hk'⟩

section
variable {a a₂ : Goroutine} {j c k kk : Nat} {s : Seat} {v z z' : Value} {es : Array Event}

/-- The cases of j's seat other than kk are on other channels. -/
theorem seat_apart (hwf : s.Wf) (hk : s.cases[kk]? = some (rcase c z)) : ∀ (m : Nat) (cc : CommCase), m ≠ kk → s.cases[m]? = some cc → cc.chan ≠ .chan (some c) := by
  intro m cc hm hcc ec
  obtain ⟨c₂, z₂, rfl⟩ := hwf.recvs cc (Array.mem_of_getElem? hcc)
  simp only [rcase, Value.chan.injEq, Option.some.injEq] at ec
  subst ec
  exact hm (hwf.apart m kk _ _ _ hcc hk)

/-- The giver is parked at its send; the taker is on its way. -/
theorem give_parked (hKat : ∀ w d, K w → K (w.at d)) (hKc : ∀ w i s c k, Inb i = some s → s.has c → K w → K (w.setChan c 0 #[] false k k false)) (hSS : ∀ l, Still l → ¬ Shun l) (hjh : j ≠ h) (hj : Inb j = some s) (hk : s.cases[kk]? = some (rcase c z)) (hMh : Mem h)
    (hc : w.heap[c]? = some (.chan 0 #[] false k k false)) : ∀ (μ : Nat) (gs : Array Goroutine) (T : Trace) (q : Nat → Nat) (sl : Option (Nat × Nat)) (d₀ : Nat), sumTo gs.size q = μ → j < gs.size → gs[h]? = some (parked a₂ #[scase c v z'] .send) → 0 < q j →
      R2 P K Shun Still B Mem Inb h T gs (w.at d₀) q → ∃ N m' T', runNT P N (crowd gs (w.at d₀) sl) T = (.next m', T') ∧ Met P K Shun Still B Mem Inb h j a₂ s c kk k gs.size v w m' T' := by
  intro μ
  induction μ using Nat.strongRecOn with
  | _ μ ih =>
    intro gs T q sl d₀ hμ hjlt ha hqj C
    have hgj : gs[j]? = some gs[j] := Array.getElem?_eq_getElem hjlt
    have hS : Sits P (j == 0) K Still B s (q j) gs[j] := by have := C.idle j _ hjh hgj; rwa [hj] at this
    have hrun : gs[j].status = .running := (Go.Conc.Sits.status C.keep hS).elim (·.1) fun x => by omega
    obtain ⟨i, g, d, sl', hi, hg, hpick⟩ := crowd_pick (P := P) (w := w.at d₀) (sl := sl) (C.awake ha (.inr rfl)) ⟨j, _, hgj, hrun⟩
    have hpick' : stepT P (crowd gs (w.at d₀) sl) = runT P (crowd gs (w.at d) sl') i := hpick
    have Cd : R2 P K Shun Still B Mem Inb h T gs (w.at d) q := TokCore.at hKat C d
    have hcd : (w.at d).heap[c]? = some (.chan 0 #[] false k k false) := hc
    have hlth : h < gs.size := (Array.getElem?_eq_some_iff.1 ha).1
    have hih : i ≠ h := fun e => by subst e; rw [ha] at hi; obtain rfl := Option.some.inj hi; cases hg
    have hwf := C.wf j s hj
    by_cases ej : i = j ∧ ∃ g₂, AtIn P (i == 0) K Still B s g g₂
    · obtain ⟨rfl, g₂, hat⟩ := ej
      obtain ⟨_, _, _, _, hhome, esj, hesj, hstp⟩ := hat
      obtain ⟨hops, hr, hl, hd⟩ := evC_ops (i := i) (fn := g.frame.fn) (pos := g.frame.place) hesj
      have hp : partners (gs.setIfInBounds i ph) c true = [(h, 0)] := by
        rw [partners_one (stand_get (Ne.symm hjh) ha) fun x y hxh hy => by
          rcases getElem?_stand gs i x y hy with ⟨_, rfl⟩ | ⟨_, hy'⟩
          · exact offersAt_ph _ _
          · exact TokCore.noSend Cd hxh hy' _]
        simp [offersAt_parked_send]
      have ho : ∀ (m : Nat) (c' : CommCase), m ≠ kk → s.cases[m]? = some c' → NoWays (w.at d) (gs.setIfInBounds i ph) c' := by
        intro m c' hm hc'
        obtain ⟨c₂, z₂, rfl⟩ := hwf.recvs c' (Array.mem_of_getElem? hc')
        have hne : c ≠ c₂ := fun ec => seat_apart hwf hk m _ hm hc' (by rw [ec]; rfl)
        obtain ⟨cap₂, k₂, hc₂⟩ := Cd.chans i s c₂ (fun z => z) hj ⟨m, z₂, hc'⟩
        refine ways_recv_none hc₂ (partners_nil fun x y hy => ?_)
        rcases getElem?_stand gs i x y hy with ⟨_, rfl⟩ | ⟨_, hy'⟩
        · exact offersAt_ph _ _
        · by_cases hxh : x = h
          · subst hxh
            rw [ha] at hy'
            obtain rfl := Option.some.inj hy'
            rw [offersAt_parked_send, if_neg hne]
          · exact TokCore.noSend Cd hxh hy' _
      have hrt := crowd_sel_recv_meets (sl := sl') hi (hstp _ Cd.keep) hk ho hcd (Ne.symm hjh) ha hp
      refine ⟨1, _, _, run_one (hpick'.trans hrt), _, g₂, d, sl', q, rfl, by simp, ?_, ?_, hhome, both_of hKc Cd hSS hj hk hMh hcd (by simp) (fun x hx hxj => ?_) (PastG.appRead C.past (fun _ x => Acc.app x _) (C.mem i s hj).1 ⟨hjh, by rw [hj]; rfl⟩ hops hr (hd T) hl) fun x => ?_⟩
      · rw [Array.getElem?_setIfInBounds_ne hjh, Array.getElem?_setIfInBounds_self_of_lt hlth, finishComm_send]
      · rw [Array.getElem?_setIfInBounds_self_of_lt (by simpa using hjlt), finishComm_served]
      · rw [Array.getElem?_setIfInBounds_ne (fun z => hxj z.symm), Array.getElem?_setIfInBounds_ne (fun z => hx z.symm)]
      · by_cases ex : x = i
        · subst ex; exact hd T
        · exact Deaf_other T (fun z => ex z.symm) _ hops
    · obtain ⟨gs', ops, q', hrt, hsz, hsp, hqo, hq0, C', hlt⟩ := TokCore.by_step (Kf := Acc Shun h) (sl := sl') (fun t u i x => Acc.app x u) Cd hi hih hg
        (fun x gx hx hgx => by subst hx; rw [ha] at hgx; obtain rfl := Option.some.inj hgx; exact again_send_open hcd) (fun z => z.elim)
        (fun s' g₂ hs' hat => ⟨fun z => z, fun x gx c' hx hgx hc' => by
          subst hx
          rw [ha] at hgx
          obtain rfl := Option.some.inj hgx
          rw [offersAt_parked_send, if_neg]
          intro ec
          have hij : i = j := C.inj i j s' s c hs' hj (ec ▸ hc') ⟨kk, z, hk⟩
          subst hij
          rw [hj] at hs'
          obtain rfl := Option.some.inj hs'
          exact ej ⟨rfl, g₂, hat⟩⟩)
      have hq' : 0 < q' j := by
        by_cases hij : j = i
        · subst hij
          rcases Nat.eq_zero_or_pos (q' j) with h0 | h0
          · obtain ⟨g₂, hat⟩ := hq0 s hj h0
            exact absurd ⟨rfl, g₂, hat⟩ ej
          · exact h0
        · rw [hqo j hij]; exact hqj
      obtain ⟨N, m', T', h1, h2⟩ := ih (sumTo gs'.size q') (by rw [hsz]; omega) gs' _ q' sl' d rfl (by rw [hsz]; exact hjlt) (by rw [hsp h rfl]; exact ha) hq' C'
      exact ⟨N + 1, m', T', by simp only [runNT, hpick', hrt]; exact h1, by rw [← hsz]; exact h2⟩

/-- The holder stands at a send on the channel of case kk of j's seat: it is met. -/
theorem give2 (hKat : ∀ w d, K w → K (w.at d)) (hKc : ∀ w i s c k, Inb i = some s → s.has c → K w → K (w.setChan c 0 #[] false k k false)) (hSS : ∀ l, Still l → ¬ Shun l) (hjh : j ≠ h) (hj : Inb j = some s) (hk : s.cases[kk]? = some (rcase c z)) (hMh : Mem h)
    (hrun : a.status = .running) (hsend : ∀ d, stepG P (h == 0) a (w.at d) = .comm a₂ #[scase c v z'] true .send (w.at d) es) (hes : ∀ e ∈ es, EvR Shun Still B h e ∧ e.loc ≠ .mark .disable ∧ e.loc ≠ .mark .enable)
    (hc : w.heap[c]? = some (.chan 0 #[] false k k false)) : ∀ (μ : Nat) (gs : Array Goroutine) (T : Trace) (q : Nat → Nat) (sl : Option (Nat × Nat)) (d₀ : Nat), sumTo gs.size q = μ → j < gs.size → gs[h]? = some a →
      R2 P K Shun Still B Mem Inb h T gs (w.at d₀) q → ∃ N m' T', runNT P N (crowd gs (w.at d₀) sl) T = (.next m', T') ∧ Met P K Shun Still B Mem Inb h j a₂ s c kk k gs.size v w m' T' := by
  intro μ
  induction μ using Nat.strongRecOn with
  | _ μ ih =>
    intro gs T q sl d₀ hμ hjlt ha C
    have hgj : gs[j]? = some gs[j] := Array.getElem?_eq_getElem hjlt
    have hS : Sits P (j == 0) K Still B s (q j) gs[j] := by have := C.idle j _ hjh hgj; rwa [hj] at this
    obtain ⟨i, g, d, sl', hi, hg, hpick⟩ := crowd_pick (P := P) (w := w.at d₀) (sl := sl) (C.awake ha (.inl hrun)) ⟨h, a, ha, hrun⟩
    have hpick' : stepT P (crowd gs (w.at d₀) sl) = runT P (crowd gs (w.at d) sl') i := hpick
    have Cd : R2 P K Shun Still B Mem Inb h T gs (w.at d) q := TokCore.at hKat C d
    have hcd : (w.at d).heap[c]? = some (.chan 0 #[] false k k false) := hc
    have hlth : h < gs.size := (Array.getElem?_eq_some_iff.1 ha).1
    have hwf := C.wf j s hj
    by_cases e : i = h
    · subst e
      obtain rfl : g = a := by rw [ha] at hi; exact (Option.some.inj hi).symm
      have hops : ∀ op ∈ MemOp.ofEvents i g.frame.fn g.frame.place es, op.g = i := fun op hop => by obtain ⟨e, _, rfl⟩ := Go.Conc.mem_ofEvents hop; rfl
      have hdf : Deaf (T ++ MemOp.ofEvents i g.frame.fn g.frame.place es) i = Deaf T i := by rw [Deaf_own]; exact deafBehind_still (fun e he => (hes e he).2) _
      have hpo := past_own C.past (fn := g.frame.fn) (pos := g.frame.place) (fun e he => (hes e he).1) (fun _ => deafBehind_still (fun e he => (hes e he).2) _)
      have hDa : ∀ x, Deaf (T ++ MemOp.ofEvents i g.frame.fn g.frame.place es) x = Deaf T x := fun x => by
        by_cases ex : x = i
        · subst ex; exact hdf
        · exact Deaf_other T (fun z => ex z.symm) _ hops
      have hoff : ∀ (x : Nat) (y : Goroutine), x ≠ j → (gs.setIfInBounds i ph)[x]? = some y → offersAt y c false = [] := by
        intro x y hxj hy
        rcases getElem?_stand gs i x y hy with ⟨_, rfl⟩ | ⟨hx, hy'⟩
        · exact offersAt_ph _ _
        · exact TokCore.noRecvAt Cd hx hy' fun s' hs' hc' => hxj (C.inj x j s' s c hs' hj hc' ⟨kk, z, hk⟩)
      rcases hS with ⟨n, w₀, hq, hG⟩ | ⟨hq0, g₀, g₂, hpk, hat⟩
      · have hjr : gs[j].status = .running := (Go.Conc.Sits.status C.keep (.inl ⟨n, w₀, hq, hG⟩)).elim (·.1) fun x => by omega
        have hp : partners (gs.setIfInBounds i ph) c false = [] := partners_nil fun x y hy => by
          by_cases hxj : x = j
          · subst hxj
            rw [stand_get hjh hgj] at hy
            obtain rfl := Option.some.inj hy
            exact offersAt_of_not_blocked (by rw [hjr]; simp) _ _
          · exact hoff x y hxj hy
        have hw : ∀ cc ∈ #[scase c v z'], NoWays (w.at d) (gs.setIfInBounds i ph) cc := by
          intro cc hcc
          simp only [List.mem_toArray, List.mem_cons, List.not_mem_nil, or_false] at hcc
          subst hcc
          exact ways_send_none hcd (Nat.le_refl _) hp
        have hrt := crowd_waits (sl := sl') hi (hsend d) hw
        have C' : R2 P K Shun Still B Mem Inb i (T ++ MemOp.ofEvents i g.frame.fn g.frame.place es) (gs.setIfInBounds i (parked a₂ #[scase c v z'] .send)) (w.at d) q := by
          refine ⟨fun y gy hy hgy => ?_, Cd.chans, Cd.wf, fun _ _ z => z.elim, Cd.inj, fun x hx => by rw [hDa]; exact C.above x (by simpa using hx), Cd.mem, Cd.nomem, Cd.lo, hpo, Cd.keep⟩
          rw [Array.getElem?_setIfInBounds_ne (fun e => hy e.symm)] at hgy
          have := C.idle y gy hy hgy
          cases e : Inb y with
          | none => rw [e] at this; exact ⟨this.1, by rw [hDa]; exact this.2⟩
          | some s' => rw [e] at this; exact this
        obtain ⟨N, m', T', h1, h2⟩ := give_parked (v := v) (z' := z') (a₂ := a₂) hKat hKc hSS hjh hj hk hMh hc _ _ _ q sl' d rfl (by simpa using hjlt) (Array.getElem?_setIfInBounds_self_of_lt hlth) (by omega) C'
        exact ⟨N + 1, m', T', by simp only [runNT, hpick', hrt]; exact h1, by simpa using h2⟩
      · have hgj' : gs[j]? = some (parked g₂ s.cases s.shape) := by rw [hgj, hpk]
        have hp : partners (gs.setIfInBounds i ph) c false = [(j, kk)] := by
          rw [partners_one (stand_get hjh hgj') fun x y hxj hy => hoff x y hxj hy, offersAt_parked_at hk (seat_apart hwf hk)]
          rfl
        have hrt := crowd_send_meets_sel (sl := sl') hi (hsend d) hcd hjh hgj' hk hp
        refine ⟨1, _, _, run_one (hpick'.trans hrt), _, g₂, d, sl', q, rfl, by simp, ?_, ?_, hat.2.2.2.2.1, both_of hKc Cd hSS hj hk hMh hcd (by simp) (fun x hx hxj => ?_) hpo hDa⟩
        · exact Array.getElem?_setIfInBounds_self_of_lt (by simpa using hlth)
        · rw [Array.getElem?_setIfInBounds_ne (fun z => hjh z.symm), Array.getElem?_setIfInBounds_self_of_lt hjlt, finishComm_served]
        · rw [Array.getElem?_setIfInBounds_ne (fun z => hx z.symm), Array.getElem?_setIfInBounds_ne (fun z => hxj z.symm)]
    · obtain ⟨gs', ops, q', hrt, hsz, hsp, _, _, C', hlt⟩ := TokCore.by_step (Kf := Acc Shun h) (sl := sl') (fun t u i x => Acc.app x u) Cd hi e hg
        (fun x gx hx hgx => by subst hx; rw [ha] at hgx; obtain rfl := Option.some.inj hgx; exact again_running _ (.inl hrun)) (fun z => z.elim)
        (fun s' g₂ _ _ => ⟨fun z => z, fun x gx c' hx hgx _ => by subst hx; rw [ha] at hgx; obtain rfl := Option.some.inj hgx; exact offersAt_of_not_blocked (by rw [hrun]; simp) _ _⟩)
      obtain ⟨N, m', T', h1, h2⟩ := ih (sumTo gs'.size q') (by rw [hsz]; omega) gs' _ q' sl' d rfl (by rw [hsz]; exact hjlt) (by rw [hsp h rfl]; exact ha) C'
      exact ⟨N + 1, m', T', by simp only [runNT, hpick', hrt]; exact h1, by rw [← hsz]; exact h2⟩
end
end

end Go.Proofs.YtobagnjnbmgidaaGreatDoor

/-! The machine's side, on: goroutine 0 alone beside leavers: one step of its; a go statement behind which the child goes on and goroutine 0 is on its way to a seat. From both parties apart to a frame. -/
namespace Go.Proofs.YtobagnjnbmgidaaGreatDoor
open Go.Conc
open Go.ConcN (sumTo upd sumTo_upd upd_ne upd_same)

/-- Goroutine 0 beside leavers. -/
abbrev Solo (P : Program) (K : World → Prop) (Shun : Loc → Prop) (B : Nat) (Mem : Nat → Prop) (T : Trace) (gs : Array Goroutine) (w : World) (q : Nat → Nat) : Prop := R2 P K Shun (fun _ => False) B Mem (fun _ => none) 0 T gs w q

section
variable {P : Program} {K : World → Prop} {Shun : Loc → Prop} {B : Nat} {Mem : Nat → Prop} {T : Trace} {gs : Array Goroutine} {w : World} {q : Nat → Nat} {a : Goroutine}

/-- Goroutine 0 is picked in the end; till then the leavers slip. -/
theorem solo_picked (hKat : ∀ w d, K w → K (w.at d)) (hs : a.status = .running) : ∀ (μ : Nat) (gs : Array Goroutine) (T : Trace) (q : Nat → Nat) (sl : Option (Nat × Nat)) (d₀ : Nat), sumTo gs.size q = μ → gs[0]? = some a → Solo P K Shun B Mem T gs (w.at d₀) q →
    ∃ N gs' d₁ d sl₁ sl' T' q', runNT P N (crowd gs (w.at d₀) sl) T = (.next (crowd gs' (w.at d₁) sl₁), T') ∧ stepT P (crowd gs' (w.at d₁) sl₁) = runT P (crowd gs' (w.at d) sl') 0 ∧ gs'.size = gs.size ∧ gs'[0]? = some a ∧ Solo P K Shun B Mem T' gs' (w.at d) q' ∧ Deaf T' 0 = Deaf T 0 := by
  intro μ
  induction μ using Nat.strongRecOn with
  | _ μ ih =>
    intro gs T q sl d₀ hμ ha C
    obtain ⟨i, g, d, sl', hi, hg, hpick⟩ := crowd_pick (P := P) (w := w.at d₀) (sl := sl) (C.awake ha (.inl hs)) ⟨0, a, ha, hs⟩
    have hpick' : stepT P (crowd gs (w.at d₀) sl) = runT P (crowd gs (w.at d) sl') i := hpick
    have Cd : Solo P K Shun B Mem T gs (w.at d) q := TokCore.at hKat C d
    by_cases e : i = 0
    · subst e
      exact ⟨0, gs, d₀, d, sl, sl', T, q, rfl, hpick', rfl, ha, Cd, rfl⟩
    · obtain ⟨gs', ops, q', hrt, hops, hsz, hoth, _, C', hlt⟩ := core_slip (Kf := Acc Shun 0) (sl := sl') (fun t u i x => Acc.app x u) Cd hi e rfl hg (fun x gx hx hgx => by subst hx; rw [ha] at hgx; obtain rfl := Option.some.inj hgx; exact again_running _ (.inl hs))
      obtain ⟨N, gs'', d₁, d₂, sl₁, sl₂, T', q'', h1, h2, h3, h4, h5, h6⟩ := ih (sumTo gs'.size q') (by rw [hsz]; omega) gs' _ q' sl' d rfl (by rw [hoth 0 (fun z => e z.symm)]; exact ha) C'
      exact ⟨N + 1, gs'', d₁, d₂, sl₁, sl₂, T', q'', by simp only [runNT, hpick', hrt]; exact h1, h2, by rw [h3, hsz], h4, h5, by rw [h6]; exact Deaf_other T e _ hops⟩

theorem run_then {P : Program} {N : Nat} {m m₁ m₂ : Machine} {t t₁ : Trace} {ops : Array MemOp} (h : runNT P N m t = (.next m₁, t₁)) (hs : stepT P m₁ = (.next m₂, ops)) : runNT P (N + 1) m t = (.next m₂, t₁ ++ ops) := by
  have := runNT_succ_of h hs
  exact this

/-- One step of goroutine 0's, whatever it says of deafness. -/
theorem solo_one (hKat : ∀ w d, K w → K (w.at d)) (hs : a.status = .running) {a' : Goroutine} {w' : World} {es : Array Event} (hst : ∀ d, stepG P true a (w.at d) = .go a' (w'.at d) es) (hK : K w') (hes : ∀ e ∈ es, EvR Shun (fun _ => False) B 0 e) {sl : Option (Nat × Nat)}
    (ha : gs[0]? = some a) (C : Solo P K Shun B (fun _ => False) T gs w q) :
    ∃ N gs' d sl' T' q', runNT P N (crowd gs w sl) T = (.next (crowd gs' (w'.at d) sl'), T') ∧ gs'.size = gs.size ∧ gs'[0]? = some a' ∧ Solo P K Shun B (fun _ => False) T' gs' (w'.at d) q' ∧ Deaf T' 0 = deafBehind (Deaf T 0) es := by
  obtain ⟨N, gs', d₁, d, sl₁, sl', T', q', h1, h2, h3, h4, h5, h6⟩ := solo_picked hKat hs _ gs T q sl w.drawn rfl ha C
  obtain ⟨C', ha'⟩ := R2.own (a' := a') (w' := w'.at d) h5 h4 (hKat _ _ hK) (fun i s c e => by cases e) hes (fun z => z.elim)
  exact ⟨N + 1, _, d, sl', _, q', run_then h1 (h2.trans (runT_crowd_go (sl := sl') h4 (hst d))), by simp [h3], ha', C', by rw [Deaf_own, h6]⟩

/-- Who is a member may be said anew, while nobody has a seat and nothing is still. -/
theorem Solo.hears (C : Solo P K Shun B Mem T gs w q) (hd : Deaf T 0 = 0) : Solo P K Shun B (fun g => g = 0) T gs w q :=
  ⟨C.idle, C.chans, C.wf, C.live, C.inj, C.above, fun i s e => (by cases e), fun i hi => .inr hi, fun i s _ e => (by cases e), ⟨C.past.clean, fun i a ha hm => (C.past.known i a ha hm).imp id fun x => x.2.1.elim, fun _ _ _ _ hS => hS.elim, fun g hg => (by rw [hg]; exact hd), C.past.seen⟩, C.keep⟩
theorem Solo.deaf (C : Solo P K Shun B Mem T gs w q) : Solo P K Shun B (fun _ => False) T gs w q :=
  ⟨C.idle, C.chans, C.wf, C.live, C.inj, C.above, fun i s e => (by cases e), fun i hi => hi.elim, fun i s _ e => (by cases e), ⟨C.past.clean, fun i a ha hm => (C.past.known i a ha hm).imp id fun x => x.2.1.elim, fun _ _ _ _ hS => hS.elim, fun g hg => hg.elim, C.past.seen⟩, C.keep⟩
/-- What is held of the world may be said anew. -/
theorem core_keep {K' : World → Prop} (C : Solo P K Shun B Mem T gs w q) (h : K' w) : Solo P K' Shun B Mem T gs w q :=
  ⟨fun i g hi hg => C.idle i g hi hg, C.chans, C.wf, C.live, C.inj, C.above, C.mem, C.nomem, C.lo, C.past, h⟩
/-- More places are shunned: none of them has been touched plainly, or by others than goroutine 0's word. -/
theorem Solo.shun {Shun' : Loc → Prop} (C : Solo P K Shun B Mem T gs w q) (h : ∀ l, Shun l → Shun' l) (hn : ∀ i a, touchAt T i = some a → Shun' a.loc → ¬ Shun a.loc → a.kind ≠ .plain ∧ (a.kind = .said → T.g? i = some 0)) : Solo P K Shun' B Mem T gs w q :=
  ⟨C.idle, C.chans, C.wf, C.live, C.inj, C.above, C.mem, C.nomem, C.lo, ⟨C.past.clean, fun i a ha hm => (C.past.known i a ha hm).imp (fun ⟨x1, x2, x3⟩ => ⟨x1, x2.imp id fun ⟨b, y1, y2, y3, y4⟩ => ⟨b, y1, y2, h _ y3, y4⟩, fun b hb hs => by
      by_cases z : Shun b.loc
      · exact x3 b hb z
      · exact hn i b hb hs z⟩) fun x => x.2.1.elim, C.past.wrote, C.past.hears, C.past.seen⟩, C.keep⟩

/-- A go statement: the child goes on; goroutine 0 is on its way to its seat. -/
theorem hire2 {K' : World → Prop} {Still : Loc → Prop} (hKat : ∀ w d, K w → K (w.at d)) (hSm : ∀ l, Still l → l.isMemory = true) (hSS : ∀ l, Still l → ¬ Shun l) (hs : a.status = .running) {a' child : Goroutine} {es : Array Event} (hgo : ∀ d, stepG P true a (w.at d) = .spawn a' child (w.at d) es)
    (hes : ∀ e ∈ es, EvR Shun (fun _ => False) B 0 e ∧ e.loc ≠ .mark .disable ∧ e.loc ≠ .mark .enable) (hK' : ∀ d, K' (w.at d)) {s : Seat} (hwf : s.Wf) (hch : ∀ c, s.has c → ∃ k, w.heap[c]? = some (.chan 0 #[] false k k false)) (hcB : ∀ c, s.has c → c < B) {n : Nat} (hsit : Sits P true K' Still B s n a') {sl : Option (Nat × Nat)}
    (ha : gs[0]? = some a) (C : Solo P K Shun B (fun g => g = 0) T gs w q) :
    ∃ N gs' d sl' T' q', runNT P N (crowd gs w sl) T = (.next (crowd gs' (w.at d) sl'), T') ∧ gs'.size = gs.size + 1 ∧ gs'[gs.size]? = some child ∧
      R2 P K' Shun Still B (fun g => g = 0 ∨ g = gs.size) (fun x => if x = 0 then some s else none) gs.size T' gs' (w.at d) q' := by
  obtain ⟨N, gs', d₁, d, sl₁, sl', T', q', h1, h2, h3, h4, h5, h6⟩ := solo_picked hKat hs _ gs T q sl w.drawn rfl ha C
  have hlt : 0 < gs'.size := (Array.getElem?_eq_some_iff.1 h4).1
  have hops : ∀ op ∈ MemOp.ofEvents 0 a.frame.fn a.frame.place es, op.g = 0 := fun op hop => by obtain ⟨e, _, rfl⟩ := Go.Conc.mem_ofEvents hop; rfl
  have hdb : deafBehind (Deaf T' 0) es = Deaf T' 0 := deafBehind_still (fun e he => (hes e he).2) _
  have p1 := past_own h5.past (fn := a.frame.fn) (pos := a.frame.place) (fun e he => (hes e he).1) (fun _ => hdb)
  -- whatever places may be still from now on
  have p1' : PastG Still (fun g => g = 0) (fun g => g ≠ 0 ∧ ((fun x => if x = 0 then some s else none : Nat → Option Seat) g).isSome) B (Acc Shun 0 (T' ++ MemOp.ofEvents 0 a.frame.fn a.frame.place es)) (T' ++ MemOp.ofEvents 0 a.frame.fn a.frame.place es) := by
    refine ⟨p1.clean, fun i b hb hm => (p1.known i b hb hm).imp id fun x => x.2.1.elim, fun i b hb _ hS g hg => ?_, p1.hears, p1.seen⟩
    subst hg
    rcases p1.known i b hb (hSm _ hS) with ⟨_, hk | ⟨b', hb', _, hsh, _⟩, _⟩ | x
    · exact hk
    · have : b' = b := by rw [hb] at hb'; exact (Option.some.inj hb').symm
      subst this
      exact absurd hsh (hSS _ hS)
    · exact x.2.1.elim
  have hDa : ∀ x, Deaf (T' ++ MemOp.ofEvents 0 a.frame.fn a.frame.place es) x = Deaf T' x := fun x => by
    by_cases ex : x = 0
    · subst ex; rw [Deaf_own]; exact hdb
    · exact Deaf_other T' (fun z => ex z.symm) _ hops
  have p2 := past_go (c := gs'.size) p1' hSS rfl (by rw [hDa]; exact h5.above _ (Nat.le_refl _)) a.frame.fn a.frame.place child.frame.fn a.frame.place
  have hq : ∀ g, ∀ op ∈ (#[{ g := 0, fn := a.frame.fn, pos := a.frame.place, act := .go gs'.size }, { g := gs'.size, fn := child.frame.fn, pos := a.frame.place, act := .start }] : Trace), ∀ d, deafStep g d op = d := by
    intro g op hop d
    simp only [List.mem_toArray, List.mem_cons, List.not_mem_nil, or_false] at hop
    rcases hop with rfl | rfl <;> rfl
  have hDD : ∀ x, Deaf ((T' ++ MemOp.ofEvents 0 a.frame.fn a.frame.place es) ++ #[{ g := 0, fn := a.frame.fn, pos := a.frame.place, act := .go gs'.size }, { g := gs'.size, fn := child.frame.fn, pos := a.frame.place, act := .start }]) x = Deaf T' x := fun x => by rw [Deaf_quiet (hq x), hDa]
  have hrt := runT_crowd_spawn (P := P) (sl := sl') (w := w.at d) (w' := w.at d) h4 (hgo d)
  have hpush : ((MemOp.ofEvents 0 a.frame.fn a.frame.place es).push { g := 0, fn := a.frame.fn, pos := a.frame.place, act := .go gs'.size } |>.push { g := gs'.size, fn := child.frame.fn, pos := a.frame.place, act := .start }) =
      MemOp.ofEvents 0 a.frame.fn a.frame.place es ++ #[{ g := 0, fn := a.frame.fn, pos := a.frame.place, act := .go gs'.size }, { g := gs'.size, fn := child.frame.fn, pos := a.frame.place, act := .start }] := by
    apply Array.ext'; simp
  rw [hpush] at hrt
  have hrun := run_then h1 (h2.trans hrt)
  rw [← Array.append_assoc] at hrun
  refine ⟨N + 1, _, d, sl', _, upd q' 0 n, hrun, by simp [h3], by rw [← h3, Array.getElem?_push]; simp, ?_⟩
  rw [← h3]
  refine ⟨fun x y hx hy => ?_, fun i s' c _ e hc => ?_, fun i s' e => ?_, fun _ _ z => z.elim, fun i i' s₁ s₂ c e₁ e₂ => ?_, fun x hx => by rw [hDD]; exact h5.above x (by simp at hx; omega), fun i s' e => ?_, fun i hM => ?_, fun i s' hi e => ⟨hi, by show Option.isSome (if i = 0 then some s else none) = true; rw [show (if i = 0 then some s else none) = some s' from e]; rfl⟩, ?_, hK' d⟩
  · by_cases e : x = 0
    · subst e
      rw [Array.getElem?_push_lt (by simpa using hlt)] at hy
      simp only [Array.getElem_setIfInBounds_self, Option.some.injEq] at hy
      subst hy
      rw [upd_same]
      exact hsit
    · have hy' : gs'[x]? = some y := by
        rw [Array.getElem?_push] at hy
        split at hy
        · rename_i hxe; simp at hxe; exact absurd hxe hx
        · rwa [Array.getElem?_setIfInBounds_ne (fun z => e z.symm)] at hy
      have := h5.idle x y e hy'
      rw [upd_ne q' n e]
      simp only [e, if_false]
      exact ⟨this.1, by rw [hDD]; exact this.2⟩
  · by_cases e0 : i = 0
    · simp only [e0, if_true, Option.some.injEq] at e
      subst e
      obtain ⟨k, hk⟩ := hch c hc
      exact ⟨0, k, hk⟩
    · simp only [e0, if_false] at e; cases e
  · by_cases e0 : i = 0
    · simp only [e0, if_true, Option.some.injEq] at e
      exact e ▸ hwf
    · simp only [e0, if_false] at e; cases e
  · by_cases e0 : i = 0
    · by_cases e0' : i' = 0
      · rw [e0, e0']; exact fun _ _ => rfl
      · simp only [e0', if_false] at e₂; cases e₂
    · simp only [e0, if_false] at e₁; cases e₁
  · by_cases e0 : i = 0
    · simp only [e0, if_true, Option.some.injEq] at e
      exact ⟨.inl e0, e ▸ hcB⟩
    · simp only [e0, if_false] at e; cases e
  · rcases hM with rfl | rfl
    · exact .inl (by simp)
    · exact .inr rfl
  · refine ⟨p2.clean, fun i b hb hm => (p2.known i b hb hm).imp id fun ⟨x1, x2, g, x3, x4, x5⟩ => ⟨x1, x2, g, x3, x5, x4.2⟩, p2.wrote, p2.hears, p2.seen⟩
end

end Go.Proofs.YtobagnjnbmgidaaGreatDoor

/-! The join: goroutine 0 waits for the group, the child counts it down. The group's two cells lie in a block of the program's own, at whatever places. -/
namespace Go.Proofs.YtobagnjnbmgidaaGreatDoor
open Go.Conc
open Go.ConcN (sumTo upd sumTo_upd upd_ne upd_same)

abbrev rdE (a : Addr) : Event := ⟨.cell a, false, true⟩
abbrev wrE (a : Addr) : Event := ⟨.cell a, true, true⟩
abbrev mkE (m : Mark) : Event := ⟨.mark m, false, true⟩

/-- A cell holds a number, and may be written. -/
def Num (k : IntKind) (a : Addr) (w : World) (n : Int) : Prop := w.cell? a = some (.int k n) ∧ w.frozen? a = false

/-- The state's cell, the semaphore's. -/
structure Grp where
  st : Addr
  se : Addr
  ne : st ≠ se

section
variable (P : Program) (K : World → Prop) (Shun : Loc → Prop) (B : Nat) (Gp : Grp) (Anchor : Goroutine → Prop)

/-- One step of goroutine 0 (what stands behind each stage's number: at MS); M: what is asked behind it. -/
def MS1 (M : Nat → Goroutine → Prop) (t : Nat) (g : Goroutine) : Prop :=
  (g.status = .running ∧ ∃ g', (∀ w, K w → ∃ es, stepG P true g w = .go g' w es ∧ ∀ e ∈ es, EvR Shun (fun _ => False) B 0 e ∧ e.loc ≠ .mark .disable ∧ e.loc ≠ .mark .enable) ∧ M t g') ∨
  (t = 0 ∧ g.status = .running ∧ ∃ g', (∀ w, K w → stepG P true g w = .go g' w #[mkE .disable]) ∧ M 1 g') ∨
  (t = 1 ∧ g.status = .running ∧ ∃ gK g0, (∀ w, K w → Num .u64 Gp.st w 4294967296 → stepG P true g w = .go gK w #[rdE Gp.st]) ∧ (∀ w, K w → Num .u64 Gp.st w 0 → stepG P true g w = .go g0 w #[rdE Gp.st]) ∧ M 2 gK ∧ M 6 g0) ∨
  ((t = 9 ∨ t = 5) ∧ g.status = .running ∧ ∃ g0, (∀ w, K w → Num .u64 Gp.st w 0 → stepG P true g w = .go g0 w #[rdE Gp.st]) ∧ M 6 g0) ∨
  (t = 2 ∧ g.status = .running ∧ ∃ gh gm, (∀ w, K w → Num .u64 Gp.st w 4294967296 → stepG P true g w = .go gh (w.setCell Gp.st (.int .u64 4294967297)) #[rdE Gp.st, wrE Gp.st]) ∧ (∀ w, K w → Num .u64 Gp.st w 0 → stepG P true g w = .go gm w #[rdE Gp.st]) ∧ M 3 gh ∧ M 9 gm) ∨
  (t = 3 ∧ g.status = .running ∧ ∃ g', (∀ w, K w → stepG P true g w = .go g' w #[mkE (.write Gp.se)]) ∧ M 4 g') ∨
  (t = 4 ∧ g.status = .running ∧ g.offers = none ∧ ∃ g', (∀ w, K w → Num .u32 Gp.se w 1 → stepG P true g w = .go g' (w.setCell Gp.se (.int .u32 0)) (semEvents Gp.se)) ∧ (∀ w, K w → Num .u32 Gp.se w 0 → stepG P true g w = .go { g with status := .blocked } w #[]) ∧ M 5 g') ∨
  (t = 6 ∧ g.status = .running ∧ ∃ g', (∀ w, K w → stepG P true g w = .go g' w #[mkE .enable]) ∧ M 7 g') ∨
  (t = 7 ∧ g.status = .running ∧ ∃ g', (∀ w, K w → stepG P true g w = .go g' w #[mkE (.acquire Gp.st)]) ∧ M 8 g')
def MSn : Nat → Nat → Goroutine → Prop
  | 0, t, g => t = 8 ∧ g.status = .running ∧ Anchor g
  | n + 1, t, g => (t = 8 ∧ g.status = .running ∧ Anchor g) ∨ MS1 P K Shun B Gp (MSn n) t g
/-- Goroutine 0's stages. 0: to Disable · 1: to Load · 2: to the swap · 3: to Write · 4: to Semacquire · 5: to Load · 6: to Enable · 7: to Acquire · 8: to the anchor · 9: to Load, behind a swap that failed. -/
def MS (t n : Nat) (g : Goroutine) : Prop := MSn P K Shun B Gp Anchor n t g

/-- One step of the child. -/
def CS1 (M : Nat → Goroutine → Prop) (Q : Goroutine → Prop) (t : Nat) (g : Goroutine) : Prop :=
  (g.status = .running ∧ ∃ g', (∀ w, K w → stepG P false g w = .go g' w #[]) ∧ M t g') ∨
  (t = 0 ∧ g.status = .running ∧ ∃ g', (∀ w, K w → stepG P false g w = .go g' w #[mkE (.releaseMerge Gp.st)]) ∧ M 1 g') ∨
  (t = 1 ∧ g.status = .running ∧ ∃ g', (∀ w, K w → stepG P false g w = .go g' w #[mkE .disable]) ∧ M 2 g') ∨
  (t = 2 ∧ g.status = .running ∧ ∃ g0 g1, (∀ w, K w → Num .u64 Gp.st w 4294967296 → stepG P false g w = .go g0 (w.setCell Gp.st (.int .u64 0)) #[rdE Gp.st, wrE Gp.st]) ∧ (∀ w, K w → Num .u64 Gp.st w 4294967297 → stepG P false g w = .go g1 (w.setCell Gp.st (.int .u64 1)) #[rdE Gp.st, wrE Gp.st]) ∧ Q g0 ∧ M 3 g1) ∨
  (t = 3 ∧ g.status = .running ∧ ∃ g', (∀ w, K w → Num .u64 Gp.st w 1 → stepG P false g w = .go g' w #[rdE Gp.st]) ∧ M 4 g') ∨
  (t = 4 ∧ g.status = .running ∧ ∃ g', (∀ w, K w → Num .u64 Gp.st w 1 → stepG P false g w = .go g' (w.setCell Gp.st (.int .u64 0)) #[wrE Gp.st]) ∧ M 5 g') ∨
  (t = 5 ∧ g.status = .running ∧ mayWake P g = true ∧ ∃ g', g'.status = .running ∧ (∀ w, K w → Num .u32 Gp.se w 0 → stepG P false g w = .go g' (w.setCell Gp.se (.int .u32 1)) (semEvents Gp.se)) ∧ Q g')
def CSn : Nat → Nat → Goroutine → Prop
  | 0, _, _ => False
  | n + 1, t, g => CS1 P K Gp (CSn n) (QuitsD P n 1) t g
/-- The child's. 0: to ReleaseMerge · 1: to Disable · 2: to Add · 3: to Load · 4: to Store · 5: to Semrelease · 6: it only leaves. -/
def CS (t n : Nat) (g : Goroutine) : Prop := CSn P K Gp n t g
end

section
variable {P : Program} {K : World → Prop} {Shun : Loc → Prop} {B : Nat} {Gp : Grp} {Anchor : Goroutine → Prop} {M M' : Nat → Goroutine → Prop} {Q Q' : Goroutine → Prop} {t n : Nat} {g g' gK g0 gh gm g1 : Goroutine}
theorem MS1.mono (h : ∀ t g, M t g → M' t g) (x : MS1 P K Shun B Gp M t g) : MS1 P K Shun B Gp M' t g := by
  rcases x with ⟨a, g', b, c⟩ | ⟨a, b, g', c, d⟩ | ⟨a, b, g', g'', c, d, e, f⟩ | ⟨a, b, g', c, d⟩ | ⟨a, b, g', g'', c, d, e, f⟩ | ⟨a, b, g', c, d⟩ | ⟨a, b, c, g', d, e, f⟩ | ⟨a, b, g', c, d⟩ | ⟨a, b, g', c, d⟩
  · exact .inl ⟨a, g', b, h _ _ c⟩
  · exact .inr (.inl ⟨a, b, g', c, h _ _ d⟩)
  · exact .inr (.inr (.inl ⟨a, b, g', g'', c, d, h _ _ e, h _ _ f⟩))
  · exact .inr (.inr (.inr (.inl ⟨a, b, g', c, h _ _ d⟩)))
  · exact .inr (.inr (.inr (.inr (.inl ⟨a, b, g', g'', c, d, h _ _ e, h _ _ f⟩))))
  · exact .inr (.inr (.inr (.inr (.inr (.inl ⟨a, b, g', c, h _ _ d⟩)))))
  · exact .inr (.inr (.inr (.inr (.inr (.inr (.inl ⟨a, b, c, g', d, e, h _ _ f⟩))))))
  · exact .inr (.inr (.inr (.inr (.inr (.inr (.inr (.inl ⟨a, b, g', c, h _ _ d⟩)))))))
  · exact .inr (.inr (.inr (.inr (.inr (.inr (.inr (.inr ⟨a, b, g', c, h _ _ d⟩)))))))
theorem CS1.mono (h : ∀ t g, M t g → M' t g) (q : ∀ g, Q g → Q' g) (x : CS1 P K Gp M Q t g) : CS1 P K Gp M' Q' t g := by
  rcases x with ⟨a, g', b, c⟩ | ⟨a, b, g', c, d⟩ | ⟨a, b, g', c, d⟩ | ⟨a, b, g', g'', c, d, e, f⟩ | ⟨a, b, g', c, d⟩ | ⟨a, b, g', c, d⟩ | ⟨a, b, c, g', d, e, f⟩
  · exact .inl ⟨a, g', b, h _ _ c⟩
  · exact .inr (.inl ⟨a, b, g', c, h _ _ d⟩)
  · exact .inr (.inr (.inl ⟨a, b, g', c, h _ _ d⟩))
  · exact .inr (.inr (.inr (.inl ⟨a, b, g', g'', c, d, q _ e, h _ _ f⟩)))
  · exact .inr (.inr (.inr (.inr (.inl ⟨a, b, g', c, h _ _ d⟩))))
  · exact .inr (.inr (.inr (.inr (.inr (.inl ⟨a, b, g', c, h _ _ d⟩)))))
  · exact .inr (.inr (.inr (.inr (.inr (.inr ⟨a, b, c, g', d, e, q _ f⟩)))))
theorem MSn.up : ∀ (n m : Nat) (t : Nat) (g : Goroutine), n ≤ m → MSn P K Shun B Gp Anchor n t g → MSn P K Shun B Gp Anchor m t g
  | 0, 0, _, _, _, x => x
  | 0, _ + 1, _, _, _, x => .inl x
  | n + 1, 0, _, _, h, _ => absurd h (by omega)
  | n + 1, m + 1, _, _, h, x => x.elim .inl fun y => .inr (y.mono fun t g => MSn.up n m t g (by omega))
theorem MS.mono (h : MS P K Shun B Gp Anchor t n g) (m : Nat) (hm : n ≤ m) : MS P K Shun B Gp Anchor t m g := MSn.up n m t g hm h
theorem MS.one (h : MS1 P K Shun B Gp (fun t g => MS P K Shun B Gp Anchor t n g) t g) : MS P K Shun B Gp Anchor t (n + 1) g := .inr h
theorem MS.inv (h : MS P K Shun B Gp Anchor t n g) : (t = 8 ∧ g.status = .running ∧ Anchor g) ∨ ∃ m, n = m + 1 ∧ MS1 P K Shun B Gp (fun t g => MS P K Shun B Gp Anchor t m g) t g := by
  cases n with
  | zero => exact .inl h
  | succ m => exact h.elim .inl fun x => .inr ⟨m, rfl, x⟩
theorem CS.inv (h : CS P K Gp t n g) : ∃ m, n = m + 1 ∧ CS1 P K Gp (fun t g => CS P K Gp t m g) (QuitsD P m 1) t g := by
  cases n with
  | zero => exact h.elim
  | succ m => exact ⟨m, rfl, h⟩
theorem CS.one (h : CS1 P K Gp (fun t g => CS P K Gp t n g) (QuitsD P n 1) t g) : CS P K Gp t (n + 1) g := h
theorem MS.quiet (hs : g.status = .running) (h : ∀ w, K w → ∃ es, stepG P true g w = .go g' w es ∧ ∀ e ∈ es, EvR Shun (fun _ => False) B 0 e ∧ e.loc ≠ .mark .disable ∧ e.loc ≠ .mark .enable) (hn : MS P K Shun B Gp Anchor t n g') : MS P K Shun B Gp Anchor t (n + 1) g := MS.one (.inl ⟨hs, g', h, hn⟩)
theorem MS.disable (hs : g.status = .running) (h : ∀ w, K w → stepG P true g w = .go g' w #[mkE .disable]) (hn : MS P K Shun B Gp Anchor 1 n g') : MS P K Shun B Gp Anchor 0 (n + 1) g := MS.one (.inr (.inl ⟨rfl, hs, g', h, hn⟩))
theorem MS.load (hs : g.status = .running) (h1 : ∀ w, K w → Num .u64 Gp.st w 4294967296 → stepG P true g w = .go gK w #[rdE Gp.st]) (h0 : ∀ w, K w → Num .u64 Gp.st w 0 → stepG P true g w = .go g0 w #[rdE Gp.st]) (hn1 : MS P K Shun B Gp Anchor 2 n gK) (hn0 : MS P K Shun B Gp Anchor 6 n g0) : MS P K Shun B Gp Anchor 1 (n + 1) g := MS.one (.inr (.inr (.inl ⟨rfl, hs, gK, g0, h1, h0, hn1, hn0⟩)))
theorem MS.load9 (hs : g.status = .running) (h0 : ∀ w, K w → Num .u64 Gp.st w 0 → stepG P true g w = .go g0 w #[rdE Gp.st]) (hn0 : MS P K Shun B Gp Anchor 6 n g0) : MS P K Shun B Gp Anchor 9 (n + 1) g := MS.one (.inr (.inr (.inr (.inl ⟨.inl rfl, hs, g0, h0, hn0⟩))))
theorem MS.load5 (hs : g.status = .running) (h0 : ∀ w, K w → Num .u64 Gp.st w 0 → stepG P true g w = .go g0 w #[rdE Gp.st]) (hn0 : MS P K Shun B Gp Anchor 6 n g0) : MS P K Shun B Gp Anchor 5 (n + 1) g := MS.one (.inr (.inr (.inr (.inl ⟨.inr rfl, hs, g0, h0, hn0⟩))))
theorem MS.swap (hs : g.status = .running) (h1 : ∀ w, K w → Num .u64 Gp.st w 4294967296 → stepG P true g w = .go gh (w.setCell Gp.st (.int .u64 4294967297)) #[rdE Gp.st, wrE Gp.st]) (h0 : ∀ w, K w → Num .u64 Gp.st w 0 → stepG P true g w = .go gm w #[rdE Gp.st]) (hn1 : MS P K Shun B Gp Anchor 3 n gh) (hn0 : MS P K Shun B Gp Anchor 9 n gm) : MS P K Shun B Gp Anchor 2 (n + 1) g := MS.one (.inr (.inr (.inr (.inr (.inl ⟨rfl, hs, gh, gm, h1, h0, hn1, hn0⟩)))))
theorem MS.write (hs : g.status = .running) (h : ∀ w, K w → stepG P true g w = .go g' w #[mkE (.write Gp.se)]) (hn : MS P K Shun B Gp Anchor 4 n g') : MS P K Shun B Gp Anchor 3 (n + 1) g := MS.one (.inr (.inr (.inr (.inr (.inr (.inl ⟨rfl, hs, g', h, hn⟩))))))
theorem MS.sem (hs : g.status = .running) (ho : g.offers = none) (h1 : ∀ w, K w → Num .u32 Gp.se w 1 → stepG P true g w = .go g' (w.setCell Gp.se (.int .u32 0)) (semEvents Gp.se)) (h0 : ∀ w, K w → Num .u32 Gp.se w 0 → stepG P true g w = .go { g with status := .blocked } w #[]) (hn : MS P K Shun B Gp Anchor 5 n g') : MS P K Shun B Gp Anchor 4 (n + 1) g := MS.one (.inr (.inr (.inr (.inr (.inr (.inr (.inl ⟨rfl, hs, ho, g', h1, h0, hn⟩)))))))
theorem MS.enable (hs : g.status = .running) (h : ∀ w, K w → stepG P true g w = .go g' w #[mkE .enable]) (hn : MS P K Shun B Gp Anchor 7 n g') : MS P K Shun B Gp Anchor 6 (n + 1) g := MS.one (.inr (.inr (.inr (.inr (.inr (.inr (.inr (.inl ⟨rfl, hs, g', h, hn⟩))))))))
theorem MS.acquire (hs : g.status = .running) (h : ∀ w, K w → stepG P true g w = .go g' w #[mkE (.acquire Gp.st)]) (hn : MS P K Shun B Gp Anchor 8 n g') : MS P K Shun B Gp Anchor 7 (n + 1) g := MS.one (.inr (.inr (.inr (.inr (.inr (.inr (.inr (.inr ⟨rfl, hs, g', h, hn⟩))))))))
theorem MS.anchor (hs : g.status = .running) (h : Anchor g) : MS P K Shun B Gp Anchor 8 n g := by
  cases n with
  | zero => exact ⟨rfl, hs, h⟩
  | succ n => exact .inl ⟨rfl, hs, h⟩
theorem CS.quiet (hs : g.status = .running) (h : ∀ w, K w → stepG P false g w = .go g' w #[]) (hn : CS P K Gp t n g') : CS P K Gp t (n + 1) g := CS.one (.inl ⟨hs, g', h, hn⟩)
theorem CS.rel (hs : g.status = .running) (h : ∀ w, K w → stepG P false g w = .go g' w #[mkE (.releaseMerge Gp.st)]) (hn : CS P K Gp 1 n g') : CS P K Gp 0 (n + 1) g := CS.one (.inr (.inl ⟨rfl, hs, g', h, hn⟩))
theorem CS.disable (hs : g.status = .running) (h : ∀ w, K w → stepG P false g w = .go g' w #[mkE .disable]) (hn : CS P K Gp 2 n g') : CS P K Gp 1 (n + 1) g := CS.one (.inr (.inr (.inl ⟨rfl, hs, g', h, hn⟩)))
theorem CS.add (hs : g.status = .running) (h0 : ∀ w, K w → Num .u64 Gp.st w 4294967296 → stepG P false g w = .go g0 (w.setCell Gp.st (.int .u64 0)) #[rdE Gp.st, wrE Gp.st]) (h1 : ∀ w, K w → Num .u64 Gp.st w 4294967297 → stepG P false g w = .go g1 (w.setCell Gp.st (.int .u64 1)) #[rdE Gp.st, wrE Gp.st]) (hn0 : QuitsD P n 1 g0) (hn1 : CS P K Gp 3 n g1) : CS P K Gp 2 (n + 1) g := CS.one (.inr (.inr (.inr (.inl ⟨rfl, hs, g0, g1, h0, h1, hn0, hn1⟩))))
theorem CS.load (hs : g.status = .running) (h : ∀ w, K w → Num .u64 Gp.st w 1 → stepG P false g w = .go g' w #[rdE Gp.st]) (hn : CS P K Gp 4 n g') : CS P K Gp 3 (n + 1) g := CS.one (.inr (.inr (.inr (.inr (.inl ⟨rfl, hs, g', h, hn⟩)))))
theorem CS.store (hs : g.status = .running) (h : ∀ w, K w → Num .u64 Gp.st w 1 → stepG P false g w = .go g' (w.setCell Gp.st (.int .u64 0)) #[wrE Gp.st]) (hn : CS P K Gp 5 n g') : CS P K Gp 4 (n + 1) g := CS.one (.inr (.inr (.inr (.inr (.inr (.inl ⟨rfl, hs, g', h, hn⟩))))))
theorem CS.semrel (hs : g.status = .running) (hw : mayWake P g = true) (hs' : g'.status = .running) (h : ∀ w, K w → Num .u32 Gp.se w 0 → stepG P false g w = .go g' (w.setCell Gp.se (.int .u32 1)) (semEvents Gp.se)) (hn : QuitsD P n 1 g') : CS P K Gp 5 (n + 1) g := CS.one (.inr (.inr (.inr (.inr (.inr (.inr ⟨rfl, hs, hw, g', hs', h, hn⟩))))))
end

/-- Which stages go together, and what the group holds then. -/
def Tab (a c : Nat) (s m : Int) : Prop :=
  (a ≤ 2 ∧ c ≤ 2 ∧ s = 4294967296 ∧ m = 0) ∨ ((a ≤ 2 ∨ a = 9) ∧ c = 6 ∧ s = 0 ∧ m = 0) ∨ ((a = 3 ∨ a = 4) ∧ c ≤ 2 ∧ s = 4294967297 ∧ m = 0) ∨ ((a = 3 ∨ a = 4) ∧ (c = 3 ∨ c = 4) ∧ s = 1 ∧ m = 0) ∨
  ((a = 3 ∨ a = 4) ∧ c = 5 ∧ s = 0 ∧ m = 0) ∨ ((a = 3 ∨ a = 4) ∧ c = 6 ∧ s = 0 ∧ m = 1) ∨ (5 ≤ a ∧ a ≤ 8 ∧ c = 6 ∧ s = 0 ∧ m = 0)

section
variable {a c : Nat} {s m : Int}
theorem Tab.A (ha : a ≤ 2) (hc : c ≤ 2) : Tab a c 4294967296 0 := .inl ⟨ha, hc, rfl, rfl⟩
theorem Tab.B (ha : a ≤ 2 ∨ a = 9) : Tab a 6 0 0 := .inr (.inl ⟨ha, rfl, rfl, rfl⟩)
theorem Tab.C (ha : a = 3 ∨ a = 4) (hc : c ≤ 2) : Tab a c 4294967297 0 := .inr (.inr (.inl ⟨ha, hc, rfl, rfl⟩))
theorem Tab.D (ha : a = 3 ∨ a = 4) (hc : c = 3 ∨ c = 4) : Tab a c 1 0 := .inr (.inr (.inr (.inl ⟨ha, hc, rfl, rfl⟩)))
theorem Tab.E (ha : a = 3 ∨ a = 4) : Tab a 5 0 0 := .inr (.inr (.inr (.inr (.inl ⟨ha, rfl, rfl, rfl⟩))))
theorem Tab.F (ha : a = 3 ∨ a = 4) : Tab a 6 0 1 := .inr (.inr (.inr (.inr (.inr (.inl ⟨ha, rfl, rfl, rfl⟩)))))
theorem Tab.G (h1 : 5 ≤ a) (h2 : a ≤ 8) : Tab a 6 0 0 := .inr (.inr (.inr (.inr (.inr (.inr ⟨h1, h2, rfl, rfl, rfl⟩)))))
theorem Tab.t01 (h : Tab 0 c s m) : Tab 1 c s m := by
  rcases h with ⟨x, y, rfl, rfl⟩ | ⟨x, y, rfl, rfl⟩ | ⟨x, y, rfl, rfl⟩ | ⟨x, y, rfl, rfl⟩ | ⟨x, y, rfl, rfl⟩ | ⟨x, y, rfl, rfl⟩ | ⟨x, z, y, rfl, rfl⟩
  · exact .A (by omega) y
  · subst y; exact .B (by omega)
  · exfalso; omega
  · exfalso; omega
  · exfalso; omega
  · exfalso; omega
  · exfalso; omega
theorem Tab.t1 (h : Tab 1 c s m) : (s = 4294967296 ∧ Tab 2 c s m) ∨ (s = 0 ∧ Tab 6 c s m) := by
  rcases h with ⟨x, y, rfl, rfl⟩ | ⟨x, y, rfl, rfl⟩ | ⟨x, y, rfl, rfl⟩ | ⟨x, y, rfl, rfl⟩ | ⟨x, y, rfl, rfl⟩ | ⟨x, y, rfl, rfl⟩ | ⟨x, z, y, rfl, rfl⟩
  · exact .inl ⟨rfl, .A (by omega) y⟩
  · subst y; exact .inr ⟨rfl, .G (by omega) (by omega)⟩
  · exfalso; omega
  · exfalso; omega
  · exfalso; omega
  · exfalso; omega
  · exfalso; omega
theorem Tab.t9 (h : Tab 9 c s m) : s = 0 ∧ Tab 6 c s m := by
  rcases h with ⟨x, y, rfl, rfl⟩ | ⟨x, y, rfl, rfl⟩ | ⟨x, y, rfl, rfl⟩ | ⟨x, y, rfl, rfl⟩ | ⟨x, y, rfl, rfl⟩ | ⟨x, y, rfl, rfl⟩ | ⟨x, z, y, rfl, rfl⟩
  · exfalso; omega
  · subst y; exact ⟨rfl, .G (by omega) (by omega)⟩
  · exfalso; omega
  · exfalso; omega
  · exfalso; omega
  · exfalso; omega
  · exfalso; omega
theorem Tab.t2 (h : Tab 2 c s m) : (s = 4294967296 ∧ Tab 3 c 4294967297 m) ∨ (s = 0 ∧ Tab 9 c s m) := by
  rcases h with ⟨x, y, rfl, rfl⟩ | ⟨x, y, rfl, rfl⟩ | ⟨x, y, rfl, rfl⟩ | ⟨x, y, rfl, rfl⟩ | ⟨x, y, rfl, rfl⟩ | ⟨x, y, rfl, rfl⟩ | ⟨x, z, y, rfl, rfl⟩
  · exact .inl ⟨rfl, .C (.inl rfl) y⟩
  · subst y; exact .inr ⟨rfl, .B (.inr rfl)⟩
  · exfalso; omega
  · exfalso; omega
  · exfalso; omega
  · exfalso; omega
  · exfalso; omega
theorem Tab.t3 (h : Tab 3 c s m) : Tab 4 c s m := by
  rcases h with ⟨x, y, rfl, rfl⟩ | ⟨x, y, rfl, rfl⟩ | ⟨x, y, rfl, rfl⟩ | ⟨x, y, rfl, rfl⟩ | ⟨x, y, rfl, rfl⟩ | ⟨x, y, rfl, rfl⟩ | ⟨x, z, y, rfl, rfl⟩
  · exfalso; omega
  · exfalso; omega
  · exact .C (.inr rfl) y
  · exact .D (.inr rfl) y
  · subst y; exact .E (.inr rfl)
  · subst y; exact .F (.inr rfl)
  · exfalso; omega
theorem Tab.t4 (h : Tab 4 c s m) : (m = 0 ∧ c ≤ 5) ∨ (m = 1 ∧ Tab 5 c s 0) := by
  rcases h with ⟨x, y, rfl, rfl⟩ | ⟨x, y, rfl, rfl⟩ | ⟨x, y, rfl, rfl⟩ | ⟨x, y, rfl, rfl⟩ | ⟨x, y, rfl, rfl⟩ | ⟨x, y, rfl, rfl⟩ | ⟨x, z, y, rfl, rfl⟩
  · exfalso; omega
  · exfalso; omega
  · exact .inl ⟨rfl, by omega⟩
  · exact .inl ⟨rfl, by omega⟩
  · exact .inl ⟨rfl, by omega⟩
  · subst y; exact .inr ⟨rfl, .G (by omega) (by omega)⟩
  · exfalso; omega
theorem Tab.t5 (ha : 5 ≤ a ∧ a ≤ 8) (h : Tab a c s m) : s = 0 ∧ m = 0 ∧ c = 6 ∧ (a < 8 → Tab (a + 1) c s m) := by
  rcases h with ⟨x, y, rfl, rfl⟩ | ⟨x, y, rfl, rfl⟩ | ⟨x, y, rfl, rfl⟩ | ⟨x, y, rfl, rfl⟩ | ⟨x, y, rfl, rfl⟩ | ⟨x, y, rfl, rfl⟩ | ⟨x, z, y, rfl, rfl⟩
  · exfalso; omega
  · exfalso; omega
  · exfalso; omega
  · exfalso; omega
  · exfalso; omega
  · exfalso; omega
  · subst y; exact ⟨rfl, rfl, rfl, fun _ => .G (by omega) (by omega)⟩
theorem Tab.m0 (h : Tab a c s m) (hc : c ≤ 5) : m = 0 := by
  rcases h with ⟨x, y, rfl, rfl⟩ | ⟨x, y, rfl, rfl⟩ | ⟨x, y, rfl, rfl⟩ | ⟨x, y, rfl, rfl⟩ | ⟨x, y, rfl, rfl⟩ | ⟨x, y, rfl, rfl⟩ | ⟨x, z, y, rfl, rfl⟩
  · exact rfl
  · exact rfl
  · exact rfl
  · exact rfl
  · exact rfl
  · exfalso; omega
  · exact rfl
theorem Tab.c01 (h : Tab a c s m) (hc : c ≤ 1) : Tab a (c + 1) s m := by
  rcases h with ⟨x, y, rfl, rfl⟩ | ⟨x, y, rfl, rfl⟩ | ⟨x, y, rfl, rfl⟩ | ⟨x, y, rfl, rfl⟩ | ⟨x, y, rfl, rfl⟩ | ⟨x, y, rfl, rfl⟩ | ⟨x, z, y, rfl, rfl⟩
  · exact .A x (by omega)
  · exfalso; omega
  · exact .C x (by omega)
  · exfalso; omega
  · exfalso; omega
  · exfalso; omega
  · exfalso; omega
theorem Tab.c2 (h : Tab a 2 s m) : (s = 4294967296 ∧ Tab a 6 0 0) ∨ (s = 4294967297 ∧ Tab a 3 1 0) := by
  rcases h with ⟨x, y, rfl, rfl⟩ | ⟨x, y, rfl, rfl⟩ | ⟨x, y, rfl, rfl⟩ | ⟨x, y, rfl, rfl⟩ | ⟨x, y, rfl, rfl⟩ | ⟨x, y, rfl, rfl⟩ | ⟨x, z, y, rfl, rfl⟩
  · exact .inl ⟨rfl, .B (.inl x)⟩
  · exfalso; omega
  · exact .inr ⟨rfl, .D x (.inl rfl)⟩
  · exfalso; omega
  · exfalso; omega
  · exfalso; omega
  · exfalso; omega
theorem Tab.c3 (h : Tab a 3 s m) : s = 1 ∧ Tab a 4 1 0 := by
  rcases h with ⟨x, y, rfl, rfl⟩ | ⟨x, y, rfl, rfl⟩ | ⟨x, y, rfl, rfl⟩ | ⟨x, y, rfl, rfl⟩ | ⟨x, y, rfl, rfl⟩ | ⟨x, y, rfl, rfl⟩ | ⟨x, z, y, rfl, rfl⟩
  · exfalso; omega
  · exfalso; omega
  · exfalso; omega
  · exact ⟨rfl, .D x (.inr rfl)⟩
  · exfalso; omega
  · exfalso; omega
  · exfalso; omega
theorem Tab.c4 (h : Tab a 4 s m) : s = 1 ∧ Tab a 5 0 0 := by
  rcases h with ⟨x, y, rfl, rfl⟩ | ⟨x, y, rfl, rfl⟩ | ⟨x, y, rfl, rfl⟩ | ⟨x, y, rfl, rfl⟩ | ⟨x, y, rfl, rfl⟩ | ⟨x, y, rfl, rfl⟩ | ⟨x, z, y, rfl, rfl⟩
  · exfalso; omega
  · exfalso; omega
  · exfalso; omega
  · exact ⟨rfl, .E x⟩
  · exfalso; omega
  · exfalso; omega
  · exfalso; omega
theorem Tab.c5 (h : Tab a 5 s m) : s = 0 ∧ Tab a 6 0 1 := by
  rcases h with ⟨x, y, rfl, rfl⟩ | ⟨x, y, rfl, rfl⟩ | ⟨x, y, rfl, rfl⟩ | ⟨x, y, rfl, rfl⟩ | ⟨x, y, rfl, rfl⟩ | ⟨x, y, rfl, rfl⟩ | ⟨x, z, y, rfl, rfl⟩
  · exfalso; omega
  · exfalso; omega
  · exfalso; omega
  · exfalso; omega
  · exact ⟨rfl, .F x⟩
  · exfalso; omega
  · exfalso; omega
end

def dM (a : Nat) : Nat := if a = 0 ∨ a = 7 ∨ a = 8 then 0 else 1
def dC (c : Nat) : Nat := if c ≤ 1 then 0 else 1

section
variable {P : Program} {K : World → Prop} {Shun Still : Loc → Prop} {B : Nat} {Mem Lo : Nat → Prop} {h c : Nat} {t : Trace}

/-- Whatever of es touches comes while the one who lists it is deaf. -/
def Hush (d : Nat) (es : Array Event) : Prop := ∀ (k : Nat) (e : Event), es[k]? = some e → (MemAct.ofEvent e).touch? ≠ none → 0 < d ∧ ∀ (j : Nat) (e' : Event), j < k → es[j]? = some e' → e'.loc ≠ .mark .enable
theorem hush_mute {d : Nat} {es : Array Event} (h : ∀ e ∈ es, (MemAct.ofEvent e).touch? = none) : Hush d es := fun k e he ht => absurd (h e (Array.mem_of_getElem? he)) ht
theorem hush_deaf {d : Nat} {es : Array Event} (hd : 0 < d) (h : ∀ e ∈ es, e.loc ≠ .mark .enable) : Hush d es := fun _ _ _ _ => ⟨hd, fun _ e' _ he => h e' (Array.mem_of_getElem? he)⟩
theorem hush_sem {d : Nat} (hd : 0 < d) (a : Addr) : Hush d (semEvents a) := by
  intro k e he ht
  refine ⟨hd, fun j e' hj he' => ?_⟩
  rcases k with _ | _ | _ | _ | k
  · omega
  · obtain rfl : j = 0 := by omega
    simp [semEvents] at he'; subst he'; simp
  · rcases j with _ | _ | j
    · simp [semEvents] at he'; subst he'; simp
    · simp [semEvents] at he'; subst he'; simp
    · omega
  · simp [semEvents] at he; subst he; exact absurd rfl ht
  · simp [semEvents] at he
theorem deaf_ge {t u : Trace} {g : Nat} : ∀ (k : Nat), k ≤ u.size → (∀ j y, j < k → u[j]? = some y → y.act ≠ .mark .enable) → Deaf t g ≤ (t ++ u).deaf g (t.size + k)
  | 0, _, _ => by rw [Nat.add_zero, deaf_old (Nat.le_refl _)]; exact Nat.le_refl _
  | k + 1, hk, h => by
    have ih := deaf_ge (t := t) (g := g) k (by omega) fun j y hj => h j y (by omega)
    have hy : (t ++ u)[t.size + k]? = some u[k] := by rw [Array.getElem?_append_right (by omega)]; simp
    have hn := h k u[k] (by omega) (Array.getElem?_eq_getElem (by omega))
    rw [← Nat.add_assoc, deaf_succ hy]
    refine Nat.le_trans ih ?_
    unfold deafStep
    split
    · split <;> omega
    · rename_i hx; exact absurd hx hn
    · exact Nat.le_refl _

/-- Another's atomic touches of shunned places, and whatever it says that touches nothing. -/
theorem past_other (H : PastG Still Mem Lo B (Acc Shun h t) t) (hSS : ∀ l, Still l → ¬ Shun l) {fn : FuncId} {pos : String} {es : Array Event} (hes : ∀ e ∈ es, (∀ x, (MemAct.ofEvent e).touch? = some x → x.kind = .atomic ∧ Shun x.loc) ∧ (MemAct.ofEvent e).low B) (hM : ¬ Mem c) (hh : Hush (Deaf t c) es) :
    PastG Still Mem Lo B (Acc Shun h (t ++ MemOp.ofEvents c fn pos es)) (t ++ MemOp.ofEvents c fn pos es) := by
  have hu : ∀ op ∈ MemOp.ofEvents c fn pos es, op.g = c := fun op hop => by obtain ⟨e, _, rfl⟩ := Go.Conc.mem_ofEvents hop; rfl
  have hev : ∀ op ∈ MemOp.ofEvents c fn pos es, ∀ b, op.act.touch? = some b → b.kind = .atomic ∧ Shun b.loc := fun op hop b hb => by
    obtain ⟨e, he, rfl⟩ := Go.Conc.mem_ofEvents hop; exact (hes e he).1 b hb
  refine ⟨fun said => noRace_append (H.clean said) hu fun i a ha op hop b hb hc => ?_, fun i a ha hm => ?_, fun i a ha hw hS g hg => ?_, fun g hg => ?_, fun op hop => ?_⟩
  · obtain ⟨e1, e2, e3, e4⟩ := hc
    obtain ⟨b1, b2⟩ := hev op hop b hb
    have hsh : Shun a.loc := e1 ▸ b2
    rcases H.known i a ha e2 with ⟨_, _, hnp⟩ | ⟨_, hS, _⟩
    · rcases e4 with x | x | ⟨_, _, x⟩
      · exact absurd x (hnp a ha hsh).1
      · rw [b1] at x; cases x
      · rw [b1] at x; cases x
    · exact absurd hsh (hSS _ hS)
  · obtain ⟨x, hx, hxa⟩ := touch_of ha
    rcases getElem?_append_cases hx with ⟨hi, hx'⟩ | ⟨hge, hxu⟩
    · rcases H.known i a (by rw [touchAt_of hx']; exact hxa) hm with hk | ⟨p, q, g, hg, hl⟩
      · exact .inl (hk.app _)
      · exact .inr ⟨p, q, g, by rw [g?_old hi]; exact hg, hl⟩
    · obtain ⟨b1, b2⟩ := hev x hxu a hxa
      have hnh : ¬ (t ++ MemOp.ofEvents c fn pos es).heard i := by
        rintro ⟨g, hg, h0⟩
        have hlt := lt_size_of_getElem? hx
        have hge : t.size ≤ i := by assumption
        obtain ⟨k, rfl⟩ : ∃ k, i = t.size + k := ⟨i - t.size, by omega⟩
        have hxk : (MemOp.ofEvents c fn pos es)[k]? = some x := by rw [Array.getElem?_append_right (by omega)] at hx; simpa using hx
        have hgc : g = c := by rw [g?_of hx] at hg; rw [← Option.some.inj hg]; exact hu x hxu
        subst hgc
        rw [ofEvents_eq, Array.getElem?_map] at hxk
        obtain ⟨e, he, rfl⟩ := Option.map_eq_some_iff.1 hxk
        obtain ⟨h1, h2⟩ := hh k e he (by rw [show (MemAct.ofEvent e).touch? = some a from hxa]; simp)
        have := deaf_ge (t := t) (u := MemOp.ofEvents g fn pos es) (g := g) k (by rw [ofEvents_eq]; simp; exact Nat.le_of_lt (Array.getElem?_eq_some_iff.1 he).1) (fun j y hj hy => by
          rw [ofEvents_eq, Array.getElem?_map] at hy
          obtain ⟨e', he', rfl⟩ := Option.map_eq_some_iff.1 hy
          intro z
          have z' : MemAct.ofEvent e' = .mark .enable := z
          refine h2 j e' hj he' ?_
          obtain ⟨loc, wr, sy⟩ := e'
          cases loc with
          | mark m => simpa [MemAct.ofEvent] using z'
          | obj c => cases wr <;> cases sy <;> simp [MemAct.ofEvent] at z'
          | _ => simp [MemAct.ofEvent] at z')
        omega
      refine .inl ⟨lt_size_of_getElem? hx, .inr ⟨a, ha, b1, b2, hnh⟩, fun a' ha' _ => ?_⟩
      have ea : a' = a := by rw [show touchAt _ i = some a from ha] at ha'; exact (Option.some.inj ha').symm
      subst ea
      exact ⟨by rw [b1]; simp, fun z => by rw [b1] at z; cases z⟩
  · obtain ⟨x, hx, hxa⟩ := touch_of ha
    rcases getElem?_append_cases hx with ⟨_, hx'⟩ | ⟨_, hxu⟩
    · exact (H.wrote i a (by rw [touchAt_of hx']; exact hxa) hw hS g hg).app _
    · exact absurd (hev x hxu a hxa).2 (hSS _ hS)
  · rw [Deaf_other t (show c ≠ g from fun z => hM (by rw [z]; exact hg)) _ hu]; exact H.hears g hg
  · rcases Array.mem_append.1 hop with hop | hop
    · exact H.seen op hop
    · obtain ⟨e, he, rfl⟩ := Go.Conc.mem_ofEvents hop; exact (hes e he).2
end

/-- Goroutine 0 and the child stand apart; all others only leave. -/
abbrev Jn (P : Program) (K : World → Prop) (Shun : Loc → Prop) (B c : Nat) (T : Trace) (gs : Array Goroutine) (w : World) (q : Nat → Nat) : Prop :=
  TokCore P K (fun _ => False) B (Acc Shun 0) (fun _ => False) (fun _ => False) (fun _ => none) (fun x => x = 0 ∨ x = c) (fun _ => False) T gs w q

section
variable {P : Program} {K : World → Prop} {Shun : Loc → Prop} {B c : Nat} {T : Trace} {gs : Array Goroutine} {w : World} {q : Nat → Nat}

/-- A step of one of the two. -/
theorem jn_step (C : Jn P K Shun B c T gs w q) {p : Nat} (hp : p = 0 ∨ p = c) {a a' : Goroutine} {w' : World} {es : Array Event} (ha : gs[p]? = some a) (hst : stepG P (p == 0) a w = .go a' w' es) (hK : K w')
    (hpast : PastG (fun _ => False) (fun _ => False) (fun _ => False) B (Acc Shun 0 (T ++ MemOp.ofEvents p a.frame.fn a.frame.place es)) (T ++ MemOp.ofEvents p a.frame.fn a.frame.place es)) (sl : Option (Nat × Nat)) :
    ∃ gs', runT P (crowd gs w sl) p = (.next (crowd gs' w' sl), MemOp.ofEvents p a.frame.fn a.frame.place es) ∧ gs'.size = gs.size ∧ gs'[p]? = some a' ∧ (∀ x y, x ≠ p → gs[x]? = some y → gs'[x]? = some (woken P a a' w' y)) ∧
      Jn P K Shun B c (T ++ MemOp.ofEvents p a.frame.fn a.frame.place es) gs' w' q ∧ Deaf (T ++ MemOp.ofEvents p a.frame.fn a.frame.place es) p = deafBehind (Deaf T p) es ∧ ∀ x, x ≠ p → Deaf (T ++ MemOp.ofEvents p a.frame.fn a.frame.place es) x = Deaf T x := by
  have hlt : p < gs.size := (Array.getElem?_eq_some_iff.1 ha).1
  have hops : ∀ op ∈ MemOp.ofEvents p a.frame.fn a.frame.place es, op.g = p := fun op hop => by obtain ⟨e, _, rfl⟩ := Go.Conc.mem_ofEvents hop; rfl
  have hoth : ∀ x y, x ≠ p → gs[x]? = some y → ((gs.map (woken P a a' w')).setIfInBounds p a')[x]? = some (woken P a a' w' y) := fun x y hx hy => by
    rw [Array.getElem?_setIfInBounds_ne (fun e => hx e.symm), Array.getElem?_map, hy]; rfl
  refine ⟨_, runT_crowd_go (sl := sl) ha hst, by simp, Array.getElem?_setIfInBounds_self_of_lt (by simpa using hlt), hoth, ⟨fun x y hx hy => ?_, fun i s c _ e => (by cases e), fun i s e => (by cases e), fun _ _ z => z.elim, fun i i' s s' c e => (by cases e), fun j hj => ?_, fun i s e => (by cases e), fun i hi => hi.elim, fun i s _ e => (by cases e), hpast, hK⟩, Deaf_own _ _ _ _ _, fun x hx => Deaf_other T (fun z => hx z.symm) _ hops⟩
  · have hxp : x ≠ p := fun e => hx (e ▸ hp)
    have hy0 : ∃ y₀, gs[x]? = some y₀ ∧ woken P a a' w' y₀ = y := by
      rw [Array.getElem?_setIfInBounds_ne (fun e => hxp e.symm), Array.getElem?_map] at hy
      exact Option.map_eq_some_iff.1 hy
    obtain ⟨y₀, hy₀, rfl⟩ := hy0
    have hid : Idle P K (fun _ => False) B T x (q x) y₀ none := C.idle x y₀ hx hy₀
    rw [woken_quitsD hid.2]
    exact ⟨hid.1, by rw [Deaf_other T (fun z => hxp z.symm) _ hops]; exact hid.2⟩
  · simp only [Array.size_setIfInBounds, Array.size_map] at hj
    rw [Deaf_other T (g' := p) (by omega) _ hops]
    exact C.above j hj
end

section
variable {P : Program} {K : World → Prop} {Shun : Loc → Prop} {B c : Nat} {Gp : Grp} {Anchor : Goroutine → Prop}

theorem MS.running {t n : Nat} {g : Goroutine} (h : MS P K Shun B Gp Anchor t n g) : g.status = .running := by
  rcases h.inv with ⟨_, h, _⟩ | ⟨_, _, h⟩
  · exact h
  rcases h with ⟨h, _⟩ | ⟨_, h, _⟩ | ⟨_, h, _⟩ | ⟨_, h, _⟩ | ⟨_, h, _⟩ | ⟨_, h, _⟩ | ⟨_, h, _⟩ | ⟨_, h, _⟩ | ⟨_, h, _⟩ <;> exact h
theorem CS.running {t n : Nat} {g : Goroutine} (h : CS P K Gp t n g) : g.status = .running := by
  obtain ⟨_, _, h⟩ := h.inv
  rcases h with ⟨h, _⟩ | ⟨_, h, _⟩ | ⟨_, h, _⟩ | ⟨_, h, _⟩ | ⟨_, h, _⟩ | ⟨_, h, _⟩ | ⟨_, h, _⟩ <;> exact h

/-- Where the join has come to: goroutine 0 at the anchor, all others only leave. -/
def Joined (P : Program) (K : World → Prop) (Shun : Loc → Prop) (B : Nat) (Gp : Grp) (Anchor : Goroutine → Prop) (n : Nat) (m : Machine) (t : Trace) : Prop :=
  ∃ gs w sl q a, m = crowd gs w sl ∧ gs.size = n ∧ gs[0]? = some a ∧ Anchor a ∧ Solo P K Shun B (fun _ => False) t gs w q ∧ Deaf t 0 = 0 ∧ Num .u64 Gp.st w 0 ∧ Num .u32 Gp.se w 0

/-- The child's record, by its stage; d: its deafness. -/
def Child (P : Program) (K : World → Prop) (Gp : Grp) (tc nc d : Nat) (g : Goroutine) : Prop := (tc ≤ 5 ∧ CS P K Gp tc nc g ∧ d = dC tc) ∨ (tc = 6 ∧ QuitsD P nc d g)

theorem num_at {k : IntKind} {a : Addr} {w : World} {n : Int} (h : Num k a w n) (d : Nat) : Num k a (w.at d) n := h
theorem num_set {k : IntKind} {a : Addr} {w : World} {n : Int} (h : Num k a w n) (v : Int) : Num k a (w.setCell a (.int k v)) v := ⟨World.cell?_setCell_same _ _ _ h.1, by rw [World.frozen?_setCell]; exact h.2⟩
theorem num_other {k k' : IntKind} {a b : Addr} {w : World} {n : Int} (h : Num k a w n) (hne : b ≠ a) (v : Int) : Num k a (w.setCell b (.int k' v)) n := ⟨(World.cell?_setCell_other _ _ _ _ hne).trans h.1, by rw [World.frozen?_setCell]; exact h.2⟩

/-- What is asked of the group's places and of what is held of the world. -/
structure JK (K : World → Prop) (Shun : Loc → Prop) (B : Nat) (Gp : Grp) : Prop where
  at' : ∀ w d, K w → K (w.at d)
  st : ∀ w v, K w → K (w.setCell Gp.st v)
  se : ∀ w v, K w → K (w.setCell Gp.se v)
  shst : Shun (.cell Gp.st)
  shse : Shun (.cell Gp.se)
  lst : Gp.st.block < B
  lse : Gp.se.block < B

theorem evR_mark {Still : Loc → Prop} {h : Nat} {m : Mark} (hm : (MemAct.mark m).touch? = none) (hl : (MemAct.mark m).low B) : EvR Shun Still B h (mkE m) := by
  refine ⟨fun x hx => ?_, hl⟩
  have : (MemAct.ofEvent (mkE m)).touch? = none := hm
  rw [this] at hx; cases hx
theorem evR_atomic {Still : Loc → Prop} {h : Nat} {a : Addr} {wr : Bool} (hS : ¬ Still (.cell a)) (hl : a.block < B) : EvR Shun Still B h ⟨.cell a, wr, true⟩ := by
  refine ⟨fun x hx => ?_, hl⟩
  have : (MemAct.ofEvent ⟨.cell a, wr, true⟩).touch? = some ⟨.cell a, wr, .atomic⟩ := rfl
  rw [this] at hx
  obtain rfl := Option.some.inj hx
  exact ⟨fun z => absurd z hS, fun _ => ⟨by simp, fun z => by cases z⟩⟩
theorem evO_mark {m : Mark} (hm : (MemAct.mark m).touch? = none) (hl : (MemAct.mark m).low B) : (∀ x, (MemAct.ofEvent (mkE m)).touch? = some x → x.kind = .atomic ∧ Shun x.loc) ∧ (MemAct.ofEvent (mkE m)).low B := by
  refine ⟨fun x hx => ?_, hl⟩
  have : (MemAct.ofEvent (mkE m)).touch? = none := hm
  rw [this] at hx; cases hx
theorem evO_atomic {a : Addr} {wr : Bool} (hS : Shun (.cell a)) (hl : a.block < B) : (∀ x, (MemAct.ofEvent ⟨.cell a, wr, true⟩).touch? = some x → x.kind = .atomic ∧ Shun x.loc) ∧ (MemAct.ofEvent ⟨.cell a, wr, true⟩).low B := by
  refine ⟨fun x hx => ?_, hl⟩
  have : (MemAct.ofEvent ⟨.cell a, wr, true⟩).touch? = some ⟨.cell a, wr, .atomic⟩ := rfl
  rw [this] at hx
  obtain rfl := Option.some.inj hx
  exact ⟨rfl, hS⟩
theorem ev_sem {Q : Event → Prop} {a : Addr} (h1 : Q (mkE .disable)) (h2 : Q (rdE a)) (h3 : Q (wrE a)) (h4 : Q (mkE .enable)) : ∀ e ∈ semEvents a, Q e := by
  intro e he
  simp only [semEvents, List.mem_toArray, List.mem_cons, List.not_mem_nil, or_false] at he
  rcases he with rfl | rfl | rfl | rfl <;> assumption
theorem ev_one {Q : Event → Prop} {e₀ : Event} (h : Q e₀) : ∀ e ∈ #[e₀], Q e := by intro e he; simp at he; subst he; exact h
theorem ev_two {Q : Event → Prop} {e₀ e₁ : Event} (h : Q e₀) (h' : Q e₁) : ∀ e ∈ #[e₀, e₁], Q e := by intro e he; simp at he; rcases he with rfl | rfl <;> assumption
theorem ev_nil {Q : Event → Prop} : ∀ e ∈ (#[] : Array Event), Q e := by intro e he; simp at he

/-- A leaver's step, which may let a blocked one try again. -/
theorem jn_slip {T : Trace} {gs : Array Goroutine} {w : World} {q : Nat → Nat} (C : Jn P K Shun B c T gs w q) {i : Nat} {g : Goroutine} (hi : gs[i]? = some g) (hi0 : i ≠ 0) (hic : i ≠ c) (hrun : g.status = .running) (sl : Option (Nat × Nat)) :
    ∃ gs' g' ops q', runT P (crowd gs w sl) i = (.next (crowd gs' w sl), ops) ∧ gs'.size = gs.size ∧ (∀ x y, x ≠ i → gs[x]? = some y → gs'[x]? = some (woken P g g' w y)) ∧ Jn P K Shun B c (T ++ ops) gs' w q' ∧ (∀ x, x ≠ i → Deaf (T ++ ops) x = Deaf T x) ∧ sumTo gs.size q' < sumTo gs.size q := by
  have hlt : i < gs.size := (Array.getElem?_eq_some_iff.1 hi).1
  have hsp : ¬ (i = 0 ∨ i = c) := fun z => z.elim hi0 hic
  obtain ⟨hpos, hq⟩ : 0 < i ∧ QuitsD P (q i) (Deaf T i) g := C.idle i g hsp hi
  have hib : (i == 0) = false := by simp; omega
  cases hqi : q i with
  | zero => rw [hqi] at hq; rw [hq.1] at hrun; cases hrun
  | succ k =>
    rw [hqi] at hq
    rcases hq with ⟨hf, _⟩ | ⟨_, g', es, hm, hstp, hq'⟩
    · rw [hf] at hrun; cases hrun
    have hops : ∀ op ∈ MemOp.ofEvents i g.frame.fn g.frame.place es, op.g = i := fun op hop => by obtain ⟨e, _, rfl⟩ := Go.Conc.mem_ofEvents hop; rfl
    refine ⟨_, g', _, upd q i k, runT_crowd_go (sl := sl) hi (by rw [hib]; exact hstp w), by simp, fun x y hx hy => ?_, ⟨fun x y hx hy => ?_, fun i s c _ e => (by cases e), fun i s e => (by cases e), fun _ _ z => z.elim, fun i i' s s' c e => (by cases e), fun j hj => ?_, fun i s e => (by cases e), fun i hi => hi.elim, fun i s _ e => (by cases e), ?_, C.keep⟩, fun x hx => Deaf_other T (fun z => hx z.symm) _ hops, ?_⟩
    · rw [Array.getElem?_setIfInBounds_ne (fun e => hx e.symm), Array.getElem?_map, hy]; rfl
    · by_cases e : x = i
      · subst e
        rw [Array.getElem?_setIfInBounds_self_of_lt (by simpa using hlt)] at hy
        obtain rfl := Option.some.inj hy
        rw [upd_same]
        exact ⟨hpos, by rw [Deaf_own]; exact hq'⟩
      · rw [Array.getElem?_setIfInBounds_ne (fun z => e z.symm), Array.getElem?_map] at hy
        obtain ⟨y₀, hy₀, rfl⟩ := Option.map_eq_some_iff.1 hy
        have hid : Idle P K (fun _ => False) B T x (q x) y₀ none := C.idle x y₀ hx hy₀
        rw [woken_quitsD hid.2, upd_ne q k e]
        exact ⟨hid.1, by rw [Deaf_other T (fun z => e z.symm) _ hops]; exact hid.2⟩
    · simp only [Array.size_setIfInBounds, Array.size_map] at hj
      rw [Deaf_other T (g' := i) (by omega) _ hops]
      exact C.above j hj
    · exact C.past.appMute (fun _ x => Acc.app x _) hops (fun op hop => by obtain ⟨e, he, rfl⟩ := Go.Conc.mem_ofEvents hop; exact touch_mute (hm e he)) (fun z => z.elim) (fun op hop => by obtain ⟨e, he, rfl⟩ := Go.Conc.mem_ofEvents hop; exact low_mute (hm e he) B)
    · have h2 : sumTo gs.size (upd q i k) + (k + 1) = sumTo gs.size q + k := by
        have := sumTo_upd q k id hlt
        simpa [hqi] using this
      omega

theorem unblock {a : Goroutine} (hs : a.status = .running) : { { a with status := .blocked } with status := .running } = a := by
  cases a; simp_all
theorem woken_blocked (P : Program) (g g' : Goroutine) (w : World) {a : Goroutine} (hs : a.status = .running) (ho : a.offers = none) : woken P g g' w { a with status := .blocked } = a ∨ (woken P g g' w { a with status := .blocked } = { a with status := .blocked } ∧ ¬ (mayWake P g = true ∧ g'.status = .running)) := by
  unfold woken
  split
  · left
    have : ({ a with status := .blocked } : Goroutine).again w = { { a with status := .blocked } with status := .running } := by unfold Goroutine.again; simp [ho]
    rw [this]; exact unblock hs
  · rename_i hn
    refine .inr ⟨rfl, fun ⟨h1, h2⟩ => hn (by simp [h1, h2])⟩

set_option maxHeartbeats 8000000 in
/-- THE JOIN, on whatever tape. -/
theorem join_run (J : JK K Shun B Gp) (hc : 0 < c) : ∀ (L S : Nat) (gs : Array Goroutine) (w : World) (sl : Option (Nat × Nat)) (T : Trace) (q : Nat → Nat) (a0 a1 : Goroutine) (bl : Bool) (tm nm tc nc : Nat) (s m : Int),
    sumTo gs.size q + nc = L → 2 * nm + (if bl then 0 else 1) = S → gs[0]? = some (if bl then { a0 with status := .blocked } else a0) → gs[c]? = some a1 → Jn P K Shun B c T gs w q → MS P K Shun B Gp Anchor tm nm a0 → Child P K Gp tc nc (Deaf T c) a1 →
    (bl = true → tm = 4 ∧ m = 0 ∧ a0.offers = none) → Tab tm tc s m → Num .u64 Gp.st w s → Num .u32 Gp.se w m → Deaf T 0 = dM tm →
    ∃ N m' T', runNT P N (crowd gs w sl) T = (.next m', T') ∧ Joined P K Shun B Gp Anchor gs.size m' T' := by
  intro L
  induction L using Nat.strongRecOn with
  | _ L ihL =>
  intro S
  induction S using Nat.strongRecOn with
  | _ S ihS =>
  intro gs w sl T q a0 a1 bl tm nm tc nc s m hL hS h0 h1 C hM hC hbl hT hst hse hd0
  have hrun0 := hM.running
  have hlt0 : 0 < gs.size := (Array.getElem?_eq_some_iff.1 h0).1
  have hltc : c < gs.size := (Array.getElem?_eq_some_iff.1 h1).1
  -- the child is running, or has ended
  have hst1 : a1.status = .running ∨ a1.status = .finished := hC.elim (fun x => .inl x.2.1.running) fun x => x.2.status
  by_cases hanch : Anchor a0 ∧ tm = 8
  · obtain ⟨hA, rfl⟩ := hanch
    have hb : bl = false := by
      cases bl with
      | false => rfl
      | true => have := (hbl rfl).1; omega
    subst hb
    obtain ⟨rfl, rfl, rfl, _⟩ := hT.t5 (by omega)
    have hq1 : QuitsD P nc (Deaf T c) a1 := hC.elim (fun x => by omega) (·.2)
    refine ⟨0, _, T, rfl, gs, w, sl, upd q c nc, a0, rfl, rfl, h0, hA, ⟨fun x y hx hy => ?_, fun i s c _ e => (by cases e), fun i s e => (by cases e), fun _ _ z => z.elim, fun i i' s s' c e => (by cases e), C.above, fun i s e => (by cases e), fun i hi => hi.elim, fun i s _ e => (by cases e), ⟨C.past.clean, fun i a ha hm => (C.past.known i a ha hm).imp id fun x => x.2.1.elim, C.past.wrote, C.past.hears, C.past.seen⟩, C.keep⟩, hd0, hst, hse⟩
    by_cases e : x = c
    · subst e
      rw [h1] at hy
      obtain rfl := Option.some.inj hy
      rw [upd_same]
      exact ⟨hc, hq1⟩
    · rw [upd_ne q nc e]
      exact C.idle x y (fun z => z.elim hx e) hy
  -- somebody runs
  have hsome : ∃ (i : Nat) (g : Goroutine), gs[i]? = some g ∧ g.status = .running := by
    cases bl with
    | false => exact ⟨0, a0, h0, hrun0⟩
    | true =>
      obtain ⟨e1, e2, _⟩ := hbl rfl
      subst e1
      have : tc ≤ 5 := hT.t4.elim (·.2) fun x => by omega
      exact ⟨c, a1, h1, hC.elim (fun x => x.2.1.running) fun x => by omega⟩
  have hawake : ∀ g ∈ gs, awake g := by
    intro g hg
    obtain ⟨i, hi, rfl⟩ := Array.mem_iff_getElem.1 hg
    have hgi : gs[i]? = some gs[i] := Array.getElem?_eq_getElem hi
    by_cases e0 : i = 0
    · subst e0
      rw [h0] at hgi
      rw [← Option.some.inj hgi]
      cases bl with
      | false => exact awake_of (.inl hrun0)
      | true => exact awake_of (.inr (.inl rfl))
    · by_cases e1 : i = c
      · subst e1
        rw [h1] at hgi
        rw [← Option.some.inj hgi]
        exact awake_of (hst1.elim .inl fun x => .inr (.inr x))
      · have hid : Idle P K (fun _ => False) B T i (q i) gs[i] none := C.idle i _ (fun z => z.elim e0 e1) hgi
        exact awake_of (hid.2.status.elim .inl fun x => .inr (.inr x))
  obtain ⟨i, g, d, sl', hi, hg, hpick⟩ := crowd_pick (P := P) (w := w) (sl := sl) hawake hsome
  have Cd : Jn P K Shun B c T gs (w.at d) q := TokCore.at J.at' C d
  have hKd : K (w.at d) := Cd.keep
  have next : ∀ {m₁ ops}, runT P (crowd gs (w.at d) sl') i = (.next m₁, ops) → ∀ N, runNT P (N + 1) (crowd gs w sl) T = runNT P N m₁ (T ++ ops) := fun e N => by simp only [runNT, hpick, e]
  by_cases e0 : i = 0
  · subst e0
    have hb : bl = false := by
      cases bl with
      | false => rfl
      | true => rw [h0] at hi; obtain rfl := Option.some.inj hi; cases hg
    subst hb
    obtain rfl : g = a0 := by rw [h0] at hi; exact (Option.some.inj hi).symm
    have main : ∀ (a' : Goroutine) (w' : World) (es : Array Event) (bl' : Bool) (a'' : Goroutine) (tm' nm' : Nat) (s' m' : Int), stepG P true g (w.at d) = .go a' w' es → a' = (if bl' then { a'' with status := .blocked } else a'') → K w' → (∀ e ∈ es, EvR Shun (fun _ => False) B 0 e) → deafBehind (dM tm) es = dM tm' →
        MS P K Shun B Gp Anchor tm' nm' a'' → (bl' = true → tm' = 4 ∧ m' = 0 ∧ a''.offers = none) → Tab tm' tc s' m' → Num .u64 Gp.st w' s' → Num .u32 Gp.se w' m' → 2 * nm' + (if bl' then 0 else 1) < S →
        ∃ N m' T', runNT P N (crowd gs w sl) T = (.next m', T') ∧ Joined P K Shun B Gp Anchor gs.size m' T' := by
      intro a' w' es bl' a'' tm' nm' s' m' hstep ha' hK hes hdf hM' hbl' hT' hst' hse' hlt
      obtain ⟨gs', hrt, hsz, hg0, hoth, C', hD0, hDo⟩ := jn_step Cd (.inl rfl) h0 hstep hK (past_own Cd.past hes (fun z => z.elim)) sl'
      have h1' : gs'[c]? = some a1 := by rw [hoth c a1 (by omega) h1, woken_of_again (again_running _ hst1)]
      obtain ⟨N, mm, TT, hr, hj⟩ := ihS _ hlt gs' w' sl' _ q a'' a1 bl' tm' nm' tc nc s' m' (by rw [hsz]; exact hL) rfl (by rw [hg0, ha']) h1' C' hM' (by rw [hDo c (by omega)]; exact hC) hbl' hT' hst' hse' (by rw [hD0, hd0]; exact hdf)
      exact ⟨N + 1, mm, TT, by rw [next hrt]; exact hr, by rw [← hsz]; exact hj⟩
    have hSn : ∀ {n : Nat}, nm = n + 1 → 2 * n + 1 < S := fun e => by simp at hS; omega
    rcases hM.inv with ⟨rfl, hs, h⟩ | ⟨n, rfl, hM1⟩
    · exact absurd ⟨h, rfl⟩ hanch
    rcases hM1 with ⟨hs, g1, h, hn⟩ | ⟨rfl, hs, g1, h, hn⟩ | ⟨rfl, hs, g1, g2, h1, h0', hn1, hn0⟩ | ⟨rfl | rfl, hs, g1, h0', hn0⟩ | ⟨rfl, hs, g1, g2, h1, h0', hn1, hn0⟩ | ⟨rfl, hs, g1, h, hn⟩ | ⟨rfl, hs, ho, g1, h1, h0', hn⟩ | ⟨rfl, hs, g1, h, hn⟩ | ⟨rfl, hs, g1, h, hn⟩
    · obtain ⟨es, h1, h2⟩ := h _ hKd
      exact main _ _ es false _ _ _ s m h1 rfl hKd (fun e he => (h2 e he).1) (deafBehind_still (fun e he => (h2 e he).2) _) hn (fun z => by cases z) hT hst hse (hSn rfl)
    · exact main _ _ _ false _ _ _ s m (h _ hKd) rfl hKd (ev_one (evR_mark rfl trivial)) rfl hn (fun z => by cases z) hT.t01 hst hse (hSn rfl)
    · rcases hT.t1 with ⟨rfl, hT'⟩ | ⟨rfl, hT'⟩
      · exact main _ _ _ false _ _ _ _ m (h1 _ hKd hst) rfl hKd (ev_one (evR_atomic id J.lst)) rfl hn1 (fun z => by cases z) hT' hst hse (hSn rfl)
      · exact main _ _ _ false _ _ _ _ m (h0' _ hKd hst) rfl hKd (ev_one (evR_atomic id J.lst)) rfl hn0 (fun z => by cases z) hT' hst hse (hSn rfl)
    · obtain ⟨rfl, hT'⟩ := hT.t9
      exact main _ _ _ false _ _ _ _ m (h0' _ hKd hst) rfl hKd (ev_one (evR_atomic id J.lst)) rfl hn0 (fun z => by cases z) hT' hst hse (hSn rfl)
    · obtain ⟨rfl, _, _, hT'⟩ := hT.t5 (by omega)
      exact main _ _ _ false _ _ _ _ m (h0' _ hKd hst) rfl hKd (ev_one (evR_atomic id J.lst)) rfl hn0 (fun z => by cases z) (hT' (by omega)) hst hse (hSn rfl)
    · rcases hT.t2 with ⟨rfl, hT'⟩ | ⟨rfl, hT'⟩
      · exact main _ _ _ false _ _ _ 4294967297 m (h1 _ hKd hst) rfl (J.st _ _ hKd) (ev_two (evR_atomic id J.lst) (evR_atomic id J.lst)) rfl hn1 (fun z => by cases z) hT' (num_set hst _) (num_other hse Gp.ne _) (hSn rfl)
      · exact main _ _ _ false _ _ _ _ m (h0' _ hKd hst) rfl hKd (ev_one (evR_atomic id J.lst)) rfl hn0 (fun z => by cases z) hT' hst hse (hSn rfl)
    · refine main _ _ _ false _ _ _ s m (h _ hKd) rfl hKd (ev_one ⟨fun x hx => ?_, J.lse⟩) rfl hn (fun z => by cases z) hT.t3 hst hse (hSn rfl)
      have : (MemAct.ofEvent (mkE (.write Gp.se))).touch? = some ⟨.cell Gp.se, true, .said⟩ := rfl
      rw [this] at hx
      obtain rfl := Option.some.inj hx
      exact ⟨fun z => z.elim, fun _ => ⟨by simp, fun _ => rfl⟩⟩
    · rcases hT.t4 with ⟨rfl, _⟩ | ⟨rfl, hT'⟩
      · exact main _ _ _ true g 4 (n + 1) s 0 (h0' _ hKd hse) rfl hKd ev_nil rfl (.sem hs ho h1 h0' hn) (fun _ => ⟨rfl, rfl, ho⟩) hT hst hse (by simp at hS ⊢; omega)
      · exact main _ _ _ false _ _ _ s 0 (h1 _ hKd hse) rfl (J.se _ _ hKd) (ev_sem (evR_mark rfl trivial) (evR_atomic id J.lse) (evR_atomic id J.lse) (evR_mark rfl trivial)) rfl hn (fun z => by cases z) hT' (num_other hst (fun z => Gp.ne z.symm) _) (num_set hse _) (hSn rfl)
    · exact main _ _ _ false _ _ _ s m (h _ hKd) rfl hKd (ev_one (evR_mark rfl trivial)) rfl hn (fun z => by cases z) ((hT.t5 (by omega)).2.2.2 (by omega)) hst hse (hSn rfl)
    · exact main _ _ _ false _ _ _ s m (h _ hKd) rfl hKd (ev_one (evR_mark rfl J.lst)) rfl hn (fun z => by cases z) ((hT.t5 (by omega)).2.2.2 (by omega)) hst hse (hSn rfl)
  -- goroutine 0's record behind another's step
  have wk : ∀ (g' : Goroutine) (w' : World), ∃ bl', woken P g g' w' (if bl then { a0 with status := .blocked } else a0) = (if bl' then { a0 with status := .blocked } else a0) ∧ (bl' = true → bl = true ∧ ¬ (mayWake P g = true ∧ g'.status = .running)) := by
    intro g' w'
    cases bl with
    | false => exact ⟨false, by simp only [Bool.false_eq_true, if_false]; exact woken_of_again (again_running _ (.inl hrun0)), fun z => by cases z⟩
    | true =>
      obtain ⟨_, _, ho⟩ := hbl rfl
      rcases woken_blocked P g g' w' hrun0 ho with x | ⟨x, y⟩
      · exact ⟨false, by simpa using x, fun z => by cases z⟩
      · exact ⟨true, by simpa using x, fun _ => ⟨rfl, y⟩⟩
  by_cases e1 : i = c
  · subst e1
    obtain rfl : g = a1 := by rw [h1] at hi; exact (Option.some.inj hi).symm
    have hib : (i == 0) = false := by simp; omega
    have child : ∀ (a' : Goroutine) (w' : World) (es : Array Event) (tc' nc' : Nat) (s' m' : Int), stepG P false g (w.at d) = .go a' w' es → K w' → (∀ e ∈ es, (∀ x, (MemAct.ofEvent e).touch? = some x → x.kind = .atomic ∧ Shun x.loc) ∧ (MemAct.ofEvent e).low B) → Hush (Deaf T i) es →
        Child P K Gp tc' nc' (deafBehind (Deaf T i) es) a' → ((bl = true → m' = 0) ∨ (mayWake P g = true ∧ a'.status = .running)) → Tab tm tc' s' m' → Num .u64 Gp.st w' s' → Num .u32 Gp.se w' m' → nc' < nc →
        ∃ N m' T', runNT P N (crowd gs w sl) T = (.next m', T') ∧ Joined P K Shun B Gp Anchor gs.size m' T' := by
      intro a' w' es tc' nc' s' m' hstep hK hes hhu hC' hwake hT' hst' hse' hlt
      obtain ⟨gs', hrt, hsz, hgc, hoth, C', hDc, hDo⟩ := jn_step Cd (.inr rfl) h1 (by rw [hib]; exact hstep) hK (past_other Cd.past (fun _ z => z.elim) hes (fun z => z) hhu) sl'
      obtain ⟨bl', hw1, hw2⟩ := wk a' w'
      obtain ⟨N, mm, TT, hr, hj⟩ := ihL (sumTo gs'.size q + nc') (by rw [hsz]; omega) _ gs' w' sl' _ q a0 a' bl' tm nm tc' nc' s' m' rfl rfl (by rw [hoth 0 _ (fun z => e0 z.symm) h0, hw1]) hgc C' hM (by rw [hDc]; exact hC')
        (fun z => by obtain ⟨b1, b2⟩ := hw2 z; obtain ⟨c1, _, c3⟩ := hbl b1; exact ⟨c1, hwake.elim (fun y => y b1) fun y => absurd y b2, c3⟩) hT' hst' hse' (by rw [hDo 0 (fun z => e0 z.symm)]; exact hd0)
      exact ⟨N + 1, mm, TT, by rw [next hrt]; exact hr, by rw [← hsz]; exact hj⟩
    rcases hC with ⟨hle, hCS, hdc⟩ | ⟨rfl, hq⟩
    · have hm0 : m = 0 := hT.m0 hle
      subst hm0
      obtain ⟨n, rfl, hC1⟩ := hCS.inv
      rcases hC1 with ⟨hs, g1, h, hn⟩ | ⟨rfl, hs, g1, h, hn⟩ | ⟨rfl, hs, g1, h, hn⟩ | ⟨rfl, hs, g1, g2, h0', h1', hn0, hn1⟩ | ⟨rfl, hs, g1, h, hn⟩ | ⟨rfl, hs, g1, h, hn⟩ | ⟨rfl, hs, hw, g1, hs', h, hn⟩
      · exact child _ _ _ _ _ s 0 (h _ hKd) hKd ev_nil (hush_mute ev_nil) (.inl ⟨hle, hn, hdc⟩) (.inl fun _ => rfl) hT hst hse (by omega)
      · exact child _ _ _ _ _ s 0 (h _ hKd) hKd (ev_one (evO_mark rfl J.lst)) (hush_mute (ev_one rfl)) (.inl ⟨by omega, hn, by rw [hdc]; rfl⟩) (.inl fun _ => rfl) (hT.c01 (by omega)) hst hse (by omega)
      · exact child _ _ _ _ _ s 0 (h _ hKd) hKd (ev_one (evO_mark rfl trivial)) (hush_mute (ev_one rfl)) (.inl ⟨by omega, hn, by rw [hdc]; rfl⟩) (.inl fun _ => rfl) (hT.c01 (by omega)) hst hse (by omega)
      · rcases hT.c2 with ⟨rfl, hT'⟩ | ⟨rfl, hT'⟩
        · exact child _ _ _ 6 _ 0 0 (h0' _ hKd hst) (J.st _ _ hKd) (ev_two (evO_atomic J.shst J.lst) (evO_atomic J.shst J.lst)) (hush_deaf (by rw [hdc]; decide) (by intro e he; simp at he; rcases he with rfl | rfl <;> simp)) (.inr ⟨rfl, by rw [hdc]; exact hn0⟩) (.inl fun _ => rfl) hT' (num_set hst _) (num_other hse Gp.ne _) (by omega)
        · exact child _ _ _ _ _ 1 0 (h1' _ hKd hst) (J.st _ _ hKd) (ev_two (evO_atomic J.shst J.lst) (evO_atomic J.shst J.lst)) (hush_deaf (by rw [hdc]; decide) (by intro e he; simp at he; rcases he with rfl | rfl <;> simp)) (.inl ⟨by omega, hn1, by rw [hdc]; rfl⟩) (.inl fun _ => rfl) hT' (num_set hst _) (num_other hse Gp.ne _) (by omega)
      · obtain ⟨rfl, hT'⟩ := hT.c3
        exact child _ _ _ _ _ 1 0 (h _ hKd hst) hKd (ev_one (evO_atomic J.shst J.lst)) (hush_deaf (by rw [hdc]; decide) (by intro e he; simp at he; subst he; simp)) (.inl ⟨by omega, hn, by rw [hdc]; rfl⟩) (.inl fun _ => rfl) hT' hst hse (by omega)
      · obtain ⟨rfl, hT'⟩ := hT.c4
        exact child _ _ _ _ _ 0 0 (h _ hKd hst) (J.st _ _ hKd) (ev_one (evO_atomic J.shst J.lst)) (hush_deaf (by rw [hdc]; decide) (by intro e he; simp at he; subst he; simp)) (.inl ⟨by omega, hn, by rw [hdc]; rfl⟩) (.inl fun _ => rfl) hT' (num_set hst _) (num_other hse Gp.ne _) (by omega)
      · obtain ⟨rfl, hT'⟩ := hT.c5
        exact child _ _ _ 6 _ 0 1 (h _ hKd hse) (J.se _ _ hKd) (ev_sem (evO_mark rfl trivial) (evO_atomic J.shse J.lse) (evO_atomic J.shse J.lse) (evO_mark rfl trivial)) (hush_sem (by rw [hdc]; decide) _) (.inr ⟨rfl, by rw [hdc]; exact hn⟩) (.inr ⟨hw, hs'⟩) hT' (num_other hst (fun z => Gp.ne z.symm) _) (num_set hse _) (by omega)
    · cases nc with
      | zero => rw [hq.1] at hg; cases hg
      | succ k =>
        rcases hq with ⟨hf, _⟩ | ⟨_, g', es, hm, hstp, hq'⟩
        · rw [hf] at hg; cases hg
        refine child g' (w.at d) es 6 k s m (hstp _) hKd (fun e he => ⟨fun x hx => ?_, low_mute (hm e he) B⟩) (hush_mute fun e he => touch_mute (hm e he)) (.inr ⟨rfl, hq'⟩) ?_ hT hst hse (by omega)
        · rw [touch_mute (hm e he)] at hx; cases hx
        · exact .inl fun z => (hbl z).2.1
  · obtain ⟨gs', g', ops, q', hrt, hsz, hoth, C', hDo, hlt⟩ := jn_slip Cd hi e0 e1 hg sl'
    obtain ⟨bl', hw1, hw2⟩ := wk g' (w.at d)
    obtain ⟨N, mm, TT, hr, hj⟩ := ihL (sumTo gs'.size q' + nc) (by rw [hsz]; omega) _ gs' (w.at d) sl' _ q' a0 a1 bl' tm nm tc nc s m rfl rfl (by rw [hoth 0 _ (fun z => e0 z.symm) h0, hw1]) (by rw [hoth c _ (fun z => e1 z.symm) h1, woken_of_again (again_running _ hst1)]) C' hM (by rw [hDo c (fun z => e1 z.symm)]; exact hC)
      (fun z => hbl (hw2 z).1) hT hst hse (by rw [hDo 0 (fun z => e0 z.symm)]; exact hd0)
    exact ⟨N + 1, mm, TT, by rw [next hrt]; exact hr, by rw [← hsz]; exact hj⟩
end

end Go.Proofs.YtobagnjnbmgidaaGreatDoor
