/- Checks holds of the landed code: for every list of layers and every list of clients that may lie in memory, and on every schedule, the law returns true, without a data race, and leaves both arguments as they read before; at the return every other goroutine has ended or is only leaving.
Conditions: those of the given row and its card alone (the package-level variable errors.errorType starts as the program's text lays it, which the given tie shows; nothing else is asked). The texts before this one: the rules of the walk (X1, G1, G6, X8), the functions of packages agenda, layer and fault that one task comes to (X10 to X28), Check and the document's own Check for all lists (X30 to X35), New, Stack and Begin (X36 to X39), the agenda's loop, the task, the group's join and Run itself (X41 to X52), the law's head (X53), the law (X54), what the arguments hold (X55). -/
import Derived.Test.YtobagnjnbmgidaaGreatDoorX54
import Derived.Test.YtobagnjnbmgidaaGreatDoorX55
import Derived.Test.YtobagnjnbmgidaaGreatDoorTie
import Derived.Test.YtobagnjnbmgidaaGreatDoorCards
import Derived.Test.YtobagnjnbmgidaaGreatDoorG1
import Derived.Conc.LeavingOf
import Derived.JoinedOf
import Derived.SevenTiedAt
import Derived.ChangeVars
import Derived.Stop.Joined
set_option linter.unusedSimpArgs false
set_option linter.unusedVariables false
namespace Go.Proofs.YtobagnjnbmgidaaGreatDoor
open Go.Conc Go.RowKit Go.ChangeShapes Go.WideShapes

theorem checks_run {W : World} {n capL m cap : Nat} {sL sa : Option Addr} {L : Nat → Nat → Int} {g : Nat → Cl} (i0 : 0 < W.heap.size) (hg : W.cell? ⟨0, 0, none⟩ = some (.iface 217 (.agg #[.pointer (some ⟨1, 121, none⟩)])))
    (hL : LaysAt W sL n L) (hC : ClsAt W sa m g) (bL : ∀ p : Addr, sL = some p → p.block < W.heap.size) (bC : ∀ p : Addr, sa = some p → p.block < W.heap.size) (bT : ∀ i, i < m → 0 < (g i).nt → ∀ p : Addr, (g i).ta = some p → p.block < W.heap.size) :
    Goal Tryz.prog (fun v W' => v = .bool true ∧ Below W.heap.size W W') (solo (G (Frame.enter Tryz.prog 3 #[.slice sL n capL, .slice sa m cap] .normal) []) W) #[] :=
  goal_start (K := Old W) (Old.of (Below.refl _ _)) (fun x h => h) (checks_at n capL m cap sL sa L g i0 hg hL hC bL bC bT (fun w' ho _ => ⟨rfl, ho.below⟩))

set_option maxRecDepth 100000 in
theorem slice_of {W : World} {base : Nat} {t e : TypeId} {v : Value} (ht : Tryz.prog.underlying t = some (.slice e)) (h : Value.okWide Tryz.prog W .any base t v) : ∃ sa n cap, v = .slice sa n cap ∧ ∀ p : Addr, sa = some p → p.block < W.heap.size := by
  cases v <;> simp [Value.okWide, Cell.okWide, Cell.ok, ht] at h
  rename_i sa n cap
  refine ⟨sa, n, cap, rfl, fun p hp => ?_⟩
  subst hp
  simp [Value.okWide, Cell.okWide, Cell.ok, ht, World.has] at h
  obtain ⟨_, _, _, _, row, cells, hs, _⟩ := h
  unfold World.shape? at hs
  cases hb : W.heap[p.block]? with
  | none => rw [hb] at hs; simp at hs
  | some o => exact (Array.getElem?_eq_some_iff.1 hb).1

theorem ownKnob3 : ownKnob Tryz.prog.godebug = none := by kernel_rfl

/-- A world in which the variable holds its handle. -/
def heldIn (w : World) : World := { w with heap := w.heap.modify 0 fun o => match o with | .cells _ t fr => .cells #[.iface 217 (.agg #[.pointer (some ⟨1, 121, none⟩)])] t fr | o => o }
theorem held_met (os : Os) (args : Array Value) : laidMetH Tryz.prog Rows.checksRow.laid ((heldIn (World.holding Tryz.prog os ⟨#[], #[], []⟩)).forCall (fun _ _ => 0) ⟨#[], args, []⟩).memory :=
  laidMetH_of_parts (laidMet_nil _ _) (by kernel_rfl)

set_option maxRecDepth 100000 in
theorem checks_lifted (os : Os) (started : os.Started) (H : Type) (enc : TypeId × Value → H) :
    ReturnsInLeavingWide {} Tryz.checked os 3 .any (fun w args => (Rows.checksSpec.pre enc Tryz.prog Tryz.f3 [] false w args ∧ laidMetH Tryz.prog Rows.checksRow.laid w) ∧ sizedMet enc Tryz.prog Tryz.f3 (OpenSpec.ofChange Rows.checksSpec) false w args)
      (Rows.checksSpec.post enc Tryz.prog Tryz.f3 false true false false) := by
  refine returnsInLeavingWide_of_good (C := Tryz.checked) ownKnob3 started
    (ChangeSpec.witness_at (enc := enc) (C := Tryz.checked) (os := os) (X := fun w _ => laidMetH Tryz.prog Rows.checksRow.laid w) false (heldIn (World.holding Tryz.prog os ⟨#[], #[], []⟩)) #[.slice none 0 0, .slice none 0 0] 8 rfl (by kernel_rfl) (by kernel_rfl) (by kernel_rfl) (by kernel_rfl) (by kernel_rfl) (held_met os _)) ?_
  intro w tape i _ _ _ hok hpre hholds
  obtain ⟨_, _, _, fn', hfn', _, _, _, _, hval⟩ := hok
  obtain rfl : Tryz.f3 = fn' := Option.some.inj (Tryz.func3.symm.trans hfn')
  obtain ⟨⟨⟨ds, gs, before, hw, hc⟩, hx⟩, hz⟩ := hpre
  have hw' := DataW.Whole.of_heap (w' := w.forCall tape i) (by rfl) hw
  have hL : laidMetH Tryz.prog Rows.checksRow.laid (w.forCall tape i) := hx.of_heap (by rfl)
  have hg := handle_of_laid hL
  generalize w.forCall tape i = W at *
  have hW := hw'
  obtain ⟨p, q, hA0, hV0, rfl, hfz, hnd⟩ := hw'
  have hA : DataW.TrodAll enc Tryz.prog W 0 (fun _ => true) true Tryz.f3.params.toList i.args.toList ds p := hA0
  rw [params3] at hA
  obtain ⟨v1, v2, d1, d2, p1, p2, ha, rfl, rfl, ⟨n1, h1⟩, ⟨n2, h2⟩⟩ := trodAll_two hA
  have hval' : ∀ (j : Nat) t v, Tryz.f3.params[j]? = some t → i.args[j]? = some v → Value.okWide Tryz.prog W .any w.heap.size t v := hval
  rw [params3, ha] at hval'
  obtain ⟨sL, n, capL, rfl, bL⟩ := slice_of u22 (hval' 0 22 v1 rfl rfl)
  obtain ⟨sa, m, cap, rfl, bC⟩ := slice_of u23 (hval' 1 23 v2 rfl rfl)
  obtain ⟨sL', n', capL', L, e1, hL'⟩ := open_lays h1
  obtain ⟨sa', m', cap', g, e2, hC'⟩ := open_clients h2
  have e1' : [Value.slice sL n capL] = [.slice sL' n' capL'] := e1
  have e2' : [Value.slice sa m cap] = [.slice sa' m' cap'] := e2
  simp only [List.cons.injEq, Value.slice.injEq, and_true] at e1' e2'
  obtain ⟨rfl, rfl, rfl⟩ := e1'
  obtain ⟨rfl, rfl, rfl⟩ := e2'
  have bT : ∀ i, i < m → 0 < (g i).nt → ∀ p : Addr, (g i).ta = some p → p.block < W.heap.size := fun k hk h0 p hp => by
    obtain ⟨b, o, _, _, _, hT⟩ := hC' k hk
    obtain ⟨b', o', e3, h3⟩ := hT 0 h0
    rw [e3] at hp
    cases hp
    exact lt_of_cell (h3 0 (by decide))
  obtain ⟨N, last, o, w', t', r1, r2, r3, r4⟩ := checks_run (capL := capL) (cap := cap) (lt_of_cell hg) hg hL' hC' bL bC bT
  rw [ha] at hW ⊢
  refine ⟨N, last, o, w', t', r1, r2, r3, r4.mono fun v hp => ?_⟩
  obtain ⟨rfl, hb⟩ := hp
  exact ChangeSpec.post_blind (checks_post hW hb)

theorem checks_holds : Rows.ChecksSaid :=
  OpenClaim.holds_of_wide_leaving 3 Tryz.f3 rfl rfl rfl rfl rfl rfl rfl ⟨rfl, rfl, rfl, rfl, rfl⟩ rfl rfl rfl rfl rfl (by kernel_rfl) Tryz.func3 (by kernel_rfl)
    (of_decide_eq_true (by kernel_rfl)) (by unfold Func.isWrapper; first | (rw [if_pos (by decide +kernel)]; kernel_rfl) | (rw [if_neg (by decide +kernel)]; exact ⟨rfl, rfl⟩))
    (fun os started H enc _ => checks_lifted os started H enc)

theorem checks_card : Rows.ChecksCardSaid := by
  have hl : ∀ f fn, Tryz.pinned.checked.prog.funcNamed Rows.checksRow.func = some f → Tryz.pinned.checked.prog.funcs[f]? = some fn → true = Tryz.pinned.checked.prog.looks [] ∧ ∀ (j : Nat) t, fn.params[j]? = some t → Tryz.pinned.checked.prog.wantsStandIn t = false := fun f fn hf hfn => by
    obtain rfl : f = 3 := Option.some.inj ((show Tryz.prog.funcNamed Tryz.f3.name = some 3 by kernel_rfl).symm.trans hf) |>.symm
    obtain rfl : fn = Tryz.f3 := (Option.some.inj (Tryz.func3.symm.trans hfn)).symm
    exact ⟨by kernel_rfl, fun j t ht => by
      rw [params3] at ht
      have h3 : t = 22 ∨ t = 23 := by
        rcases j with _ | _ | j
        · left; simpa using ht.symm
        · right; simpa using ht.symm
        · simp at ht
      rcases h3 with rfl | rfl
      · exact (show Tryz.prog.wantsStandIn 22 = false by kernel_rfl)
      · exact (show Tryz.prog.wantsStandIn 23 = false by kernel_rfl)⟩
  have h0 := Claim7.tied_new_at .later [LaidKind.handle] true (Claim7.new_of_sixth checks_holds (true, "0c89c787d4b98a4316ae03ebdf8092ff43dc2c86c76f3ceb993ca0c048420df6") true rfl ⟨rfl, rfl⟩ (by kernel_rfl) (by rfl) hl) (by kernel_rfl)
  exact ⟨h0, (fun D hD => by cases hD), checks_row_tie, (fun h => by cases h), (by kernel_rfl)⟩

end Go.Proofs.YtobagnjnbmgidaaGreatDoor
