/- Unlayered holds of the landed code: for every list of clients that may lie in memory, and on every schedule, the law returns true, without a data race, and leaves its argument as it reads before; at the return every other goroutine has ended or is only leaving.
Conditions: those of the given row and its card alone (the package-level variable errors.errorType starts as the program's text lays it, which the given tie shows; nothing else is asked). The texts before this one: the rules of the walk (Z1, G1, X8); several goroutines of which one at a time goes on, some sit, some have ended and count the group down (G6, M4 to M10); the agenda's entries (N1 to N5); Check (X30 to X34); a client's task from its start over its wait to its end (V1 to V12); the agenda's loop with any number of tasks, and the join (V13 to V24); Run (W5); the law's helpers and its loop (W6 to W11); what the argument holds (X34). -/
import Derived.Test.YtobagnjnbmgidaaGreatDoorW11
import Derived.Test.YtobagnjnbmgidaaGreatDoorX34
import Derived.Test.YtobagnjnbmgidaaGreatDoorRows
import Derived.Test.YtobagnjnbmgidaaGreatDoorTie
import Derived.Test.YtobagnjnbmgidaaGreatDoorCards
import Derived.Test.YtobagnjnbmgidaaGreatDoorG1
import Derived.ChangeBook
import Derived.ChangeSame
import Derived.LaidLaws
import Derived.LaidHandle
import Derived.Conc.LeavingOf
import Derived.JoinedOf
import Derived.SevenTiedAt
import Derived.ChangeVars
import Derived.Stop.Joined
set_option linter.unusedSimpArgs false
set_option linter.unusedVariables false
set_option maxRecDepth 100000
namespace Go.Proofs.YtobagnjnbmgidaaGreatDoor
open Go.Conc Go.RowKit Go.ChangeShapes Go.WideShapes

theorem laidOut : laidOutB Tryz.prog = true := by kernel_rfl
theorem rec23 : Tryz.prog.readableRec 23 = true := by kernel_rfl
theorem row23 : 23 < Tryz.prog.types.size := of_decide_eq_true (by kernel_rfl)
theorem params4 : Tryz.f4.params = #[23] := by kernel_rfl
theorem results4 : Tryz.f4.resultTypes = #[4] := by kernel_rfl
theorem u4 : Tryz.prog.underlying 4 = some .bool := by kernel_rfl

theorem etGlobal : Tryz.prog.globalNamed "errors.errorType" = some 0 := by kernel_rfl
theorem rtName : (Tryz.prog.cutTypes.find? (·.1 == "internal/reflectlite.rtype")).map (·.2) = some 217 := by kernel_rfl
theorem oneRow : ((List.range Tryz.prog.types.size).filter fun t => Tryz.prog.rowNamed t [101, 114, 114, 111, 114]) = [121] := by kernel_rfl

section
variable {H : Type} {enc : TypeId × Value → H}

theorem stays23 {W W' : World} {sp' : Nat → Bool} {v : Value} {d : DataW H} {ps : List MemPlace} (h : DataW.Trod enc Tryz.prog W 0 (fun _ => true) true 23 v d ps) (hsame : ∀ p ∈ ps, W.sameAt W' p) (hs : ∀ p ∈ ps, sp' p.block = true) : DataW.Trod enc Tryz.prog W' 0 sp' true 23 v d ps := by
  obtain ⟨n, h⟩ := h; exact ⟨n, DataW.trod_stays (kids_book laidOut rec23) (book_sized rec23) (fun h => by cases h) ⟨row23, book_self 23⟩ h hsame hs⟩

theorem unlayered_post {W W' : World} {args : Array Value} {ds gs : List (DataW H)} {before : List MemPlace} (hW : DataW.Whole enc Tryz.prog Tryz.f4.params.toList Rows.unlayeredSpec.vars false W args.toList ds gs before) (hb : Below W.heap.size W W') :
    Rows.unlayeredSpec.post enc Tryz.prog Tryz.f4 false true false false W args (.bool true) W' := by
  have hW' := hW; have hlt := hW.lt; obtain ⟨p, q, hA0, hV0, rfl, hfz, hnd⟩ := hW; have hA : DataW.TrodAll enc Tryz.prog W 0 (fun _ => true) true Tryz.f4.params.toList args.toList ds p := hA0; rw [params4] at hA; obtain ⟨v1, d1, rfl, rfl, h1⟩ := trodAll_one hA; have hV : DataW.TrodVars enc Tryz.prog W (fun _ => true) [] gs q := hV0; obtain ⟨rfl, rfl⟩ := trodVars_none hV; have l1 : ∀ x ∈ p, x.block < W.heap.size := fun x hx => hlt x (by simp [hx])
  refine ⟨_, _, _, [], p, [], hW', ?_, ?_, rfl, hb.frame _, fun h => by cases h⟩
  · rw [results4]
    exact trodAll_mk1 (shut_bool u4 true)
  · rw [params4]
    exact trodAll_mk1 (stays23 h1 (fun p hp => hb.same (l1 p hp)) (fun p hp => by simpa using l1 p hp))

theorem handle_of_laid {W : World} (h : laidMetH Tryz.prog Rows.unlayeredRow.laid W) : W.cell? ⟨0, 0, none⟩ = some (.iface 217 (.agg #[.pointer (some ⟨1, 121, none⟩)])) := by
  have h' : laidMet Tryz.prog [] W ∧ handlesMet Tryz.prog Rows.unlayeredRow.laid W := h; obtain ⟨name, u, ty, e1, e2, e3, e4, e5⟩ := h'.2 _ (List.mem_singleton.2 rfl); have en : name = [101, 114, 114, 111, 114] := (Option.some.inj e1).symm; subst en; obtain rfl := Option.some.inj (rtName.symm.trans e2); have hm : ty ∈ (List.range Tryz.prog.types.size).filter fun t => Tryz.prog.rowNamed t [101, 114, 114, 111, 114] := List.mem_filter.2 ⟨List.mem_range.2 e3, e4⟩
  rw [oneRow] at hm; obtain rfl := List.mem_singleton.1 hm; have hh : typeHandle Tryz.prog 121 = .pointer (some ⟨1, 121, none⟩) := by kernel_rfl
  rw [hh] at e5
  simpa using World.var?_cell etGlobal e5 0
end

theorem unlayered_run {W : World} {sa : Option Addr} {n cap : Nat} {g : Nat → Cl} (h : AskN W sa n g) :
    Goal Tryz.prog (fun v W' => v = .bool true ∧ Below W.heap.size W W') (solo (G (Frame.enter Tryz.prog 4 #[.slice sa n cap] .normal) []) W) #[] :=
  goal_start (K := Old W) (Old.of (Below.refl _ _)) (fun x h => h) (unlayered_at h (fun w' ho => ⟨rfl, ho.below⟩))

theorem slice_of {W : World} {base : Nat} {t e : TypeId} {v : Value} (ht : Tryz.prog.underlying t = some (.slice e)) (h : Value.okWide Tryz.prog W .any base t v) : ∃ sa n cap, v = .slice sa n cap ∧ ∀ p : Addr, sa = some p → p.block < W.heap.size := by
  cases v <;> simp [Value.okWide, Cell.okWide, Cell.ok, ht] at h
  rename_i sa n cap
  refine ⟨sa, n, cap, rfl, fun p hp => ?_⟩; subst hp; simp [Value.okWide, Cell.okWide, Cell.ok, ht, World.has] at h; obtain ⟨_, _, _, _, row, cells, hs, _⟩ := h; unfold World.shape? at hs; cases hb : W.heap[p.block]? with
  | none => rw [hb] at hs; simp at hs
  | some o => exact (Array.getElem?_eq_some_iff.1 hb).1

theorem ownKnob4 : ownKnob Tryz.prog.godebug = none := by kernel_rfl

/-- A world in which the variable holds its handle. -/
def heldIn (w : World) : World := { w with heap := w.heap.modify 0 fun o => match o with | .cells _ t fr => .cells #[.iface 217 (.agg #[.pointer (some ⟨1, 121, none⟩)])] t fr | o => o }
theorem held_met (os : Os) (args : Array Value) : laidMetH Tryz.prog Rows.unlayeredRow.laid ((heldIn (World.holding Tryz.prog os ⟨#[], #[], []⟩)).forCall (fun _ _ => 0) ⟨#[], args, []⟩).memory :=
  laidMetH_of_parts (laidMet_nil _ _) (by kernel_rfl)

theorem unlayered_lifted (os : Os) (started : os.Started) (H : Type) (enc : TypeId × Value → H) :
    ReturnsInLeavingWide {} Tryz.checked os 4 .any (fun w args => (Rows.unlayeredSpec.pre enc Tryz.prog Tryz.f4 [] false w args ∧ laidMetH Tryz.prog Rows.unlayeredRow.laid w) ∧ sizedMet enc Tryz.prog Tryz.f4 (OpenSpec.ofChange Rows.unlayeredSpec) false w args)
      (Rows.unlayeredSpec.post enc Tryz.prog Tryz.f4 false true false false) := by
  refine returnsInLeavingWide_of_good (C := Tryz.checked) ownKnob4 started
    (ChangeSpec.witness_at (enc := enc) (C := Tryz.checked) (os := os) (X := fun w _ => laidMetH Tryz.prog Rows.unlayeredRow.laid w) false (heldIn (World.holding Tryz.prog os ⟨#[], #[], []⟩)) #[.slice none 0 0] 8 rfl (by kernel_rfl) (by kernel_rfl) (by kernel_rfl) (by kernel_rfl) (by kernel_rfl) (held_met os _)) ?_
  intro w tape i _ _ _ hok hpre hholds; obtain ⟨_, _, _, fn', hfn', _, _, _, _, hval⟩ := hok; obtain rfl : Tryz.f4 = fn' := Option.some.inj (Tryz.func4.symm.trans hfn'); obtain ⟨⟨⟨ds, gs, before, hw, hc⟩, hx⟩, hz⟩ := hpre; have hw' := DataW.Whole.of_heap (w' := w.forCall tape i) (by rfl) hw; have hL : laidMetH Tryz.prog Rows.unlayeredRow.laid (w.forCall tape i) := hx.of_heap (by rfl); have hg := handle_of_laid hL; generalize w.forCall tape i = W at *; have hW := hw'; obtain ⟨p, q, hA0, hV0, rfl, hfz, hnd⟩ := hw'; have hA : DataW.TrodAll enc Tryz.prog W 0 (fun _ => true) true Tryz.f4.params.toList i.args.toList ds p := hA0; rw [params4] at hA; obtain ⟨v1, d1, ha, rfl, ⟨n1, h1⟩⟩ := trodAll_one hA; have hval' : ∀ (j : Nat) t v, Tryz.f4.params[j]? = some t → i.args[j]? = some v → Value.okWide Tryz.prog W .any w.heap.size t v := hval; rw [params4, ha] at hval'; obtain ⟨sa, m, cap, rfl, bC⟩ := slice_of u23 (hval' 0 23 v1 rfl rfl); obtain ⟨sa', m', cap', g, e2, hC'⟩ := open_clients h1; have e2' : [Value.slice sa m cap] = [.slice sa' m' cap'] := e2; simp only [List.cons.injEq, Value.slice.injEq, and_true] at e2'; obtain ⟨rfl, rfl, rfl⟩ := e2'
  have bT : ∀ i, i < m → 0 < (g i).nt → ∀ p : Addr, (g i).ta = some p → p.block < W.heap.size := fun k hk h0 p hp => by
    obtain ⟨b, o, _, _, _, hT⟩ := hC' k hk; obtain ⟨b', o', e3, h3⟩ := hT 0 h0; rw [e3] at hp; cases hp
    exact lt_of_cell (h3 0 (by decide))
  obtain ⟨N, last, o, w', t', r1, r2, r3, r4⟩ := unlayered_run (cap := cap) ⟨hC', bC, bT, lt_of_cell hg, hg⟩; rw [ha] at hW ⊢; refine ⟨N, last, o, w', t', r1, r2, r3, r4.mono fun v hp => ?_⟩; obtain ⟨rfl, hb⟩ := hp; exact ChangeSpec.post_blind (unlayered_post hW hb)

theorem unlayered_holds : Rows.UnlayeredSaid :=
  OpenClaim.holds_of_wide_leaving 4 Tryz.f4 rfl rfl rfl rfl rfl rfl rfl ⟨rfl, rfl, rfl, rfl, rfl⟩ rfl rfl rfl rfl rfl (by kernel_rfl) Tryz.func4 (by kernel_rfl)
    (of_decide_eq_true (by kernel_rfl)) (by unfold Func.isWrapper; first | (rw [if_pos (by decide +kernel)]; kernel_rfl) | (rw [if_neg (by decide +kernel)]; exact ⟨rfl, rfl⟩))
    (fun os started H enc _ => unlayered_lifted os started H enc)

theorem unlayered_card : Rows.UnlayeredCardSaid := by
  have hl : ∀ f fn, Tryz.pinned.checked.prog.funcNamed Rows.unlayeredRow.func = some f → Tryz.pinned.checked.prog.funcs[f]? = some fn → true = Tryz.pinned.checked.prog.looks [] ∧ ∀ (j : Nat) t, fn.params[j]? = some t → Tryz.pinned.checked.prog.wantsStandIn t = false := fun f fn hf hfn => by
    obtain rfl : f = 4 := Option.some.inj ((show Tryz.prog.funcNamed Tryz.f4.name = some 4 by kernel_rfl).symm.trans hf) |>.symm; obtain rfl : fn = Tryz.f4 := (Option.some.inj (Tryz.func4.symm.trans hfn)).symm
    exact ⟨by kernel_rfl, fun j t ht => by
      rw [params4] at ht
      have h3 : t = 23 := by
        rcases j with _ | j
        · simpa using ht.symm
        · simp at ht
      subst h3; exact (show Tryz.prog.wantsStandIn 23 = false by kernel_rfl)⟩
  have h0 := Claim7.tied_new_at .later [LaidKind.handle] true (Claim7.new_of_sixth unlayered_holds (true, "0c89c787d4b98a4316ae03ebdf8092ff43dc2c86c76f3ceb993ca0c048420df6") true rfl ⟨rfl, rfl⟩ (by kernel_rfl) (by rfl) hl) (by kernel_rfl); exact ⟨h0, (fun D hD => by cases hD), unlayered_row_tie, (fun h => by cases h), (by kernel_rfl)⟩
end Go.Proofs.YtobagnjnbmgidaaGreatDoor
