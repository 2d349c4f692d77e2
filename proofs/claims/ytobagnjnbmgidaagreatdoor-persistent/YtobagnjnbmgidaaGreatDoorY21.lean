/- Persistent holds of the landed code: for every layer (its kind is set to Retry) and every client that may lie in memory, and on every schedule, the law returns true, without a data race, and leaves both arguments as they read before; at the return every other goroutine has ended or is only leaving.
Conditions: those of the given row and its card alone (the package-level variable errors.errorType starts as the program's text lays it, which the given tie shows; nothing else is asked). The texts before this one: the rules of the walk (X1, G1, G6, X8), agenda, task and layers (X11 to X24, Y2 to Y10: the backend, the retry, a panic that goes outwards and is recovered, the chain of an error, Call), Check (X30 to X34), Stack, New, Begin, the agenda's loop, the group's join and Run (X36 to X51, Y11), the law's helpers and its loop (Y13 to Y20), what the arguments hold (X55). -/
import Derived.Test.YtobagnjnbmgidaaGreatDoorY19
import Derived.Test.YtobagnjnbmgidaaGreatDoorX55
import Derived.Test.YtobagnjnbmgidaaGreatDoorRows
import Derived.Test.YtobagnjnbmgidaaGreatDoorTie
import Derived.Test.YtobagnjnbmgidaaGreatDoorCards
import Derived.Test.YtobagnjnbmgidaaGreatDoorG1
import Derived.ChangeBook
import Derived.ChangeSame
import Derived.LaidLaws
import Derived.LaidHandle
import Derived.Conc.LeavingOf
import Derived.JoinedOf
import Derived.SevenTiedAt
import Derived.ChangeVars
import Derived.Stop.Joined
set_option linter.unusedSimpArgs false
set_option linter.unusedVariables false
namespace Go.Proofs.YtobagnjnbmgidaaGreatDoor
open Go.Conc Go.RowKit Go.ChangeShapes Go.WideShapes

theorem laidOut : laidOutB Tryz.prog = true := by kernel_rfl
theorem rec51 : Tryz.prog.readableRec 51 = true := by kernel_rfl
theorem rec43 : Tryz.prog.readableRec 43 = true := by kernel_rfl
theorem row51 : 51 < Tryz.prog.types.size := of_decide_eq_true (by kernel_rfl)
theorem row43 : 43 < Tryz.prog.types.size := of_decide_eq_true (by kernel_rfl)
theorem params5 : Tryz.f5.params = #[51, 43] := by kernel_rfl
theorem results5 : Tryz.f5.resultTypes = #[4] := by kernel_rfl
theorem u4 : Tryz.prog.underlying 4 = some .bool := by kernel_rfl

theorem etGlobal : Tryz.prog.globalNamed "errors.errorType" = some 0 := by kernel_rfl
theorem rtName : (Tryz.prog.cutTypes.find? (·.1 == "internal/reflectlite.rtype")).map (·.2) = some 217 := by kernel_rfl
theorem oneRow : ((List.range Tryz.prog.types.size).filter fun t => Tryz.prog.rowNamed t [101, 114, 114, 111, 114]) = [121] := by kernel_rfl

section
variable {H : Type} {enc : TypeId × Value → H}

theorem stays51 {W W' : World} {sp' : Nat → Bool} {v : Value} {d : DataW H} {ps : List MemPlace} (h : DataW.Trod enc Tryz.prog W 0 (fun _ => true) true 51 v d ps) (hsame : ∀ p ∈ ps, W.sameAt W' p) (hs : ∀ p ∈ ps, sp' p.block = true) : DataW.Trod enc Tryz.prog W' 0 sp' true 51 v d ps := by
  obtain ⟨n, h⟩ := h
  exact ⟨n, DataW.trod_stays (kids_book laidOut rec51) (book_sized rec51) (fun h => by cases h) ⟨row51, book_self 51⟩ h hsame hs⟩
theorem stays43 {W W' : World} {sp' : Nat → Bool} {v : Value} {d : DataW H} {ps : List MemPlace} (h : DataW.Trod enc Tryz.prog W 0 (fun _ => true) true 43 v d ps) (hsame : ∀ p ∈ ps, W.sameAt W' p) (hs : ∀ p ∈ ps, sp' p.block = true) : DataW.Trod enc Tryz.prog W' 0 sp' true 43 v d ps := by
  obtain ⟨n, h⟩ := h
  exact ⟨n, DataW.trod_stays (kids_book laidOut rec43) (book_sized rec43) (fun h => by cases h) ⟨row43, book_self 43⟩ h hsame hs⟩

theorem persistent_post {W W' : World} {args : Array Value} {ds gs : List (DataW H)} {before : List MemPlace} (hW : DataW.Whole enc Tryz.prog Tryz.f5.params.toList Rows.persistentSpec.vars false W args.toList ds gs before) (hb : Below W.heap.size W W') :
    Rows.persistentSpec.post enc Tryz.prog Tryz.f5 false true false false W args (.bool true) W' := by
  have hW' := hW
  have hlt := hW.lt
  obtain ⟨p, q, hA0, hV0, rfl, hfz, hnd⟩ := hW
  have hA : DataW.TrodAll enc Tryz.prog W 0 (fun _ => true) true Tryz.f5.params.toList args.toList ds p := hA0
  rw [params5] at hA
  obtain ⟨v1, v2, d1, d2, p1, p2, rfl, rfl, rfl, h1, h2⟩ := trodAll_two hA
  have hV : DataW.TrodVars enc Tryz.prog W (fun _ => true) [] gs q := hV0
  obtain ⟨rfl, rfl⟩ := trodVars_none hV
  have l1 : ∀ p ∈ p1, p.block < W.heap.size := fun p hp => hlt p (by simp [hp])
  have l2 : ∀ p ∈ p2, p.block < W.heap.size := fun p hp => hlt p (by simp [hp])
  refine ⟨_, _, _, [], p1 ++ p2, [], hW', ?_, ?_, rfl, hb.frame _, fun h => by cases h⟩
  · rw [results5]
    exact trodAll_mk1 (shut_bool u4 true)
  · rw [params5]
    exact trodAll_mk2 (stays51 h1 (fun p hp => hb.same (l1 p hp)) (fun p hp => by simpa using l1 p hp)) (stays43 h2 (fun p hp => hb.same (l2 p hp)) (fun p hp => by simpa using l2 p hp))

/-- The variable that errors.As reads. -/
theorem handle_of_laid {W : World} (h : laidMetH Tryz.prog Rows.persistentRow.laid W) : W.cell? ⟨0, 0, none⟩ = some (.iface 217 (.agg #[.pointer (some ⟨1, 121, none⟩)])) := by
  have h' : laidMet Tryz.prog [] W ∧ handlesMet Tryz.prog Rows.persistentRow.laid W := h
  obtain ⟨name, u, ty, e1, e2, e3, e4, e5⟩ := h'.2 _ (List.mem_singleton.2 rfl)
  have en : name = [101, 114, 114, 111, 114] := (Option.some.inj e1).symm
  subst en
  obtain rfl := Option.some.inj (rtName.symm.trans e2)
  have hm : ty ∈ (List.range Tryz.prog.types.size).filter fun t => Tryz.prog.rowNamed t [101, 114, 114, 111, 114] := List.mem_filter.2 ⟨List.mem_range.2 e3, e4⟩
  rw [oneRow] at hm
  obtain rfl := List.mem_singleton.1 hm
  have hh : typeHandle Tryz.prog 121 = .pointer (some ⟨1, 121, none⟩) := by kernel_rfl
  rw [hh] at e5
  simpa using World.var?_cell etGlobal e5 0
end

theorem persistent_run {W : World} (kk a bb cc d ee st : Int) (ta : Option Addr) (nt cap : Nat) (TT : Nat → Nat → Int) (i0 : 0 < W.heap.size) (hg : W.cell? ⟨0, 0, none⟩ = some (.iface 217 (.agg #[.pointer (some ⟨1, 121, none⟩)]))) (hT : TurnsAt W ta nt TT) (bT : 0 < nt → ∀ p : Addr, ta = some p → p.block < W.heap.size) :
    Goal Tryz.prog (fun v W' => v = .bool true ∧ Below W.heap.size W W') (solo (G (Frame.enter Tryz.prog 5 #[.agg #[.int .i64 kk, .int .i64 a, .int .i64 bb, .int .i64 cc, .int .i64 d, .int .i64 ee], .agg #[.int .i64 st, .slice ta nt cap]] .normal) []) W) #[] :=
  goal_start (K := Old W) (Old.of (Below.refl _ _)) (fun x h => h) (persistent_at kk a bb cc d ee st ta nt cap TT i0 hg hT bT (fun w' ho => ⟨rfl, ho.below⟩))

def isStruct (d : Option TypeDesc) : Bool := match d with | some (.struct _) => true | _ => false
theorem s51 : isStruct (Tryz.prog.underlying 51) = true := by kernel_rfl
theorem s43 : isStruct (Tryz.prog.underlying 43) = true := by kernel_rfl
set_option maxRecDepth 100000 in
theorem agg_of {W : World} {base : Nat} {t : TypeId} {v : Value} (hs : isStruct (Tryz.prog.underlying t) = true) (h : Value.okWide Tryz.prog W .any base t v) : ∃ cs, v = .agg cs ∧ cs.size = Tryz.prog.cellsOf t ∧ True := by
  unfold Value.okWide at h
  cases hu : Tryz.prog.underlying t with
  | none => rw [hu] at hs; cases hs
  | some u =>
    rw [hu] at h hs
    cases u <;> first | (cases hs; done) | (obtain ⟨cs, h1, h2, _⟩ := h; exact ⟨cs, h1, h2, trivial⟩)

section
variable {H : Type} {enc : TypeId × Value → H} {W : World} {sp : Nat → Bool} {hd : Bool}
theorem open_layer {cs : Array Value} {fuel : Nat} {x : DataW H × List MemPlace} (hz : cs.size = 6) (h : DataW.trod enc Tryz.prog W 0 sp hd fuel 51 (Value.agg cs).cells.toList = some x) : ∃ k a b c d e, cs = #[.int .i64 k, .int .i64 a, .int .i64 b, .int .i64 c, .int .i64 d, .int .i64 e] := by
  have each : ∀ j, j < 6 → ∃ m, cs[j]? = some (.int .i64 m) := fun j hj => by
    obtain ⟨v, n', y, h4, h5⟩ := field_read (j := j) (o := j) (by rw [f51]; match j, hj with | 0, _ => rfl | 1, _ => rfl | 2, _ => rfl | 3, _ => rfl | 4, _ => rfl | 5, _ => rfl) c3 (by rw [c51]; exact hj) h
    obtain ⟨m, e1, _, _⟩ := DataW.trod_int u3 h5
    simp only [List.cons.injEq, and_true] at e1
    subst e1
    exact ⟨m, by simpa [Value.cells] using h4⟩
  obtain ⟨k, h0⟩ := each 0 (by decide)
  obtain ⟨a, h1⟩ := each 1 (by decide)
  obtain ⟨b, h2⟩ := each 2 (by decide)
  obtain ⟨c, h3⟩ := each 3 (by decide)
  obtain ⟨d, h4⟩ := each 4 (by decide)
  obtain ⟨e, h5⟩ := each 5 (by decide)
  refine ⟨k, a, b, c, d, e, Array.ext (by simp [hz]) fun i h _ => ?_⟩
  have hi : i < 6 := by omega
  have := Array.getElem?_eq_getElem h
  match i, hi with
  | 0, _ => rw [h0] at this; simpa using (Option.some.inj this).symm
  | 1, _ => rw [h1] at this; simpa using (Option.some.inj this).symm
  | 2, _ => rw [h2] at this; simpa using (Option.some.inj this).symm
  | 3, _ => rw [h3] at this; simpa using (Option.some.inj this).symm
  | 4, _ => rw [h4] at this; simpa using (Option.some.inj this).symm
  | 5, _ => rw [h5] at this; simpa using (Option.some.inj this).symm
theorem open_client {cs : Array Value} {fuel : Nat} {x : DataW H × List MemPlace} (hz : cs.size = 2) (h : DataW.trod enc Tryz.prog W 0 sp hd fuel 43 (Value.agg cs).cells.toList = some x) : ∃ st ta nt cap T, cs = #[.int .i64 st, .slice ta nt cap] ∧ TurnsAt W ta nt T := by
  obtain ⟨v, n1, y, h4, h5⟩ := field_read (j := 0) (o := 0) (by rw [f43]; rfl) c3 (by rw [c43]; decide) h
  obtain ⟨v', n2, y', h6, h7⟩ := field_read (j := 1) (o := 1) (by rw [f43]; rfl) c41 (by rw [c43]; decide) h
  obtain ⟨m, e1, _, _⟩ := DataW.trod_int u3 h5
  obtain ⟨sa, q, cap', T, e2, hT⟩ := open_turns h7
  simp only [List.cons.injEq, and_true] at e1 e2
  subst e1
  subst e2
  have h0 : cs[0]? = some (.int .i64 m) := by simpa [Value.cells] using h4
  have h1 : cs[1]? = some (.slice sa q cap') := by simpa [Value.cells] using h6
  refine ⟨m, sa, q, cap', T, Array.ext (by simp [hz]) fun i h _ => ?_, hT⟩
  have hi : i < 2 := by omega
  have := Array.getElem?_eq_getElem h
  match i, hi with
  | 0, _ => rw [h0] at this; simpa using (Option.some.inj this).symm
  | 1, _ => rw [h1] at this; simpa using (Option.some.inj this).symm
end

theorem ownKnob5 : ownKnob Tryz.prog.godebug = none := by kernel_rfl

/-- A world in which the variable holds its handle. -/
def heldIn (w : World) : World := { w with heap := w.heap.modify 0 fun o => match o with | .cells _ t fr => .cells #[.iface 217 (.agg #[.pointer (some ⟨1, 121, none⟩)])] t fr | o => o }
theorem held_met (os : Os) (args : Array Value) : laidMetH Tryz.prog Rows.persistentRow.laid ((heldIn (World.holding Tryz.prog os ⟨#[], #[], []⟩)).forCall (fun _ _ => 0) ⟨#[], args, []⟩).memory :=
  laidMetH_of_parts (laidMet_nil _ _) (by kernel_rfl)

set_option maxRecDepth 100000 in
theorem persistent_lifted (os : Os) (started : os.Started) (H : Type) (enc : TypeId × Value → H) :
    ReturnsInLeavingWide {} Tryz.checked os 5 .any (fun w args => (Rows.persistentSpec.pre enc Tryz.prog Tryz.f5 [] false w args ∧ laidMetH Tryz.prog Rows.persistentRow.laid w) ∧ sizedMet enc Tryz.prog Tryz.f5 (OpenSpec.ofChange Rows.persistentSpec) false w args)
      (Rows.persistentSpec.post enc Tryz.prog Tryz.f5 false true false false) := by
  refine returnsInLeavingWide_of_good (C := Tryz.checked) ownKnob5 started
    (ChangeSpec.witness_at (enc := enc) (C := Tryz.checked) (os := os) (X := fun w _ => laidMetH Tryz.prog Rows.persistentRow.laid w) false (heldIn (World.holding Tryz.prog os ⟨#[], #[], []⟩)) #[.agg #[.int .i64 0, .int .i64 0, .int .i64 0, .int .i64 0, .int .i64 0, .int .i64 0], .agg #[.int .i64 0, .slice none 0 0]] 8 rfl (by kernel_rfl) (by kernel_rfl) (by kernel_rfl) (by kernel_rfl) (by kernel_rfl) (held_met os _)) ?_
  intro w tape i _ _ _ hok hpre hholds
  obtain ⟨_, _, _, fn', hfn', _, _, _, _, hval⟩ := hok
  obtain rfl : Tryz.f5 = fn' := Option.some.inj (Tryz.func5.symm.trans hfn')
  obtain ⟨⟨⟨ds, gs, before, hw, hc⟩, hx⟩, hz⟩ := hpre
  have hw' := DataW.Whole.of_heap (w' := w.forCall tape i) (by rfl) hw
  have hL : laidMetH Tryz.prog Rows.persistentRow.laid (w.forCall tape i) := hx.of_heap (by rfl)
  have hg := handle_of_laid hL
  generalize w.forCall tape i = W at *
  have hW := hw'
  obtain ⟨p, q, hA0, hV0, rfl, hfz, hnd⟩ := hw'
  have hA : DataW.TrodAll enc Tryz.prog W 0 (fun _ => true) true Tryz.f5.params.toList i.args.toList ds p := hA0
  rw [params5] at hA
  obtain ⟨v1, v2, d1, d2, p1, p2, ha, rfl, rfl, ⟨n1, h1⟩, ⟨n2, h2⟩⟩ := trodAll_two hA
  have hval' : ∀ (j : Nat) t v, Tryz.f5.params[j]? = some t → i.args[j]? = some v → Value.okWide Tryz.prog W .any w.heap.size t v := hval
  rw [params5, ha] at hval'
  obtain ⟨cs1, rfl, z1⟩ : ∃ cs, v1 = .agg cs ∧ cs.size = 6 := by
    obtain ⟨cs, h1, h2, _⟩ := (agg_of s51 (hval' 0 51 v1 rfl rfl))
    exact ⟨cs, h1, by rw [h2]; exact c51⟩
  obtain ⟨cs2, rfl, z2⟩ : ∃ cs, v2 = .agg cs ∧ cs.size = 2 := by
    obtain ⟨cs, h1, h2, _⟩ := (agg_of s43 (hval' 1 43 v2 rfl rfl))
    exact ⟨cs, h1, by rw [h2]; exact c43⟩
  obtain ⟨kk, a, bb, cc, d, ee, rfl⟩ := open_layer z1 h1
  obtain ⟨st, ta, nt, cap, TT, rfl, hT⟩ := open_client z2 h2
  have bT : 0 < nt → ∀ p : Addr, ta = some p → p.block < W.heap.size := fun h0 p hp => by
    obtain ⟨b', o', e3, h3⟩ := hT 0 h0
    rw [e3] at hp
    cases hp
    exact lt_of_cell (h3 0 (by decide))
  obtain ⟨N, last, o, w', t', r1, r2, r3, r4⟩ := persistent_run kk a bb cc d ee st ta nt cap TT (lt_of_cell hg) hg hT bT
  rw [ha] at hW ⊢
  refine ⟨N, last, o, w', t', r1, r2, r3, r4.mono fun v hp => ?_⟩
  obtain ⟨rfl, hb⟩ := hp
  exact ChangeSpec.post_blind (persistent_post hW hb)

theorem persistent_holds : Rows.PersistentSaid :=
  OpenClaim.holds_of_wide_leaving 5 Tryz.f5 rfl rfl rfl rfl rfl rfl rfl ⟨rfl, rfl, rfl, rfl, rfl⟩ rfl rfl rfl rfl rfl (by kernel_rfl) Tryz.func5 (by kernel_rfl)
    (of_decide_eq_true (by kernel_rfl)) (by unfold Func.isWrapper; first | (rw [if_pos (by decide +kernel)]; kernel_rfl) | (rw [if_neg (by decide +kernel)]; exact ⟨rfl, rfl⟩))
    (fun os started H enc _ => persistent_lifted os started H enc)

theorem persistent_card : Rows.PersistentCardSaid := by
  have hl : ∀ f fn, Tryz.pinned.checked.prog.funcNamed Rows.persistentRow.func = some f → Tryz.pinned.checked.prog.funcs[f]? = some fn → true = Tryz.pinned.checked.prog.looks [] ∧ ∀ (j : Nat) t, fn.params[j]? = some t → Tryz.pinned.checked.prog.wantsStandIn t = false := fun f fn hf hfn => by
    obtain rfl : f = 5 := Option.some.inj ((show Tryz.prog.funcNamed Tryz.f5.name = some 5 by kernel_rfl).symm.trans hf) |>.symm
    obtain rfl : fn = Tryz.f5 := (Option.some.inj (Tryz.func5.symm.trans hfn)).symm
    exact ⟨by kernel_rfl, fun j t ht => by
      rw [params5] at ht
      have h3 : t = 51 ∨ t = 43 := by
        rcases j with _ | _ | j
        · left; simpa using ht.symm
        · right; simpa using ht.symm
        · simp at ht
      rcases h3 with rfl | rfl
      · exact (show Tryz.prog.wantsStandIn 51 = false by kernel_rfl)
      · exact (show Tryz.prog.wantsStandIn 43 = false by kernel_rfl)⟩
  have h0 := Claim7.tied_new_at .later [LaidKind.handle] true (Claim7.new_of_sixth persistent_holds (true, "0c89c787d4b98a4316ae03ebdf8092ff43dc2c86c76f3ceb993ca0c048420df6") true rfl ⟨rfl, rfl⟩ (by kernel_rfl) (by rfl) hl) (by kernel_rfl)
  exact ⟨h0, (fun D hD => by cases hD), persistent_row_tie, (fun h => by cases h), (by kernel_rfl)⟩

end Go.Proofs.YtobagnjnbmgidaaGreatDoor
