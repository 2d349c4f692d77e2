/- slices.Insert of one entry, wherever. -/
import Derived.Test.YtobagnjnbmgidaaGreatDoorN1
set_option linter.unusedSimpArgs false
set_option linter.unusedVariables false
set_option maxHeartbeats 8000000
set_option maxRecDepth 100000
namespace Go.Proofs.YtobagnjnbmgidaaGreatDoor
open Go.Conc Go.RowKit
variable {main : Bool} {Ok : Addr → Bool → Prop}

theorem sl_from (w : World) {E off q cap : Nat} {l : Int} {L : Nat} (hl : l = L) (h1 : L ≤ q) (h2 : q ≤ cap) : (Instr.sliceAt 100 (.slice (some ⟨E, off, none⟩) q cap) (some (.int .i64 l)) none none).run Tryz.prog w = .ok (.slice (some (if cap = L then ⟨E, off, none⟩ else ⟨E, off + L * 2, none⟩)) (q - L) (cap - L)) w ∧
    (Instr.sliceAt 100 (.slice (some ⟨E, off, none⟩) q cap) (some (.int .i64 l)) none none).events Tryz.prog w #[] = #[] := by
  obtain ⟨inf, z, i1, i2, i3, i4, i5⟩ := inf128; subst hl; have h3 : (L : Int) ≤ (q : Int) := by omega
  constructor
  · simp [Instr.sliceAt, run_underlying und100, Instr.slice, Instr.sliceBounds, Instr.sliceBound, asInt, asIntOf, sizeOf, typeInfo, i1, i3, h3, h1, Addr.add_lit]
    split <;> rfl
  · simp [Instr.sliceAt, run_underlying und100, Instr.slice, Instr.sliceBounds, Instr.sliceBound, asInt, asIntOf, sizeOf, typeInfo, i1, i3, h3, h1]
theorem sl_to (w : World) {b : Addr} {q cap : Nat} {l : Int} {L : Nat} (hl : l = L) (h1 : L ≤ cap) : (Instr.sliceAt 100 (.slice (some b) q cap) none (some (.int .i64 l)) none).run Tryz.prog w = .ok (.slice (some b) L cap) w ∧
    (Instr.sliceAt 100 (.slice (some b) q cap) none (some (.int .i64 l)) none).events Tryz.prog w #[] = #[] := by
  obtain ⟨inf, z, i1, i2, i3, i4, i5⟩ := inf128; subst hl; have h3 : (L : Int) ≤ (cap : Int) := by omega
  have h4 : b.add 0 = b := by cases b with | mk x y s => cases s <;> simp [Addr.add]
  constructor
  · simp [Instr.sliceAt, run_underlying und100, Instr.slice, Instr.sliceBounds, Instr.sliceBound, asInt, asIntOf, sizeOf, typeInfo, i1, i3, h3, h1, h4]
  · simp [Instr.sliceAt, run_underlying und100, Instr.slice, Instr.sliceBounds, Instr.sliceBound, asInt, asIntOf, sizeOf, typeInfo, i1, i3, h3, h1]

def spl (R : Array Value) (p : Nat) (vs : List Value) : Array Value := (R.toList.take p ++ vs ++ R.toList.drop (p + vs.length)).toArray
theorem spl_size {R : Array Value} {p : Nat} {vs : List Value} (h : p + vs.length ≤ R.size) : (spl R p vs).size = R.size := splice_size R p vs h
theorem ins_get {R R1 R2 : Array Value} {o i q : Nat} {xs nw : List Value} (hx : xs.length = 2 * q) (hi : i ≤ q) (hn : nw.length = 2) (hfit : o + 2 * (q + 1) ≤ R.size) (h0 : ∀ (j : Nat) (u : Value), j < 2 * i → xs[j]? = some u → R[o + j]? = some u)
    (h : (R1 = spl R (o + i * 2) nw ∧ R2 = spl R1 (o + (i + 1) * 2) (xs.drop (2 * i))) ∨ (R1 = spl R (o + (i + 1) * 2) (xs.drop (2 * i)) ∧ R2 = spl R1 (o + i * 2) nw)) :
    ∀ (j : Nat) (u : Value), (xs.take (2 * i) ++ (nw ++ xs.drop (2 * i)))[j]? = some u → R2[o + j]? = some u := by
  have hd : (xs.drop (2 * i)).length = 2 * q - 2 * i := by simp; omega
  have ht : (xs.take (2 * i)).length = 2 * i := by simp; omega
  intro j u hu
  have key : R2[o + j]? = if j < 2 * i then R[o + j]? else if j < 2 * i + 2 then nw[j - 2 * i]? else if j < 2 * q + 2 then (xs.drop (2 * i))[j - (2 * i + 2)]? else R[o + j]? := by
    rcases h with ⟨rfl, rfl⟩ | ⟨rfl, rfl⟩
    · have s1 : (spl R (o + i * 2) nw).size = R.size := spl_size (by omega)
      rw [spl, splice_get _ _ _ (by rw [s1, hd]; omega), hd]
      by_cases c1 : j < 2 * i
      · rw [if_pos (by omega), if_pos c1, spl, splice_get _ _ _ (by omega), if_pos (by omega)]
      · rw [if_neg c1]
        by_cases c2 : j < 2 * i + 2
        · rw [if_pos (by omega), if_pos c2, spl, splice_get _ _ _ (by omega), if_neg (by omega), if_pos (by omega)]
          congr 1; omega
        · rw [if_neg (by omega), if_neg c2]
          by_cases c3 : j < 2 * q + 2
          · rw [if_pos (by omega), if_pos c3]
            congr 1; omega
          · rw [if_neg (by omega), if_neg c3, spl, splice_get _ _ _ (by omega), if_neg (by omega), if_neg (by omega)]
    · have s1 : (spl R (o + (i + 1) * 2) (xs.drop (2 * i))).size = R.size := spl_size (by rw [hd]; omega)
      rw [spl, splice_get _ _ _ (by rw [s1]; omega)]
      by_cases c1 : j < 2 * i
      · rw [if_pos (by omega), if_pos c1, spl, splice_get _ _ _ (by rw [hd]; omega), if_pos (by omega)]
      · rw [if_neg (by omega), if_neg c1]
        by_cases c2 : j < 2 * i + 2
        · rw [if_pos (by omega), if_pos c2]
          congr 1; omega
        · rw [if_neg (by omega), if_neg c2, spl, splice_get _ _ _ (by rw [hd]; omega), if_neg (by omega), hd]
          by_cases c3 : j < 2 * q + 2
          · rw [if_pos (by omega), if_pos c3]
            congr 1; omega
          · rw [if_neg (by omega), if_neg c3]
  rw [key]
  by_cases c1 : j < 2 * i
  · rw [if_pos c1]
    rw [List.getElem?_append_left (by omega), List.getElem?_take_of_lt c1] at hu; exact h0 j u c1 hu
  · rw [if_neg c1]
    rw [List.getElem?_append_right (by omega), ht] at hu
    by_cases c2 : j < 2 * i + 2
    · rw [if_pos c2]
      rw [List.getElem?_append_left (by omega)] at hu; exact hu
    · rw [if_neg c2]
      rw [List.getElem?_append_right (by omega), hn] at hu; have hlt := (List.getElem?_eq_some_iff.1 hu).1; rw [if_pos (by omega), ← hu]
      congr 1 <;> omega
theorem flat_ins (es : List (Int × Value)) (i : Nat) (t : Int) (f : Value) : flat (es.take i ++ (t, f) :: es.drop i) = (flat es).take (2 * i) ++ ([.int .i64 t, f] ++ (flat es).drop (2 * i)) := by
  rw [flat_append, flat_take, show flat ((t, f) :: es.drop i) = .int .i64 t :: f :: flat (es.drop i) from rfl, flat_drop]; rfl
theorem ins_all {es : List (Int × Value)} (h : ∀ e ∈ es, e.2.oneCell' = true) {f : Value} (hf : f.oneCell' = true) (i : Nat) (t : Int) : ∀ e ∈ es.take i ++ (t, f) :: es.drop i, e.2.oneCell' = true := fun e hm => by
  rcases List.mem_append.1 hm with h1 | h1
  · exact h e (List.mem_of_mem_take h1)
  · rcases List.mem_cons.1 h1 with rfl | h1
    · exact hf
    · exact h e (List.mem_of_mem_drop h1)
theorem ins_len (es : List (Int × Value)) (i : Nat) (t : Int) (f : Value) (h : i ≤ es.length) : (es.take i ++ (t, f) :: es.drop i).length = es.length + 1 := by simp; omega
theorem Kp.setRow (w : World) (E : Nat) (cs : Array Value) : Kp [E] w (w.setRow E cs) := by
  have := Kp.grown (v := .slice (some ⟨E, 0, none⟩) 0 0) (w := w) (w' := w.setRow E cs) ⟨rfl, rfl, rfl, by simp, fun k _ hk => setRow_other w E k _ (fun e => hk (by simp [Value.ownBlock, e]))⟩
  simpa [rowL, Value.ownBlock] using this
theorem wrap_nat {x : Int} (h1 : 0 ≤ x) (h2 : x < 100000) : IntKind.i64.wrap x = x := by rw [IntKind.wrap_i64]; omega
theorem nb_cells {w : World} {nb : Nat} {t : Int} {f : Value} {tb : TypeId} (h : w.heap[nb]? = some (.cells #[.int .i64 t, f] tb (0, 0))) : ∀ j u, ([.int .i64 t, f] : List Value)[j]? = some u → w.cell? ((⟨nb, 0, none⟩ : Addr).add j) = some u := fun j u hu => by
  rw [Addr.add_lit, cell_row h, Nat.zero_add, List.getElem?_toArray]; exact hu

theorem insertQ_x (N nb i : Nat) (t : Int) (f : Value) (tb : TypeId) (w0 : World) (es : List (Int × Value)) (hq9 : es.length < 900) (hi : i ≤ es.length) (hN : N ≤ w0.heap.size) {E off cap : Nat} {cur : Array Value} (hall : ∀ e ∈ es, e.2.oneCell' = true) (hle : es.length ≤ cap) (hE : N ≤ E) (hcur : w0.heap[E]? = some (.cells cur 128 (0, 0)))
    (hcap : off + 2 * cap ≤ cur.size) (hxs : ∀ (j : Nat) (u : Value), (flat es)[j]? = some u → cur[off + j]? = some u) (hnb : w0.heap[nb]? = some (.cells #[.int .i64 t, f] tb (0, 0))) (hf : f.oneCell' = true) (hne : nb ≠ E) (okE : ∀ (ad : Addr) (wr : Bool), ad.block = E → Ok ad wr) (oknb : ∀ ad : Addr, ad.block = nb → Ok ad false) (okfr : ∀ (ad : Addr) (wr : Bool), w0.heap.size ≤ ad.block → Ok ad wr) :
    CallsX Tryz.prog main (DX Ok) 60 #[.slice (some ⟨E, off, none⟩) es.length cap, .int .i64 i, .slice (some ⟨nb, 0, none⟩) 1 1] w0 fun v' w' => Ents N w' v' (es.take i ++ (t, f) :: es.drop i) ∧ Kp [E] w0 w' ∧ ∀ g ∈ rowL v', g = E ∨ w0.heap.size ≤ g := by
  intro Ψ F c cs hc; have hEl : E < w0.heap.size := (Array.getElem?_eq_some_iff.1 hcur).1; have hnl : nb < w0.heap.size := (Array.getElem?_eq_some_iff.1 hnb).1; have hEnt : Ents N w0 (.slice (some ⟨E, off, none⟩) es.length cap) es := ⟨hall, .inr ⟨E, off, cap, cur, rfl, hle, hE, hcur, hcap, hxs⟩⟩; have hfl := flat_len es; have hnc := nb_cells hnb; have h1c : ∀ u ∈ ([.int .i64 t, f] : List Value), u.oneCell' = true := by intro u hu; simp at hu; rcases hu with rfl | rfl; rfl; exact hf
  have hone := flat_one es hall; generalize hq : es.length = q at hq9 hi hle hfl hEnt hc; rw [enter_at _ Tryz.func60 rfl]; simp only [Tryz.ntmps60, List.size_toArray, List.length_cons, List.length_nil, Nat.reduceAdd, Nat.reduceSub, Array.replicate_succ, Array.replicate_zero, List.push_toArray, List.append_toArray, List.nil_append, List.cons_append]; have q1 : (q : Int) + 1 ≤ 901 := by omega
  have wq : IntKind.i64.wrap ((q : Int) + 1) = (q : Int) + 1 := wrap_nat (by omega) (by omega); have wi : IntKind.i64.wrap ((i : Int) + 1) = (i : Int) + 1 := wrap_nat (by omega) (by omega); have wn : IntKind.i64.wrap ((q : Int) + 1 - (i : Int)) = ((q + 1 - i : Nat) : Int) := by rw [wrap_nat (by omega) (by omega)]; omega
  have e1 : ∀ w, (Instr.sliceAt 100 (.slice (some ⟨E, off, none⟩) q cap) (some (.int .i64 i)) none none).events Tryz.prog w #[] = #[] := fun w => (sl_from w rfl hi hle).2
  by_cases hiq : i = q
  · have c1 : ((i : Int) == (q : Int)) = true := by simp; omega
    have hiq' : i ≤ q ∧ q ≤ i := ⟨hi, Nat.le_of_eq hiq.symm⟩; clear hiq; have ht : es.take i ++ (t, f) :: es.drop i = es ++ [(t, f)] := by rw [List.take_of_length_le (by omega), List.drop_of_length_le (by omega)]
    refine F.sr ?_; simp only [rg, Nat.reduceAdd]; refine F.oq rfl rfl rfl (by simp [go_sem]) fun d K h => ?_; go_simp; refine h _ ?_; clear h K d; try walk_nrm
    refine F.esr ?_; simp only [rg, Nat.reduceAdd]; iterate 3 (refine F.oq rfl rfl rfl (fun _ => by first | (simp [go_sem]; done) | simp [go_sem, Instr.makeInterface, Instr.makeFunc, *]) fun d K hK => ?_; go_simp; refine hK _ ?_; clear hK K d; try walk_nrm)
    refine F.esr ?_; simp only [rg, Nat.reduceAdd]; iterate 3 (refine F.oq rfl rfl rfl (by simp [go_sem]) fun d K h => ?_; go_simp; refine h _ ?_; clear h K d; try walk_nrm)
    refine F.es ?_; refine F.sr ?_; simp only [rg, Nat.reduceAdd]; iterate 2 (refine F.oq rfl rfl rfl (by simp [go_sem]) fun d K h => ?_; go_simp; refine h _ ?_; clear h K d; try walk_nrm)
    refine F.re ?_; refine F.cf rfl ?_; refine F.sk ?_; refine F.sr ?_; simp only [rg, Nat.reduceAdd]; iterate 3 (refine F.oq rfl rfl rfl (by simp [go_sem]) fun d K h => ?_; go_simp; refine h _ ?_; clear h K d; try walk_nrm)
    refine F.es ?_; refine F.sr ?_; simp only [rg, Nat.reduceAdd]; iterate 3 (refine F.oq rfl rfl rfl (by simp [go_sem]) fun d K h => ?_; go_simp; refine h _ ?_; clear h K d; try walk_nrm)
    refine F.re ?_; refine F.ct rfl ?_; refine F.sr ?_; simp only [rg, Nat.reduceAdd]; iterate 2 (refine F.oq rfl rfl rfl (by simp [go_sem]) fun d K h => ?_; go_simp; refine h _ ?_; clear h K d; try walk_nrm)
    refine F.appendQ rfl rfl (by decide) (.tmp 23) (.tmp 24) rfl (N := N) (nb := nb) (v := .slice (some ⟨E, off, none⟩) q cap) (es := es) (t := t) (f := f) (by omega) hN rfl rfl hEnt (hnc 0 _ rfl) (hnc 1 _ rfl) hf (fun ad wr h => okE ad wr (Option.some.inj h)) oknb ?_; intro v' w' ho hg hb; try walk_nrm
    refine F.oq rfl rfl rfl (by simp [go_sem]) fun d K h => ?_; go_simp; refine h _ ?_; clear h K d; try walk_nrm
    refine F.re ?_; refine F.ctl (fun _ => stepG_ret') ?_; refine F.leave rfl rfl Tryz.func60 (resultsC_tmp (by rfl) _) ?_; refine hc _ _ ⟨by rw [ht]; exact ho, ?_, fun g h => ?_⟩
    · have := Kp.grown hg
      simpa [rowL, Value.ownBlock] using this
    · rw [mem_rowL] at h
      rcases hb with y | y
      · exact .inl (Option.some.inj (h.symm.trans y))
      · exact .inr (Nat.le_of_eq (Option.some.inj (y.symm.trans h)))
  have c1 : ((i : Int) == (q : Int)) = false := by simp; omega
  have c2 : (cap = i) = False := by simp; omega
  have hlt : i < q := by omega
  have hpn : i + (q + 1 - i) = q + 1 := by omega
  have hia := ins_all hall hf i t; have ic : (i : Int) ≤ (cap : Int) := by omega
  have ic' : i ≤ cap := by omega
  have e5 : ∀ w, (Builtin.cap_ #[100] 3 #[.slice (some ⟨E, off, none⟩) q cap]).events Tryz.prog w #[] = #[] := fun w => by simp [Builtin.cap_]
  have ti : ((i : Int) + 1).toNat = i + 1 := by omega
  have tq : ((q : Int) + 1).toNat = q + 1 := by omega
  have ip : (0 : Int) ≤ (i : Int) + 1 := by omega
  have qp : (0 : Int) ≤ (q : Int) + 1 := by omega
  have iq1 : (i : Int) ≤ (q : Int) := by omega
  have iq2 : (i : Int) + 1 ≤ (q : Int) + 1 := by omega
  have hxt : ((flat es).take (2 * i)).length = 2 * i := by simp; omega
  have hxd : ((flat es).drop (2 * i)).length = 2 * (q - i) := by simp; omega
  have hsrc : ∀ j u, ((flat es).drop (2 * i))[j]? = some u → cur[off + i * 2 + j]? = some u := fun j u hu => by
    rw [List.getElem?_drop] at hu; rw [show off + i * 2 + j = off + (2 * i + j) by omega]; exact hxs _ u hu
  have hdone : ∀ u ∈ (flat es).drop (2 * i), u.oneCell' = true := fun u hu => hone u (List.mem_of_mem_drop hu)
  refine F.sr ?_; simp only [rg, Nat.reduceAdd]; refine F.oq rfl rfl rfl (by simp [go_sem]) fun d K h => ?_; go_simp; refine h _ ?_; clear h K d; try walk_nrm
  refine F.esr ?_; simp only [rg, Nat.reduceAdd]; iterate 3 (refine F.oq rfl rfl rfl (fun _ => by first | (simp [go_sem]; done) | simp [go_sem, Instr.makeInterface, Instr.makeFunc, *]) fun d K hK => ?_; go_simp; refine hK _ ?_; clear hK K d; try walk_nrm)
  refine F.esr ?_; simp only [rg, Nat.reduceAdd]; iterate 3 (refine F.oq rfl rfl rfl (by simp [go_sem]) fun d K h => ?_; go_simp; refine h _ ?_; clear h K d; try walk_nrm)
  refine F.es ?_; refine F.sr ?_; simp only [rg, Nat.reduceAdd]; iterate 2 (refine F.oq rfl rfl rfl (by simp [go_sem]) fun d K h => ?_; go_simp; refine h _ ?_; clear h K d; try walk_nrm)
  refine F.re ?_; refine F.cf rfl ?_; refine F.sk ?_; refine F.sr ?_; simp only [rg, Nat.reduceAdd]; iterate 3 (refine F.oq rfl rfl rfl (by simp [go_sem]) fun d K h => ?_; go_simp; refine h _ ?_; clear h K d; try walk_nrm)
  refine F.es ?_; refine F.sr ?_; simp only [rg, Nat.reduceAdd]; iterate 3 (refine F.oq rfl rfl rfl (by simp [go_sem]) fun d K h => ?_; go_simp; refine h _ ?_; clear h K d; try walk_nrm)
  refine F.re ?_; refine F.cf rfl ?_; refine F.sk ?_; refine F.sq ?_; refine F.sr ?_; simp only [rg, Nat.reduceAdd]; iterate 6 (refine F.oq rfl rfl rfl (fun _ => by first | (simp [go_sem]; done) | simp [go_sem, Instr.makeInterface, Instr.makeFunc, *]) fun d K hK => ?_; go_simp; refine hK _ ?_; clear hK K d; try walk_nrm)
  refine F.re ?_
  by_cases hroom : q + 1 ≤ cap
  · have c3 : ((cap : Int) < (q : Int) + 1) = False := by simp; omega
    have qc : (q : Int) + 1 ≤ (cap : Int) := by omega
    have c6 : (cap = i + 1) = False := by simp; omega
    have iq3 : (i : Int) ≤ (q : Int) + 1 := by omega
    have hq1 : q + 1 - (i + 1) = q - i := by omega
    have e6 : ∀ w, (Instr.sliceAt 100 (.slice (some ⟨E, off, none⟩) q cap) none (some (.int .i64 ((q : Int) + 1))) none).events Tryz.prog w #[] = #[] := fun w => (sl_to w (L := q + 1) (by omega) hroom).2
    have e7 : ∀ w, (Instr.sliceAt 100 (.slice (some ⟨E, off, none⟩) (q + 1) cap) (some (.int .i64 ((i : Int) + 1))) none none).events Tryz.prog w #[] = #[] := fun w => (sl_from w (L := i + 1) (by omega) (by omega) (by omega)).2
    have e8 : ∀ w, (Instr.sliceAt 100 (.slice (some ⟨E, off, none⟩) (q + 1) cap) (some (.int .i64 i)) none none).events Tryz.prog w #[] = #[] := fun w => (sl_from w rfl (by omega) (by omega)).2
    simp only [c3, decide_false]; refine F.cf rfl ?_; refine F.sk ?_; refine F.sr ?_; simp only [rg, Nat.reduceAdd]; iterate 6 (refine F.oq rfl rfl rfl (fun _ => by first | (simp [go_sem]; done) | simp [go_sem, Instr.makeInterface, Instr.makeFunc, *]) fun d K hK => ?_; go_simp; refine hK _ ?_; clear hK K d; try walk_nrm)
    refine F.es ?_; refine F.sr ?_; simp only [rg, Nat.reduceAdd]; iterate 6 (refine F.oq rfl rfl rfl (fun _ => by first | (simp [go_sem]; done) | simp [go_sem, Instr.makeInterface, Instr.makeFunc, *]) fun d K hK => ?_; go_simp; refine hK _ ?_; clear hK K d; try walk_nrm)
    refine F.apart rfl rfl (by decide) (.tmp 61) (.tmp 66) rfl (nb := nb) (E := E) rfl rfl hnb hcur hne (by omega) ?_; try walk_nrm
    refine F.oq rfl rfl rfl (fun _ => by first | (simp [go_sem]; done) | simp [go_sem, Instr.makeInterface, Instr.makeFunc, *]) fun d K hK => ?_; go_simp; refine hK _ ?_; clear hK K d; try walk_nrm
    refine F.re ?_; refine F.ct rfl ?_; refine F.sq ?_; refine F.drawB (γ := Unit) (n := 9) mixed [[], [], [], [1, 2], [0, 3], [], [], [5, 6], [4, 7]] rfl (by kernel_rfl) (fun b g => [(69, sel (b 0) (.slice (some ⟨E, off, none⟩) (q + 1) cap) (undef)), (70, sel (b 1) (.int .i64 i) (undef)), (71, sel (b 2) (.int .i64 1) (undef)), (72, sel (b 3) (.int .i64 ((i : Int) + 1)) (undef)), (73, sel (b 4) (.slice (some ⟨E, off + (i + 1) * 2, none⟩) (q - i) (cap - (i + 1))) (undef)), (74, sel (b 5) (.slice (some ⟨E, off, none⟩) (q + 1) cap) (undef)), (75, sel (b 6) (.int .i64 i) (undef)), (76, sel (b 7) (.slice (some ⟨E, off + i * 2, none⟩) (q + 1 - i) (cap - i)) (undef)), (77, sel (b 8) (.int .i64 ((q - i : Nat) : Int)) (undef))]) (fun b g w => (b 8 = false → w = w0) ∧ (b 8 = true → ( w0.setRow E (spl cur (off + (i + 1) * 2) ((flat es).drop (2 * i))) = w))) (()) (by simp only [pu, Nat.reduceAdd, Nat.reduceEqDiff, reduceIte]) (⟨fun _ => rfl, fun h => by cases h⟩) (all_cons ?_ (all_cons ?_ (all_cons ?_ (all_cons ?_ (all_cons ?_ (all_cons ?_ (all_cons ?_ (all_cons ?_ (all_cons ?_ (all_nil)))))))))) ?_
    · intro b g w hI hcl hbi hdp rest hre hkk
      obtain ⟨hwf, hwt⟩ := hI; replace hbi : b 0 = false := hbi; have nb4 := nbf (hcl 4 0 rfl) hbi; have nb8 := nbf (hcl 8 4 rfl) nb4; have ewc := (hwf nb8).symm; subst ewc; simp only [nb4, nb8, hbi, pu, Nat.reduceAdd, Nat.reduceEqDiff, reduceIte]; refine F.oq rfl rfl rfl (by simp [go_sem]) fun d K h => ?_; go_simp; refine h _ ?_; clear h K d; try walk_nrm
      have hk2 := hkk g _ ⟨fun _ => rfl, fun h => no nb8 h⟩; simp only [nb4, nb8, hbi, pu, Nat.reduceAdd, Nat.reduceEqDiff, reduceIte] at hk2; exact hk2
    · intro b g w hI hcl hbi hdp rest hre hkk
      obtain ⟨hwf, hwt⟩ := hI; replace hbi : b 1 = false := hbi; have nb3 := nbf (hcl 3 1 rfl) hbi; have nb4 := nbf (hcl 4 3 rfl) nb3; have nb8 := nbf (hcl 8 4 rfl) nb4; have ewc := (hwf nb8).symm; subst ewc; simp only [nb3, nb4, nb8, hbi, pu, Nat.reduceAdd, Nat.reduceEqDiff, reduceIte]; refine F.oq rfl rfl rfl (by simp [go_sem]) fun d K h => ?_; go_simp; refine h _ ?_; clear h K d; try walk_nrm
      have hk2 := hkk g _ ⟨fun _ => rfl, fun h => no nb8 h⟩; simp only [nb3, nb4, nb8, hbi, pu, Nat.reduceAdd, Nat.reduceEqDiff, reduceIte] at hk2; exact hk2
    · intro b g w hI hcl hbi hdp rest hre hkk
      obtain ⟨hwf, hwt⟩ := hI; replace hbi : b 2 = false := hbi; have nb3 := nbf (hcl 3 2 rfl) hbi; have nb4 := nbf (hcl 4 3 rfl) nb3; have nb8 := nbf (hcl 8 4 rfl) nb4; have ewc := (hwf nb8).symm; subst ewc; simp only [nb3, nb4, nb8, hbi, pu, Nat.reduceAdd, Nat.reduceEqDiff, reduceIte]; refine F.oq rfl rfl rfl (by simp [go_sem]) fun d K h => ?_; go_simp; refine h _ ?_; clear h K d; try walk_nrm
      have hk2 := hkk g _ ⟨fun _ => rfl, fun h => no nb8 h⟩; simp only [nb3, nb4, nb8, hbi, pu, Nat.reduceAdd, Nat.reduceEqDiff, reduceIte] at hk2; exact hk2
    · intro b g w hI hcl hbi hdp rest hre hkk
      obtain ⟨hwf, hwt⟩ := hI; replace hbi : b 3 = false := hbi; have d1 := hdp 1 rfl; have d2 := hdp 2 rfl; have nb4 := nbf (hcl 4 3 rfl) hbi; have nb8 := nbf (hcl 8 4 rfl) nb4; have ewc := (hwf nb8).symm; subst ewc; simp only [d1, d2, nb4, nb8, hbi, pu, Nat.reduceAdd, Nat.reduceEqDiff, reduceIte]; refine F.oq rfl rfl rfl (by simp [go_sem]) fun d K h => ?_; go_simp; refine h _ ?_; clear h K d; try walk_nrm
      have hk2 := hkk g _ ⟨fun _ => rfl, fun h => no nb8 h⟩; simp only [d1, d2, nb4, nb8, hbi, pu, Nat.reduceAdd, Nat.reduceEqDiff, reduceIte] at hk2; exact hk2
    · intro b g w hI hcl hbi hdp rest hre hkk
      obtain ⟨hwf, hwt⟩ := hI; replace hbi : b 4 = false := hbi; have d0 := hdp 0 rfl; have d3 := hdp 3 rfl; have nb8 := nbf (hcl 8 4 rfl) hbi; have ewc := (hwf nb8).symm; subst ewc; simp only [d0, d3, nb8, hbi, pu, Nat.reduceAdd, Nat.reduceEqDiff, reduceIte]; refine F.oq rfl rfl rfl (fun _ => by first | (simp [go_sem]; done) | simp [go_sem, Instr.makeInterface, Instr.makeFunc, *]) fun d K hK => ?_; go_simp; refine hK _ ?_; clear hK K d; try walk_nrm
      have hk2 := hkk g _ ⟨fun _ => rfl, fun h => no nb8 h⟩; simp only [d0, d3, nb8, hbi, pu, Nat.reduceAdd, Nat.reduceEqDiff, reduceIte] at hk2; exact hk2
    · intro b g w hI hcl hbi hdp rest hre hkk
      obtain ⟨hwf, hwt⟩ := hI; replace hbi : b 5 = false := hbi; have nb7 := nbf (hcl 7 5 rfl) hbi; have nb8 := nbf (hcl 8 7 rfl) nb7; have ewc := (hwf nb8).symm; subst ewc; simp only [nb7, nb8, hbi, pu, Nat.reduceAdd, Nat.reduceEqDiff, reduceIte]; refine F.oq rfl rfl rfl (by simp [go_sem]) fun d K h => ?_; go_simp; refine h _ ?_; clear h K d; try walk_nrm
      have hk2 := hkk g _ ⟨fun _ => rfl, fun h => no nb8 h⟩; simp only [nb7, nb8, hbi, pu, Nat.reduceAdd, Nat.reduceEqDiff, reduceIte] at hk2; exact hk2
    · intro b g w hI hcl hbi hdp rest hre hkk
      obtain ⟨hwf, hwt⟩ := hI; replace hbi : b 6 = false := hbi; have nb7 := nbf (hcl 7 6 rfl) hbi; have nb8 := nbf (hcl 8 7 rfl) nb7; have ewc := (hwf nb8).symm; subst ewc; simp only [nb7, nb8, hbi, pu, Nat.reduceAdd, Nat.reduceEqDiff, reduceIte]; refine F.oq rfl rfl rfl (by simp [go_sem]) fun d K h => ?_; go_simp; refine h _ ?_; clear h K d; try walk_nrm
      have hk2 := hkk g _ ⟨fun _ => rfl, fun h => no nb8 h⟩; simp only [nb7, nb8, hbi, pu, Nat.reduceAdd, Nat.reduceEqDiff, reduceIte] at hk2; exact hk2
    · intro b g w hI hcl hbi hdp rest hre hkk
      obtain ⟨hwf, hwt⟩ := hI; replace hbi : b 7 = false := hbi; have d5 := hdp 5 rfl; have d6 := hdp 6 rfl; have nb8 := nbf (hcl 8 7 rfl) hbi; have ewc := (hwf nb8).symm; subst ewc; simp only [d5, d6, nb8, hbi, pu, Nat.reduceAdd, Nat.reduceEqDiff, reduceIte]; refine F.oq rfl rfl rfl (fun _ => by first | (simp [go_sem]; done) | simp [go_sem, Instr.makeInterface, Instr.makeFunc, *]) fun d K hK => ?_; go_simp; refine hK _ ?_; clear hK K d; try walk_nrm
      have hk2 := hkk g _ ⟨fun _ => rfl, fun h => no nb8 h⟩; simp only [d5, d6, nb8, hbi, pu, Nat.reduceAdd, Nat.reduceEqDiff, reduceIte] at hk2; exact hk2
    · intro b g w hI hcl hbi hdp rest hre hkk
      obtain ⟨hwf, hwt⟩ := hI; replace hbi : b 8 = false := hbi; have d4 := hdp 4 rfl; have d7 := hdp 7 rfl; have ewc := (hwf hbi).symm; subst ewc; simp only [d4, d7, hbi, pu, Nat.reduceAdd, Nat.reduceEqDiff, reduceIte]; refine F.copyR rfl rfl (by decide) (.tmp 73) (.tmp 76) rfl (E := E) (p := off + (i + 1) * 2) (n := q - i) (vs := (flat es).drop (2 * i)) (bb := ⟨E, off + i * 2, none⟩) rfl rfl hcur (Nat.min_eq_right (by omega)).symm hxd (by rw [hxd]; omega) (cell_add hcur hsrc) hdone okE (fun ad h => okE ad false h) hEl ?_; intro w3 ew3; try walk_nrm
      have hk2 := hkk g _ ⟨fun h => by simp [tick] at h, fun _ => ew3⟩; simp only [d4, d7, hbi, pu, Nat.reduceAdd, Nat.reduceEqDiff, reduceIte] at hk2; exact hk2
    intro b g w hI hall; obtain ⟨hwf, hwt⟩ := hI; simp only [hall 0 (by decide), hall 1 (by decide), hall 2 (by decide), hall 3 (by decide), hall 4 (by decide), hall 5 (by decide), hall 6 (by decide), hall 7 (by decide), hall 8 (by decide), pu, Nat.reduceAdd, Nat.reduceEqDiff, reduceIte]; have ew1 := hwt (hall 8 (by decide)); have s1 : (spl cur (off + (i + 1) * 2) ((flat es).drop (2 * i))).size = cur.size := spl_size (by rw [hxd]; omega); have hr1 : w.heap[E]? = some (.cells (spl cur (off + (i + 1) * 2) ((flat es).drop (2 * i))) 128 (0, 0)) := by rw [← ew1]; exact setRow_heap w0 E _ _ 128 _ hcur
    have hnb1 : w.heap[nb]? = some (.cells #[.int .i64 t, f] tb (0, 0)) := by rw [← ew1, setRow_other _ E nb _ hne]; exact hnb
    have hsz1 : w.heap.size = w0.heap.size := by rw [← ew1]; simp
    refine F.esr ?_; simp only [rg, Nat.reduceAdd]; iterate 4 (refine F.oq rfl rfl rfl (fun _ => by first | (simp [go_sem]; done) | simp [go_sem, Instr.makeInterface, Instr.makeFunc, *]) fun d K hK => ?_; go_simp; refine hK _ ?_; clear hK K d; try walk_nrm)
    refine F.copyR rfl rfl (by decide) (.tmp 80) (.tmp 81) rfl (E := E) (p := off + i * 2) (n := 1) (vs := [.int .i64 t, f]) (bb := ⟨nb, 0, none⟩) rfl rfl hr1 (Nat.min_eq_left (by omega)).symm rfl (by simp only [List.length_cons, List.length_nil, s1]; omega) (nb_cells hnb1) h1c okE oknb (by show nb < _; omega) ?_; intro w2 ew2; try walk_nrm
    refine F.esr ?_; simp only [rg, Nat.reduceAdd]; iterate 2 (refine F.oq rfl rfl rfl (by simp [go_sem]) fun d K h => ?_; go_simp; refine h _ ?_; clear h K d; try walk_nrm)
    refine F.re ?_; refine F.ctl (fun _ => stepG_ret') ?_; refine F.leave rfl rfl Tryz.func60 (resultsC_tmp (by rfl) _) ?_; have hr2 : w2.heap[E]? = some (.cells (spl (spl cur (off + (i + 1) * 2) ((flat es).drop (2 * i))) (off + i * 2) [.int .i64 t, f]) 128 (0, 0)) := by rw [← ew2]; exact setRow_heap w E _ _ 128 _ hr1
    refine hc _ _ ⟨⟨hia, .inr ⟨E, off, cap, _, by rw [ins_len es i t f (by omega), hq]; rfl, by rw [ins_len es i t f (by omega), hq]; exact hroom, hE, hr2, ?_, fun j u hu => ?_⟩⟩, ?_, fun g hg => ?_⟩
    · rw [spl_size (by rw [s1]; simp only [List.length_cons, List.length_nil]; omega), s1]; exact hcap
    · rw [flat_ins] at hu
      exact ins_get (R := cur) (o := off) (i := i) (q := q) hfl (by omega) rfl (by omega) (fun j u hj hu => hxs j u hu) (.inr ⟨rfl, rfl⟩) j u hu
    · have k1 : Kp [E] w0 w := ew1 ▸ Kp.setRow w0 E _
      exact k1.callN (ew2 ▸ Kp.setRow w E _) (by simp) (by simp)
    · rw [mem_rowL] at hg
      simp [Value.ownBlock] at hg; omega
  have c3 : ((cap : Int) < (q : Int) + 1) = True := by simp; omega
  have e2 : ∀ w, (Instr.sliceAt 100 (.slice (some ⟨E, off, none⟩) q cap) none (some (.int .i64 i)) none).events Tryz.prog w #[] = #[] := fun w => (sl_to w rfl (by omega)).2
  simp only [c3, decide_true]; refine F.ct rfl ?_; refine F.sr ?_; simp only [rg, Nat.reduceAdd]; iterate 8 (refine F.oq rfl rfl rfl (fun _ => by first | (simp [go_sem]; done) | simp [go_sem, Instr.makeInterface, Instr.makeFunc, *]) fun d K hK => ?_; go_simp; refine hK _ ?_; clear hK K d; try walk_nrm)
  refine F.appendZ rfl rfl (by decide) (.tmp 34) (.tmp 39) rfl (p := i) (n := q + 1 - i) (xs := (flat es).take (2 * i)) rfl rfl hcur hxt (fun j u hu => hxs j u (by rw [List.getElem?_take] at hu; split at hu; exact hu; cases hu)) (by omega) (by omega) (by omega) (fun ad h => okE ad false h) ?_; intro c' rs w1 hc' hrs ew1; rw [hpn] at hc' ⊢; try walk_nrm
  generalize hn1 : w0.heap.size = n1 at hEl hnl okfr hN hc ⊢; have hr1 : w1.heap[n1]? = some (.cells (((flat es).take (2 * i)).toArray ++ rs) 128 (0, 0)) := by subst ew1; rw [← hn1]; exact hp_new (w := w0) rfl rfl
  have hcur1 : w1.heap[E]? = some (.cells cur 128 (0, 0)) := by subst ew1; rw [Below.heap_alloc _ _ _ (by omega)]; exact hcur
  have hnb1 : w1.heap[nb]? = some (.cells #[.int .i64 t, f] tb (0, 0)) := by subst ew1; rw [Below.heap_alloc _ _ _ (by omega)]; exact hnb
  have sz1 : w1.heap.size = n1 + 1 := by subst ew1; simp [hn1]
  have c4 : (c' = i) = False := by simp; omega
  have c5 : (c' = i + 1) = False := by simp; omega
  have e3 : ∀ w, (Instr.sliceAt 100 (.slice (some ⟨n1, 0, none⟩) (q + 1) c') (some (.int .i64 i)) none none).events Tryz.prog w #[] = #[] := fun w => (sl_from w rfl (by omega) (by omega)).2
  have e4 : ∀ w, (Instr.sliceAt 100 (.slice (some ⟨n1, 0, none⟩) (q + 1) c') (some (.int .i64 ((i : Int) + 1))) none none).events Tryz.prog w #[] = #[] := fun w => (sl_from w (L := i + 1) (by omega) (by omega) (by omega)).2
  have iq3 : (i : Int) ≤ (q : Int) + 1 := by omega
  have iq4 : (i : Int) + 1 ≤ ((q + 1 : Nat) : Int) := by omega
  refine F.oq rfl rfl rfl (by simp [go_sem]) fun d K h => ?_; go_simp; refine h _ ?_; clear h K d; try walk_nrm
  refine F.esr ?_; simp only [rg, Nat.reduceAdd]; iterate 4 (refine F.oq rfl rfl rfl (fun _ => by first | (simp [go_sem]; done) | simp [go_sem, Instr.makeInterface, Instr.makeFunc, *]) fun d K hK => ?_; go_simp; refine hK _ ?_; clear hK K d; try walk_nrm)
  refine F.copyR rfl rfl (by decide) (.tmp 43) (.tmp 44) rfl (E := n1) (p := i * 2) (n := 1) (vs := [.int .i64 t, f]) (bb := ⟨nb, 0, none⟩) rfl rfl hr1 (Nat.min_eq_left (by omega)).symm rfl (by simp only [List.length_cons, List.length_nil, Array.size_append, List.size_toArray, hxt, hrs]; omega) (nb_cells hnb1) h1c (fun ad wr h => okfr ad wr (by omega)) oknb (by show nb < _; omega) ?_; intro w2 ew2; try walk_nrm
  have sp1 : (spl (((flat es).take (2 * i)).toArray ++ rs) (i * 2) [.int .i64 t, f]).size = (((flat es).take (2 * i)).toArray ++ rs).size := spl_size (by simp only [List.length_cons, List.length_nil, Array.size_append, List.size_toArray, hxt, hrs]; omega); have ssz : (((flat es).take (2 * i)).toArray ++ rs).size = 2 * c' := by simp only [Array.size_append, List.size_toArray, hxt, hrs]; omega
  have hr2 : w2.heap[n1]? = some (.cells (spl (((flat es).take (2 * i)).toArray ++ rs) (i * 2) [.int .i64 t, f]) 128 (0, 0)) := by rw [← ew2]; exact setRow_heap w1 n1 _ _ 128 _ hr1
  have hcur2 : w2.heap[E]? = some (.cells cur 128 (0, 0)) := by rw [← ew2, setRow_other _ n1 E _ (by omega)]; exact hcur1
  have sz2 : w2.heap.size = n1 + 1 := by rw [← ew2]; simp [sz1]
  have hq1 : q + 1 - (i + 1) = q - i := by omega
  refine F.es ?_; refine F.drawB (γ := Unit) (n := 9) mixed [[], [], [], [1, 2], [0, 3], [], [], [5, 6], [4, 7]] rfl (by kernel_rfl) (fun b g => [(46, sel (b 0) (.slice (some ⟨n1, 0, none⟩) (q + 1) c') (undef)), (47, sel (b 1) (.int .i64 i) (undef)), (48, sel (b 2) (.int .i64 1) (undef)), (49, sel (b 3) (.int .i64 ((i : Int) + 1)) (undef)), (50, sel (b 4) (.slice (some ⟨n1, (i + 1) * 2, none⟩) (q - i) (c' - (i + 1))) (undef)), (51, sel (b 5) (.slice (some ⟨E, off, none⟩) q cap) (undef)), (52, sel (b 6) (.int .i64 i) (undef)), (53, sel (b 7) (.slice (some ⟨E, off + i * 2, none⟩) (q - i) (cap - i)) (undef)), (54, sel (b 8) (.int .i64 ((q - i : Nat) : Int)) (undef))]) (fun b g w => (b 8 = false → w = w2) ∧ (b 8 = true → ( w2.setRow n1 (spl (spl (((flat es).take (2 * i)).toArray ++ rs) (i * 2) [.int .i64 t, f]) ((i + 1) * 2) ((flat es).drop (2 * i))) = w))) (()) (by simp only [pu, Nat.reduceAdd, Nat.reduceEqDiff, reduceIte]) (⟨fun _ => rfl, fun h => by cases h⟩) (all_cons ?_ (all_cons ?_ (all_cons ?_ (all_cons ?_ (all_cons ?_ (all_cons ?_ (all_cons ?_ (all_cons ?_ (all_cons ?_ (all_nil)))))))))) ?_
  · intro b g w hI hcl hbi hdp rest hre hkk
    obtain ⟨hwf, hwt⟩ := hI; replace hbi : b 0 = false := hbi; have nb4 := nbf (hcl 4 0 rfl) hbi; have nb8 := nbf (hcl 8 4 rfl) nb4; have ewc := (hwf nb8).symm; subst ewc; simp only [nb4, nb8, hbi, pu, Nat.reduceAdd, Nat.reduceEqDiff, reduceIte]; refine F.oq rfl rfl rfl (by simp [go_sem]) fun d K h => ?_; go_simp; refine h _ ?_; clear h K d; try walk_nrm
    have hk2 := hkk g _ ⟨fun _ => rfl, fun h => no nb8 h⟩; simp only [nb4, nb8, hbi, pu, Nat.reduceAdd, Nat.reduceEqDiff, reduceIte] at hk2; exact hk2
  · intro b g w hI hcl hbi hdp rest hre hkk
    obtain ⟨hwf, hwt⟩ := hI; replace hbi : b 1 = false := hbi; have nb3 := nbf (hcl 3 1 rfl) hbi; have nb4 := nbf (hcl 4 3 rfl) nb3; have nb8 := nbf (hcl 8 4 rfl) nb4; have ewc := (hwf nb8).symm; subst ewc; simp only [nb3, nb4, nb8, hbi, pu, Nat.reduceAdd, Nat.reduceEqDiff, reduceIte]; refine F.oq rfl rfl rfl (by simp [go_sem]) fun d K h => ?_; go_simp; refine h _ ?_; clear h K d; try walk_nrm
    have hk2 := hkk g _ ⟨fun _ => rfl, fun h => no nb8 h⟩; simp only [nb3, nb4, nb8, hbi, pu, Nat.reduceAdd, Nat.reduceEqDiff, reduceIte] at hk2; exact hk2
  · intro b g w hI hcl hbi hdp rest hre hkk
    obtain ⟨hwf, hwt⟩ := hI; replace hbi : b 2 = false := hbi; have nb3 := nbf (hcl 3 2 rfl) hbi; have nb4 := nbf (hcl 4 3 rfl) nb3; have nb8 := nbf (hcl 8 4 rfl) nb4; have ewc := (hwf nb8).symm; subst ewc; simp only [nb3, nb4, nb8, hbi, pu, Nat.reduceAdd, Nat.reduceEqDiff, reduceIte]; refine F.oq rfl rfl rfl (by simp [go_sem]) fun d K h => ?_; go_simp; refine h _ ?_; clear h K d; try walk_nrm
    have hk2 := hkk g _ ⟨fun _ => rfl, fun h => no nb8 h⟩; simp only [nb3, nb4, nb8, hbi, pu, Nat.reduceAdd, Nat.reduceEqDiff, reduceIte] at hk2; exact hk2
  · intro b g w hI hcl hbi hdp rest hre hkk
    obtain ⟨hwf, hwt⟩ := hI; replace hbi : b 3 = false := hbi; have d1 := hdp 1 rfl; have d2 := hdp 2 rfl; have nb4 := nbf (hcl 4 3 rfl) hbi; have nb8 := nbf (hcl 8 4 rfl) nb4; have ewc := (hwf nb8).symm; subst ewc; simp only [d1, d2, nb4, nb8, hbi, pu, Nat.reduceAdd, Nat.reduceEqDiff, reduceIte]; refine F.oq rfl rfl rfl (by simp [go_sem]) fun d K h => ?_; go_simp; refine h _ ?_; clear h K d; try walk_nrm
    have hk2 := hkk g _ ⟨fun _ => rfl, fun h => no nb8 h⟩; simp only [d1, d2, nb4, nb8, hbi, pu, Nat.reduceAdd, Nat.reduceEqDiff, reduceIte] at hk2; exact hk2
  · intro b g w hI hcl hbi hdp rest hre hkk
    obtain ⟨hwf, hwt⟩ := hI; replace hbi : b 4 = false := hbi; have d0 := hdp 0 rfl; have d3 := hdp 3 rfl; have nb8 := nbf (hcl 8 4 rfl) hbi; have ewc := (hwf nb8).symm; subst ewc; simp only [d0, d3, nb8, hbi, pu, Nat.reduceAdd, Nat.reduceEqDiff, reduceIte]; refine F.oq rfl rfl rfl (fun _ => by first | (simp [go_sem]; done) | simp [go_sem, Instr.makeInterface, Instr.makeFunc, *]) fun d K hK => ?_; go_simp; refine hK _ ?_; clear hK K d; try walk_nrm
    have hk2 := hkk g _ ⟨fun _ => rfl, fun h => no nb8 h⟩; simp only [d0, d3, nb8, hbi, pu, Nat.reduceAdd, Nat.reduceEqDiff, reduceIte] at hk2; exact hk2
  · intro b g w hI hcl hbi hdp rest hre hkk
    obtain ⟨hwf, hwt⟩ := hI; replace hbi : b 5 = false := hbi; have nb7 := nbf (hcl 7 5 rfl) hbi; have nb8 := nbf (hcl 8 7 rfl) nb7; have ewc := (hwf nb8).symm; subst ewc; simp only [nb7, nb8, hbi, pu, Nat.reduceAdd, Nat.reduceEqDiff, reduceIte]; refine F.oq rfl rfl rfl (by simp [go_sem]) fun d K h => ?_; go_simp; refine h _ ?_; clear h K d; try walk_nrm
    have hk2 := hkk g _ ⟨fun _ => rfl, fun h => no nb8 h⟩; simp only [nb7, nb8, hbi, pu, Nat.reduceAdd, Nat.reduceEqDiff, reduceIte] at hk2; exact hk2
  · intro b g w hI hcl hbi hdp rest hre hkk
    obtain ⟨hwf, hwt⟩ := hI; replace hbi : b 6 = false := hbi; have nb7 := nbf (hcl 7 6 rfl) hbi; have nb8 := nbf (hcl 8 7 rfl) nb7; have ewc := (hwf nb8).symm; subst ewc; simp only [nb7, nb8, hbi, pu, Nat.reduceAdd, Nat.reduceEqDiff, reduceIte]; refine F.oq rfl rfl rfl (by simp [go_sem]) fun d K h => ?_; go_simp; refine h _ ?_; clear h K d; try walk_nrm
    have hk2 := hkk g _ ⟨fun _ => rfl, fun h => no nb8 h⟩; simp only [nb7, nb8, hbi, pu, Nat.reduceAdd, Nat.reduceEqDiff, reduceIte] at hk2; exact hk2
  · intro b g w hI hcl hbi hdp rest hre hkk
    obtain ⟨hwf, hwt⟩ := hI; replace hbi : b 7 = false := hbi; have d5 := hdp 5 rfl; have d6 := hdp 6 rfl; have nb8 := nbf (hcl 8 7 rfl) hbi; have ewc := (hwf nb8).symm; subst ewc; simp only [d5, d6, nb8, hbi, pu, Nat.reduceAdd, Nat.reduceEqDiff, reduceIte]; refine F.oq rfl rfl rfl (fun _ => by first | (simp [go_sem]; done) | simp [go_sem, Instr.makeInterface, Instr.makeFunc, *]) fun d K hK => ?_; go_simp; refine hK _ ?_; clear hK K d; try walk_nrm
    have hk2 := hkk g _ ⟨fun _ => rfl, fun h => no nb8 h⟩; simp only [d5, d6, nb8, hbi, pu, Nat.reduceAdd, Nat.reduceEqDiff, reduceIte] at hk2; exact hk2
  · intro b g w hI hcl hbi hdp rest hre hkk
    obtain ⟨hwf, hwt⟩ := hI; replace hbi : b 8 = false := hbi; have d4 := hdp 4 rfl; have d7 := hdp 7 rfl; have ewc := (hwf hbi).symm; subst ewc; simp only [d4, d7, hbi, pu, Nat.reduceAdd, Nat.reduceEqDiff, reduceIte]; refine F.copyR rfl rfl (by decide) (.tmp 50) (.tmp 53) rfl (E := n1) (p := (i + 1) * 2) (n := q - i) (vs := (flat es).drop (2 * i)) (bb := ⟨E, off + i * 2, none⟩) rfl rfl hr2 (Nat.min_self _).symm hxd (by rw [hxd, sp1, ssz]; omega) (cell_add hcur2 hsrc) hdone (fun ad wr h => okfr ad wr (by omega)) (fun ad h => okE ad false h) (by show E < _; omega) ?_; intro w3 ew3; try walk_nrm
    have hk2 := hkk g _ ⟨fun h => by simp [tick] at h, fun _ => ew3⟩; simp only [d4, d7, hbi, pu, Nat.reduceAdd, Nat.reduceEqDiff, reduceIte] at hk2; exact hk2
  intro b g w hI hall; obtain ⟨hwf, hwt⟩ := hI; simp only [hall 0 (by decide), hall 1 (by decide), hall 2 (by decide), hall 3 (by decide), hall 4 (by decide), hall 5 (by decide), hall 6 (by decide), hall 7 (by decide), hall 8 (by decide), pu, Nat.reduceAdd, Nat.reduceEqDiff, reduceIte]; have ew3 := hwt (hall 8 (by decide)); refine F.esr ?_; simp only [rg, Nat.reduceAdd]; iterate 2 (refine F.oq rfl rfl rfl (by simp [go_sem]) fun d K h => ?_; go_simp; refine h _ ?_; clear h K d; try walk_nrm)
  refine F.re ?_; refine F.ctl (fun _ => stepG_ret') ?_; refine F.leave rfl rfl Tryz.func60 (resultsC_tmp (by rfl) _) ?_; have hr3 : w.heap[n1]? = some (.cells (spl (spl (((flat es).take (2 * i)).toArray ++ rs) (i * 2) [.int .i64 t, f]) ((i + 1) * 2) ((flat es).drop (2 * i))) 128 (0, 0)) := by rw [← ew3]; exact setRow_heap w2 n1 _ _ 128 _ hr2
  refine hc _ _ ⟨⟨hia, .inr ⟨n1, 0, c', _, by rw [ins_len es i t f (by omega), hq]; rfl, by rw [ins_len es i t f (by omega), hq]; exact hc', hN, hr3, ?_, fun j u hu => ?_⟩⟩, ?_, fun g hg => ?_⟩
  · rw [spl_size (by rw [hxd, sp1, ssz]; omega), sp1, ssz]; omega
  · rw [flat_ins] at hu
    refine ins_get (R := ((flat es).take (2 * i)).toArray ++ rs) (R1 := spl (((flat es).take (2 * i)).toArray ++ rs) (i * 2) [.int .i64 t, f]) (o := 0) (i := i) (q := q) hfl (by omega) rfl (by rw [ssz]; omega) (fun j u hj hu => ?_) (.inl ⟨by rw [Nat.zero_add], by rw [Nat.zero_add]⟩) j u hu; rw [Nat.zero_add, Array.getElem?_append_left (by simp only [List.size_toArray, hxt]; exact hj), List.getElem?_toArray, List.getElem?_take_of_lt hj]; exact hu
  · have k1 : Kp [E] w0 w1 := Kp.alloc ew1
    have k2 : Kp [E] w0 w2 := k1.callN (ew2 ▸ Kp.setRow w1 n1 _) (by simp; omega) (by simp); exact k2.callN (ew3 ▸ Kp.setRow w2 n1 _) (by simp; omega) (by simp)
  · rw [mem_rowL] at hg
    simp [Value.ownBlock] at hg; omega
end Go.Proofs.YtobagnjnbmgidaaGreatDoor
