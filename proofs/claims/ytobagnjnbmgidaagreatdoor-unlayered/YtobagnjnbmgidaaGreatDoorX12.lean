/- An append of one entry to an agenda's row that holds none. -/
import Derived.Test.YtobagnjnbmgidaaGreatDoorX8
set_option linter.unusedSimpArgs false
set_option linter.unusedVariables false
set_option maxHeartbeats 4000000
set_option maxRecDepth 100000
namespace Go.Proofs.YtobagnjnbmgidaaGreatDoor
section
open Go.Conc Go.RowKit

def Emp (N : Nat) (w : World) (v : Value) : Prop := v = .slice none 0 0 ∨ ∃ E off cap cur, v = .slice (some ⟨E, off, none⟩) 0 cap ∧ N ≤ E ∧ w.heap[E]? = some (.cells cur 128 (0, 0)) ∧ off + 2 * cap ≤ cur.size
def One (N : Nat) (w : World) (v : Value) (t : Int) (f : Value) : Prop :=
  ∃ E off cap cur, v = .slice (some ⟨E, off, none⟩) 1 (cap + 1) ∧ N ≤ E ∧ w.heap[E]? = some (.cells cur 128 (0, 0)) ∧ off + 2 * (cap + 1) ≤ cur.size ∧ cur[off]? = some (.int .i64 t) ∧ cur[off + 1]? = some f

theorem Emp.lt {N : Nat} {w : World} {v : Value} (h : Emp N w v) {g : Nat} (hg : v.ownBlock = some g) : N ≤ g ∧ ∃ cur, w.heap[g]? = some (.cells cur 128 (0, 0)) := by
  rcases h with rfl | ⟨E, off, cap, cur, rfl, h1, h2, _⟩
  · cases hg
  · simp [Value.ownBlock] at hg
    subst hg; exact ⟨h1, cur, h2⟩

theorem run_append0 (w : World) (ty : TypeId) {N : Nat} (hN : N ≤ w.heap.size) {v f : Value} {t : Int} {nb : Nat} (he : Emp N w v) (h0 : w.cell? ⟨nb, 0, none⟩ = some (.int .i64 t)) (h1 : w.cell? ⟨nb, 1, none⟩ = some f) (hf : f.oneCell' = true) :
    ∃ v' w', (Builtin.append_ #[100, 100] ty #[v, .slice (some ⟨nb, 0, none⟩) 1 1]).run Tryz.prog w = .ok v' w' ∧ One N w' v' t f ∧ w.grownBy w' v.ownBlock ∧ (v'.ownBlock = v.ownBlock ∨ v'.ownBlock = some w.heap.size) ∧
      ∀ ev ∈ (Builtin.append_ #[100, 100] ty #[v, .slice (some ⟨nb, 0, none⟩) 1 1]).events Tryz.prog w #[], (∃ ad, ev.loc = .cell ad ∧ ((ev.write = false ∧ ad.block = nb) ∨ some ad.block = v.ownBlock)) ∨ ev = noRoomEvent := by
  obtain ⟨inf, z, i1, i2, i3, i4, i5⟩ := inf128
  have hnews : ∀ j u, [.int .i64 t, f][j]? = some u → w.cell? ((⟨nb, 0, none⟩ : Addr).add j) = some u := by
    intro j u hu; rw [Addr.add_lit, Nat.zero_add]
    match j, hu with
    | 0, hu => simp at hu; subst hu; exact h0
    | 1, hu => simp at hu; subst hu; exact h1
    | j + 2, hu => simp at hu
  have hl : ([.int .i64 t, f] : List Value).length = 1 * inf.size := by rw [i3]; rfl
  have hone : ∀ u ∈ ([.int .i64 t, f] : List Value), u.oneCell' = true := by intro u hu; simp at hu; rcases hu with rfl | rfl; rfl; exact hf
  have src : ∀ (w' : World), (∀ ad, w'.cell? ad = w.cell? ad) → ∀ es, ∀ ev ∈ (Builtin.firstCells inf.size 1 (.slice (some ⟨nb, 0, none⟩) 1 1)).events Tryz.prog w' es, ev ∈ es ∨ ev.readsIn (· = nb) := by
    intro w' hw' es; refine events_firstCells_in (P := Tryz.prog) (· = nb) inf.size 1 _ w' es fun a l c e => ?_
    cases e
    exact ⟨rfl, fun j hj => by rw [hw']; exact isSome_of_list hnews (by rw [hl]; exact hj)⟩
  have none0 : ∀ (x : Value) (w' : World) es, (∃ b c, x = .slice b 0 c) → ∀ ev ∈ (Builtin.firstCells inf.size 0 x).events Tryz.prog w' es, ev ∈ es := by
    intro x w' es ⟨b, c, e⟩ ev hev; subst e; cases b with
    | none => simpa [Builtin.firstCells] using hev
    | some a => simpa [Builtin.firstCells, loadCells, loadCellsFrom] using hev
  have fin : ∀ ev : Event, ev.readsIn (· = nb) → (∃ ad, ev.loc = .cell ad ∧ ((ev.write = false ∧ ad.block = nb) ∨ some ad.block = v.ownBlock)) ∨ ev = noRoomEvent := fun ev ⟨ad, a1, a2, a3⟩ => .inl ⟨ad, a1, .inl ⟨a2, a3⟩⟩
  have room : ∀ (x : Nat) (w' : World), ∀ ev ∈ (askRoom x).events Tryz.prog w' #[], ev = noRoomEvent := fun x w' ev hev => by
    rcases Conc.events_askRoom _ _ _ ev hev with h | ⟨m, h, hn⟩
    · simp at h
    · rw [h, show m = .noRoom from hn]; rfl
  have hfn := run_firstCells_some (P := Tryz.prog) w.drew inf.size 1 ⟨nb, 0, none⟩ 1 1 [.int .i64 t, f] hl (by simpa using hnews); have hfn' := run_firstCells_some (P := Tryz.prog) w inf.size 1 ⟨nb, 0, none⟩ 1 1 [.int .i64 t, f] hl (by simpa using hnews)
  have grown : ∀ old : Nat, old < 1 → One N (w.drew.alloc (.cells (#[.int .i64 t, f] ++ Builtin.zeroCells z.cells (grownCap w 1 old 128 - 1)) 128)) (.slice (some ⟨w.heap.size, 0, none⟩) 1 (grownCap w 1 old 128)) t f ∧
      w.grownBy (w.drew.alloc (.cells (#[.int .i64 t, f] ++ Builtin.zeroCells z.cells (grownCap w 1 old 128 - 1)) 128)) v.ownBlock := by
    intro old ho; have hge := grownCap_ge w 1 old 128; obtain ⟨c, hc⟩ : ∃ c, grownCap w 1 old 128 = c + 1 := ⟨grownCap w 1 old 128 - 1, by omega⟩; have e0 : (#[.int .i64 t, f] ++ Builtin.zeroCells z.cells (grownCap w 1 old 128 - 1))[0]? = some (.int .i64 t) := by rw [Array.getElem?_append_left (by simp)]; rfl
    have e1 : (#[.int .i64 t, f] ++ Builtin.zeroCells z.cells (grownCap w 1 old 128 - 1))[0 + 1]? = some f := by rw [Array.getElem?_append_left (by simp)]; rfl
    refine ⟨⟨w.heap.size, 0, c, _, by rw [hc], hN, hp_new (w := w.drew) rfl rfl, ?_, e0, e1⟩, ⟨rfl, rfl, rfl, by simp, fun k hk _ => Below.heap_alloc w.drew _ k hk⟩⟩; simp only [Array.size_append, List.size_toArray, List.length_cons, List.length_nil, size_zeroCells, i5, hc]; omega
  rcases he with rfl | ⟨E, off, cap, cur, rfl, hE, hcur, hcap⟩
  · have hr := run_append_nil (P := Tryz.prog) w 100 ty 128 inf z und100 i1 i2 ⟨nb, 0, none⟩ 1 1 [.int .i64 t, f] hl hnews (by omega) (by omega) (by omega)
    obtain ⟨g1, g2⟩ := grown 0 (by omega); refine ⟨_, _, hr, g1, g2, .inr rfl, fun ev hev => ?_⟩; have h48' : ¬ (281474976710656 < Builtin.nextslicecap 1 0 * inf.bytes) := by rw [nextslicecap_zero (by omega), i4]; omega
    simp [Builtin.append_, run_underlying und100, sizeOf, typeInfo, zeroValue, i1, i2, Builtin.lenOf, h48', Question.forced, run_firstCells_none, hfn, newRow] at hev; rcases src w.drew (fun _ => rfl) _ ev hev with h | h
    · have := none0 _ _ _ ⟨none, 0, rfl⟩ ev h
      exact .inr (room _ _ ev this)
    · exact fin ev h
  · by_cases hc0 : cap = 0
    · subst hc0
      have hr := run_append_grow (P := Tryz.prog) w 100 ty 128 inf z und100 i1 i2 ⟨E, off, none⟩ 0 0 [] (by simp) (by intro j v h; simp at h) ⟨nb, 0, none⟩ 1 1 [.int .i64 t, f] hl hnews (by omega) (by omega) (growslice_fits (by omega) (by omega)); obtain ⟨g1, g2⟩ := grown 0 (by omega); simp only [Nat.zero_add, List.toArray, Array.empty_append] at hr; refine ⟨_, _, hr, g1, g2, .inr rfl, fun ev hev => ?_⟩; have h48' : ¬ (281474976710656 < Builtin.nextslicecap 1 0 * inf.bytes) := by rw [nextslicecap_zero (by omega), i4]; omega
      have hfo := run_firstCells_some (P := Tryz.prog) w.drew inf.size 0 ⟨E, off, none⟩ 0 0 [] (by simp) (by intro j v h; simp at h); simp [Builtin.append_, run_underlying und100, sizeOf, typeInfo, zeroValue, i1, i2, Builtin.lenOf, h48', Question.forced, hfo, hfn, newRow] at hev; rcases src w.drew (fun _ => rfl) _ ev hev with h | h
      · have := none0 _ _ _ ⟨some ⟨E, off, none⟩, 0, rfl⟩ ev h
        exact .inr (room _ _ ev this)
      · exact fin ev h
    · have hroom : 1 ≤ cap := by omega
      obtain ⟨c, rfl⟩ : ∃ c, cap = c + 1 := ⟨cap - 1, by omega⟩; have hst := run_storeCells_at (P := Tryz.prog) E off 128 [.int .i64 t, f] 0 cur w hcur (by simp; omega) hone
      have hr : (Builtin.append_ #[100, 100] ty #[.slice (some ⟨E, off, none⟩) 0 (c + 1), .slice (some ⟨nb, 0, none⟩) 1 1]).run Tryz.prog w = .ok (.slice (some ⟨E, off, none⟩) 1 (c + 1)) (w.setRow E (cur.toList.take off ++ [.int .i64 t, f] ++ cur.toList.drop (off + 2)).toArray) := by
        simp only [Nat.add_zero, List.length_cons, List.length_nil] at hst; simp [Builtin.append_, run_underlying und100, sizeOf, typeInfo, i1, Builtin.lenOf, hfn', Addr.add_lit, hst]
      have hsz : (cur.toList.take off ++ [.int .i64 t, f] ++ cur.toList.drop (off + 2)).toArray.size = cur.size := by
        simp only [List.size_toArray, List.length_append, List.length_take, List.length_drop, Array.length_toList, List.length_cons, List.length_nil]; omega
      have hto : (cur.toList.take off).length = off := by simp; omega
      refine ⟨_, _, hr, ⟨E, off, c, _, rfl, hE, setRow_heap w E cur _ 128 _ hcur, by rw [hsz]; exact hcap, ?_, ?_⟩, ⟨rfl, rfl, rfl, by simp, fun k _ hk => setRow_other w E k _ (fun e => hk (by simp [Value.ownBlock, e]))⟩, .inl rfl, fun ev hev => ?_⟩
      · rw [List.getElem?_toArray, List.append_assoc, List.getElem?_append_right (by omega), hto]; simp
      · rw [List.getElem?_toArray, List.append_assoc, List.getElem?_append_right (by omega), hto]; simp
      · simp [Builtin.append_, run_underlying und100, sizeOf, typeInfo, i1, Builtin.lenOf, hfn', Addr.add_lit] at hev
        rcases events_storeCells_at (P := Tryz.prog) E off 128 [.int .i64 t, f] 0 cur w _ hcur (by simp; omega) hone ev hev with h | ⟨ad, h2, h3⟩
        · rcases src _ (fun _ => rfl) _ ev h with h | h
          · simp at h
          · exact fin ev h
        · exact .inl ⟨ad, h2, .inr (by simp [Value.ownBlock, h3])⟩

theorem Fut.append0 {main : Bool} {Ok : Addr → Bool → Prop} {Ψ : Goroutine → World → Prop} {b : Frame} {a : Act} {k : List Item} {cs : List Frame} {w : World} (F : Fut Tryz.prog main (DX Ok) Ψ) {ops : Array Oper} {i : Nat} {rest : List Nat} {o : Oper}
    (ho : ops[i]? = some o) (hw : Region.wanted o (yielded ops a.tmps) = true) (hk : b.kind ≠ .early) (s x : Operand) (hop : o.op = .call { callee := .builtin .append, args := #[s, x], argTypes := #[100, 100] })
    {N nb : Nat} {v f : Value} {t : Int} (hN : N ≤ w.heap.size) (hs : a.eval s = v) (hx : a.eval x = .slice (some ⟨nb, 0, none⟩) 1 1) (he : Emp N w v) (h0 : w.cell? ⟨nb, 0, none⟩ = some (.int .i64 t)) (h1 : w.cell? ⟨nb, 1, none⟩ = some f) (hf : f.oneCell' = true)
    (okrow : ∀ (ad : Addr) (wr : Bool), some ad.block = v.ownBlock → Ok ad wr) (oknb : ∀ ad : Addr, ad.block = nb → Ok ad false)
    (h : ∀ v' w', One N w' v' t f → w.grownBy w' v.ownBlock → (v'.ownBlock = v.ownBlock ∨ v'.ownBlock = some w.heap.size) → Ψ (G (b.at (a.put o.dst v') (.inRegion ops rest :: k)) cs) w') :
    Ψ (G (b.at a (.inRegion ops (i :: rest) :: k)) cs) w := by
  refine F.opd ho hw hk fun d K hK => ?_
  obtain ⟨v', w', hr, ho', hg, hb, hev⟩ := run_append0 (w.at d) o.type (N := N) hN (v := v) he h0 h1 hf; refine uponK_append s x 100 hop hs hx hr (hK _ w' ⟨⟨fun ev hv => ?_, hg.size, fun c ob hob hn => ?_, fun ad had hlt => ?_, fun kk hkk hnn => hg.block kk hkk (fun z => hnn ⟨kk, 0, none⟩ rfl (okrow _ _ z)), hg.os, hg.tape, hg.output⟩, h v' w' ho' ⟨hg.os, hg.tape, hg.output, hg.size, hg.block⟩ hb⟩)
  · have hm := mem_listed hv
    rw [events_append_op s x 100 hop hs hx] at hm; rcases hev ev hm with ⟨ad, e1, ⟨e2, e3⟩ | e2⟩ | e1
    · exact .inl ⟨ad, e1, rfl, by rw [e2]; exact oknb ad e3, by rw [e3]; exact Nat.lt_of_lt_of_le (lt_of_cell (w := w) h0) hg.size⟩
    · obtain ⟨q1, cur, q2⟩ := Emp.lt he e2.symm
      exact .inl ⟨ad, e1, rfl, okrow _ _ e2, Nat.lt_of_lt_of_le (Array.getElem?_eq_some_iff.1 q2).1 hg.size⟩
    · exact .inr e1
  · have hne : some c ≠ v.ownBlock := fun z => by
      obtain ⟨_, cur, q2⟩ := Emp.lt he z.symm; have : w.heap[c]? = some ob := hob; rw [q2] at this; exact hn _ _ _ (Option.some.inj this).symm
    exact (hg.block c (Array.getElem?_eq_some_iff.1 hob).1 hne).trans hob
  · have hne : some ad.block ≠ v.ownBlock := fun z => had (okrow _ _ z)
    have := hg.block _ hlt hne; exact ⟨World.cell?_of_block this, World.frozen?_of_block this⟩
end
section
open Go.Conc Go.RowKit
variable {main : Bool} {Ok : Addr → Bool → Prop}

theorem ev_sl0 (w : World) (b : Option Addr) (c : Nat) : (Instr.sliceAt 100 (.slice b 0 c) (some (.int .i64 0)) none none).events Tryz.prog w #[] = #[] := by
  simp [Instr.sliceAt, run_underlying und100, Instr.slice, Instr.sliceBounds, Instr.sliceBound, asInt, asIntOf]
theorem ev_sl1 (w : World) (b : Option Addr) (c : Nat) : (Instr.sliceAt 100 (.slice b 1 (c + 1)) (some (.int .i64 1)) none none).events Tryz.prog w #[] = #[] := by
  simp [Instr.sliceAt, run_underlying und100, Instr.slice, Instr.sliceBounds, Instr.sliceBound, asInt, asIntOf]
theorem Emp.form {N : Nat} {w : World} {v : Value} (h : Emp N w v) : ∃ base cap, v = .slice base 0 cap ∧ (base = none → cap = 0) := by
  rcases h with rfl | ⟨E, off, cap, cur, rfl, _⟩
  · exact ⟨none, 0, rfl, fun _ => rfl⟩
  · exact ⟨some ⟨E, off, none⟩, cap, rfl, fun h => by cases h⟩

theorem insert_x (N nb : Nat) (t : Int) (f v : Value) (w0 : World) (hN : N ≤ w0.heap.size) (he : Emp N w0 v) (h0 : w0.cell? ⟨nb, 0, none⟩ = some (.int .i64 t)) (h1 : w0.cell? ⟨nb, 1, none⟩ = some f) (hf : f.oneCell' = true) (okrow : ∀ (ad : Addr) (wr : Bool), some ad.block = v.ownBlock → Ok ad wr) (oknb : ∀ ad : Addr, ad.block = nb → Ok ad false) :
    CallsX Tryz.prog main (DX Ok) 60 #[v, .int .i64 0, .slice (some ⟨nb, 0, none⟩) 1 1] w0 fun v' w' => One N w' v' t f ∧ Kp (rowL v) w0 w' ∧ ∀ g ∈ rowL v', g ∈ rowL v ∨ g = w0.heap.size := by
  intro Ψ F c cs hc; obtain ⟨base, cap, hv, hbc⟩ := he.form; subst hv; rw [enter_at _ Tryz.func60 rfl]; simp only [Tryz.ntmps60, List.size_toArray, List.length_cons, List.length_nil, Nat.reduceAdd, Nat.reduceSub, Array.replicate_succ, Array.replicate_zero, List.push_toArray, List.append_toArray, List.nil_append, List.cons_append]; refine F.sr ?_; simp only [rg, Nat.reduceAdd]; refine F.oq rfl rfl rfl (by simp [go_sem]) fun d K h => ?_; go_simp; refine h _ ?_; clear h K d; try walk_nrm
  refine F.re ?_; cases base with
  | none =>
    obtain rfl := hbc rfl; refine F.sr ?_; simp only [rg, Nat.reduceAdd]; iterate 2 (refine F.oq rfl rfl rfl (by simp [go_sem]) fun d K h => ?_; go_simp; refine h _ ?_; clear h K d; try walk_nrm)
    refine F.opq rfl rfl (by decide) (fun _ => (by first | (simp [go_sem, ev_sl0, ev_sl1]; done) | (simp [go_sem, Instr.makeInterface, Instr.makeFunc]; done) | (simp [go_sem, *]; done))) (fun d K hK => ?_); go_simp; refine hK _ ?_; clear hK K d; try walk_nrm
    refine F.esr ?_; simp only [rg, Nat.reduceAdd]; iterate 3 (refine F.oq rfl rfl rfl (by simp [go_sem]) fun d K h => ?_; go_simp; refine h _ ?_; clear h K d; try walk_nrm)
    refine F.es ?_; refine F.sr ?_; simp only [rg, Nat.reduceAdd]; iterate 2 (refine F.oq rfl rfl rfl (by simp [go_sem]) fun d K h => ?_; go_simp; refine h _ ?_; clear h K d; try walk_nrm)
    refine F.re ?_; refine F.cf rfl ?_; refine F.sk ?_; refine F.sr ?_; simp only [rg, Nat.reduceAdd]; iterate 3 (refine F.oq rfl rfl rfl (by simp [go_sem]) fun d K h => ?_; go_simp; refine h _ ?_; clear h K d; try walk_nrm)
    refine F.es ?_; refine F.sr ?_; simp only [rg, Nat.reduceAdd]; iterate 3 (refine F.oq rfl rfl rfl (by simp [go_sem]) fun d K h => ?_; go_simp; refine h _ ?_; clear h K d; try walk_nrm)
    refine F.re ?_; refine F.ct rfl ?_; refine F.sr ?_; simp only [rg, Nat.reduceAdd]; iterate 2 (refine F.oq rfl rfl rfl (by simp [go_sem]) fun d K h => ?_; go_simp; refine h _ ?_; clear h K d; try walk_nrm)
    refine F.append0 rfl rfl (by decide) (.tmp 23) (.tmp 24) rfl (N := N) (nb := nb) hN rfl rfl he h0 h1 hf okrow oknb ?_; intro v' w' ho hg hb; try walk_nrm
    refine F.oq rfl rfl rfl (by simp [go_sem]) fun d K h => ?_; go_simp; refine h _ ?_; clear h K d; try walk_nrm
    refine F.re ?_; refine F.ctl (fun _ => stepG_ret') ?_; refine F.leave rfl rfl Tryz.func60 (resultsC_tmp (by rfl) _) ?_; exact hc _ _ ⟨ho, Kp.grown hg, fun g (h : g ∈ rowL v') => by rw [mem_rowL] at h ⊢; rcases hb with y | y; exact .inl (y ▸ h); right; exact Option.some.inj (h.symm.trans y)⟩
  | some ad =>
    refine F.sr ?_; simp only [rg, Nat.reduceAdd]; iterate 2 (refine F.oq rfl rfl rfl (by simp [go_sem]) fun d K h => ?_; go_simp; refine h _ ?_; clear h K d; try walk_nrm)
    refine F.opq rfl rfl (by decide) (fun _ => (by first | (simp [go_sem, ev_sl0, ev_sl1]; done) | (simp [go_sem, Instr.makeInterface, Instr.makeFunc]; done) | (simp [go_sem, *]; done))) (fun d K hK => ?_); go_simp; refine hK _ ?_; clear hK K d; try walk_nrm
    refine F.esr ?_; simp only [rg, Nat.reduceAdd]; iterate 3 (refine F.oq rfl rfl rfl (by simp [go_sem]) fun d K h => ?_; go_simp; refine h _ ?_; clear h K d; try walk_nrm)
    refine F.es ?_; refine F.sr ?_; simp only [rg, Nat.reduceAdd]; iterate 2 (refine F.oq rfl rfl rfl (by simp [go_sem]) fun d K h => ?_; go_simp; refine h _ ?_; clear h K d; try walk_nrm)
    refine F.re ?_; refine F.cf rfl ?_; refine F.sk ?_; refine F.sr ?_; simp only [rg, Nat.reduceAdd]; iterate 3 (refine F.oq rfl rfl rfl (by simp [go_sem]) fun d K h => ?_; go_simp; refine h _ ?_; clear h K d; try walk_nrm)
    refine F.es ?_; refine F.sr ?_; simp only [rg, Nat.reduceAdd]; iterate 3 (refine F.oq rfl rfl rfl (by simp [go_sem]) fun d K h => ?_; go_simp; refine h _ ?_; clear h K d; try walk_nrm)
    refine F.re ?_; refine F.ct rfl ?_; refine F.sr ?_; simp only [rg, Nat.reduceAdd]; iterate 2 (refine F.oq rfl rfl rfl (by simp [go_sem]) fun d K h => ?_; go_simp; refine h _ ?_; clear h K d; try walk_nrm)
    refine F.append0 rfl rfl (by decide) (.tmp 23) (.tmp 24) rfl (N := N) (nb := nb) hN rfl rfl he h0 h1 hf okrow oknb ?_; intro v' w' ho hg hb; try walk_nrm
    refine F.oq rfl rfl rfl (by simp [go_sem]) fun d K h => ?_; go_simp; refine h _ ?_; clear h K d; try walk_nrm
    refine F.re ?_; refine F.ctl (fun _ => stepG_ret') ?_; refine F.leave rfl rfl Tryz.func60 (resultsC_tmp (by rfl) _) ?_; exact hc _ _ ⟨ho, Kp.grown hg, fun g (h : g ∈ rowL v') => by rw [mem_rowL] at h ⊢; rcases hb with y | y; exact .inl (y ▸ h); right; exact Option.some.inj (h.symm.trans y)⟩

theorem Emp.al {N : Nat} {w w₁ : World} {v : Value} {o : Obj} (h : Emp N w v) (e : w.alloc o = w₁) : Emp N w₁ v := by
  subst e; refine h.imp id fun ⟨E, off, cap, cur, h1, h2, h3, h4⟩ => ⟨E, off, cap, cur, h1, h2, ?_, h4⟩
  rw [Below.heap_alloc _ _ _ (Array.getElem?_eq_some_iff.1 h3).1]; exact h3
theorem Emp.rowN {N B : Nat} {w : World} {v : Value} (h : Emp N w v) (hB : B < N) : B ∉ rowL v := fun z => by
  have := (h.lt (mem_rowL.1 z)).1; omega
theorem One.st {N : Nat} {w w₁ : World} {v f u : Value} {t : Int} {p : Addr} (h : One N w v t f) (e : w.setCell p u = w₁) (hp : p.block ∉ rowL v) : One N w₁ v t f := by
  obtain ⟨E, off, cap, cur, h1, h2, h3, h4⟩ := h; subst e; refine ⟨E, off, cap, cur, h1, h2, ?_, h4⟩; subst h1; have : p.block ≠ E := fun z => hp (mem_rowL.2 (by simp [Value.ownBlock, z]))
  simp only [World.setCell, Array.getElem?_modify, this, if_false]; exact h3

theorem put_x (N A : Nat) (t : Int) (fn : Fn) (fst cap' : Array Value) (v : Value) (w0 : World) (hN : N ≤ w0.heap.size) (lA : A < N) (he : Emp N w0 v) (hA1 : w0.cell? ⟨A, 1, none⟩ = some v) (zA1 : w0.frozen? ⟨A, 1, none⟩ = false) (okr : Ok ⟨A, 1, none⟩ false) (okw : Ok ⟨A, 1, none⟩ true) (okE : ∀ (a : Addr) (wr : Bool), a.block ∈ rowL v ∨ w0.heap.size ≤ a.block → Ok a wr) :
    CallsX Tryz.prog main (DX Ok) 49 #[.pointer (some ⟨A, 0, none⟩), .int .i64 t, .func fn fst cap'] w0 fun r w' => r = .tuple #[] ∧ Kp (rowL v) w0 w' [⟨A, 1, none⟩] ∧ ∃ v', w'.cell? ⟨A, 1, none⟩ = some v' ∧ w'.frozen? ⟨A, 1, none⟩ = false ∧ One N w' v' t (.func fn fst cap') ∧ ∀ g ∈ rowL v', g ∈ rowL v ∨ w0.heap.size ≤ g := by
  intro Ψ F c cs hc; obtain ⟨base, cap, hv, hbc⟩ := he.form; have hq := he.rowN lA; subst hv; rw [enter_at _ Tryz.func49 rfl]; simp only [Tryz.ntmps49, List.size_toArray, List.length_cons, List.length_nil, Nat.reduceAdd, Nat.reduceSub, Array.replicate_succ, Array.replicate_zero, List.push_toArray, List.append_toArray, List.nil_append, List.cons_append]; refine F.sr ?_; simp only [rg, Nat.reduceAdd]; iterate 3 (refine F.oq rfl rfl rfl (by simp [go_sem]) fun d K h => ?_; go_simp; refine h _ ?_; clear h K d; try walk_nrm)
  refine F.ol rfl rfl rfl fun d K h => ?_; go_simp; refine h _ (fun e m => ?_) ?_; simp [go_sem, *] at m; subst m; exact evr (w := w0) (by assumption) (by first | assumption | (apply hfr <;> dsimp only <;> omega)); clear h K d; try walk_nrm
  iterate 2 (refine F.oq rfl rfl rfl (by simp [go_sem]) fun d K h => ?_; go_simp; refine h _ ?_; clear h K d; try walk_nrm)
  refine F.es ?_; refine F.bl ?_; refine F.ctl (fun _ => stepG_loop) ?_; refine F.sq ?_; refine F.sr ?_; simp only [rg, Nat.reduceAdd]; iterate 3 (refine F.oq rfl rfl rfl (by simp [go_sem]) fun d K h => ?_; go_simp; refine h _ ?_; clear h K d; try walk_nrm)
  refine F.unwanted rfl rfl ?_; try walk_nrm
  refine F.unwanted rfl rfl ?_; try walk_nrm
  refine F.unwanted rfl rfl ?_; try walk_nrm
  refine F.unwanted rfl rfl ?_; try walk_nrm
  refine F.unwanted rfl rfl ?_; try walk_nrm
  refine F.unwanted rfl rfl ?_; try walk_nrm
  refine F.unwanted rfl rfl ?_; try walk_nrm
  refine F.unwanted rfl rfl ?_; try walk_nrm
  refine F.unwanted rfl rfl ?_; try walk_nrm
  refine F.unwanted rfl rfl ?_; try walk_nrm
  refine F.unwanted rfl rfl ?_; try walk_nrm
  refine F.oq rfl rfl rfl (by simp [go_sem]) fun d K h => ?_; go_simp; refine h _ ?_; clear h K d; try walk_nrm
  refine F.re ?_; refine F.cf rfl ?_; refine F.ctl (fun _ => stepG_exit rfl) ?_; refine F.rr ?_; simp only [rg, Nat.reduceAdd]; iterate 4 (refine F.oq rfl rfl rfl (by simp [go_sem]) fun d K h => ?_; go_simp; refine h _ ?_; clear h K d; try walk_nrm)
  refine F.ol rfl rfl rfl fun d K h => ?_; go_simp; refine h _ (fun e m => ?_) ?_; simp [go_sem, *] at m; subst m; exact evr (w := w0) (by assumption) (by first | assumption | (apply hfr <;> dsimp only <;> omega)); clear h K d; try walk_nrm
  iterate 4 (refine F.oq rfl rfl rfl (by simp [go_sem]) fun d K h => ?_; go_simp; refine h _ ?_; clear h K d; try walk_nrm)
  refine F.op rfl rfl (by decide) (fun d K hK => ?_); go_simp; rw [alloc_at']; refine hK _ _ ⟨DX.alloc _ _ (fun e he => ?_), ?_⟩
  · have hm := mem_listed he
    simp [go_sem] at hm
  clear hK K d; try walk_nrm
  generalize ew1 : World.alloc w0 _ = w1; generalize hn1 : (World.heap w0).size = n1; have sz1 := sz_al ew1 hn1; replace zA1 := fz_al zA1 hA1 ew1; replace hA1 := cl_al hA1 ew1; have he0 := cl_new (i := 0) ew1 hn1 rfl; have ze0 := fz_new ew1 hn1 0; have he1 := cl_new (i := 1) ew1 hn1 rfl; have ze1 := fz_new ew1 hn1 1; try simp only [List.getElem_toArray, List.getElem_cons_zero, List.getElem_cons_succ] at he0 he1
  have kp : Kp (rowL (.slice base 0 cap)) w0 w0 [⟨A, 1, none⟩] := Kp.refl _; replace kp := kp.alN ew1; have hem := he.al ew1; refine F.enter rfl rfl (by decide) (fun _ => run_call_body rfl Tryz.func60 (by rfl) (by rfl)) (fun _ => events_call_body rfl Tryz.func60 (by rfl) (by rfl) _) ?_; walk_nrm; refine insert_x N n1 t (.func fn fst cap') _ w1 (by omega) hem he0 he1 rfl (fun ad wr h => okE ad wr (.inl (mem_rowL.2 h.symm))) (fun ad h => okE ad false (.inr (by omega))) Ψ F _ _ (fun v w' hp => ?_); obtain ⟨ho, kg, hrow⟩ := hp; rw [Frame.finish_at]; try walk_nrm
  have hA1' := kg.cell _ _ hq hA1; have zA1' := (kg.froz _ _ hq hA1).trans zA1; replace kp := kp.callM kg (fun x hx => .inl hx); obtain ⟨E, off, cp, cur, hv, o2⟩ := id ho; have hq2 : A ∉ rowL v := fun z => by rcases hrow A z with y | y; exact hq y; omega
  subst hv; clear hA1 zA1 he0 he1 ze0 ze1; iterate 2 (refine F.oq rfl rfl rfl (by simp [go_sem]) fun d K h => ?_; go_simp; refine h _ ?_; clear h K d; try walk_nrm)
  refine F.op rfl rfl (by decide) (fun d K hK => ?_); go_simp; rw [setCell_at']; refine hK _ _ ⟨DX.set _ (by (first | assumption | (apply hfr <;> dsimp only <;> omega))) (fun e he => ?_), ?_⟩
  · have hm := mem_listed he
    simp [go_sem, storedEv, evst_slice, evst_ptr, evst_iface, evst_nil, evst_bool, *] at hm; subst hm; exact .inl ⟨_, rfl, rfl, by (first | assumption | (apply hfr <;> dsimp only <;> omega)), by show _ < (World.setCell _ _ _).heap.size; simp [World.setCell]; first | omega | exact lt_of_cell (by assumption)⟩
  clear hK K d; try walk_nrm
  generalize ew2 : World.setCell w' _ _ = w2; have sz2 := sz_st ew2; replace zA1' := fz_st zA1' ew2; replace hA1' := cl_st' hA1' ew2; replace kp := kp.stN ew2 (by first | (left; simp; done) | (right; left; simp; done) | (right; right; dsimp only; omega)); refine F.re ?_; refine F.ctl (fun _ => stepG_end) ?_; refine F.leave rfl rfl Tryz.func49 (resultsC_none (by rfl) _) ?_; exact hc _ _ ⟨rfl, kp, _, hA1', zA1', ho.st ew2 hq2, fun g h => (hrow g h).imp id fun y => by omega⟩
end
end Go.Proofs.YtobagnjnbmgidaaGreatDoor
