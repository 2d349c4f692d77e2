/- The task's goroutine, behind its last hand-over: it counts the group down, and leaves. -/
import Derived.Test.YtobagnjnbmgidaaGreatDoorX45
import Derived.Test.YtobagnjnbmgidaaGreatDoorX28
set_option linter.unusedSimpArgs false
set_option linter.unusedVariables false
namespace Go.Proofs.YtobagnjnbmgidaaGreatDoor
open Go.Conc Go.RowKit

def botOf (n : Nat) : Frame := { (default : Frame) with fn := n, defers := [], mode := .panicking [goexitEntry] }
def call89 (bg bf : Nat) : Deferred := { target := .fn (.func 89) #[.pointer (some ⟨bg, 0, none⟩), .pointer (some ⟨bf, 0, none⟩)], args := #[] }
theorem born89 (bg bf : Nat) (w : World) : stepG Tryz.prog false (born Tryz.prog (call89 bg bf)) w = .go (G ((baseD 89).at ⟨#[.pointer (some ⟨bg, 0, none⟩), .pointer (some ⟨bf, 0, none⟩), undef, undef, undef], []⟩ [.code (Tryz.f89.body.getD .skip)]) [(botOf Tryz.prog.funcs.size)]) w #[] := by
  simp [born, call89, stepG, unwind, callDeferred, invoke, callFunc, Tryz.func89, Tryz.f89, seen, GStep.after, G, Frame.enter, Frame.at, baseD, botOf]
theorem quits89 (T : Array Value) : ∃ n, QuitsD Tryz.prog n 0 (G { (baseD 89).at ⟨T, []⟩ [] with mode := .returning } [(botOf Tryz.prog.funcs.size)]) := by
  refine ⟨2, QuitsD.ctl (g' := G (botOf Tryz.prog.funcs.size) []) rfl (fun w => ?_) ?_⟩
  · simp [G, stepG, unwind, doReturn, results, Frame.at, baseD, botOf, Tryz.func89, Tryz.f89, seen, GStep.after, goexitEntry]
  refine QuitsD.ctl (g' := { G (botOf Tryz.prog.funcs.size) [] with status := .finished }) rfl (fun w => ?_) ⟨rfl, rfl⟩
  simp [G, stepG, unwind, botOf, goexitEntry, Frame.catches]
  rfl

theorem listed_norace {P : Program} {fn : FuncId} {a : Act} {o : Oper} {w : World} {ad : Addr} (hq : (P.funcs[fn]?).any (·.norace) = true) (he : (execOp a.eval o).events P w #[] = #[⟨.cell ad, false, false⟩]) : listed P fn a o w = #[] := by
  unfold listed
  rw [he, seen_def]
  simp [seenStep, hq]

section
variable {P : Program} {main : Bool} {K : World → Prop} {Ev : Event → Prop} {Ψ : Goroutine → Prop} {b : Frame} {a A : Act} {k : List Item} {cs : List Frame} {ops : Array Oper} {i : Nat} {rest : List Nat} {o : Oper} {Gp : Grp} {g g' g₁ g₂ : Goroutine}
/-- An operation that reads memory within a package that is not watched. -/
theorem QF.opn (F : QF P main K Ev Ψ) (ho : ops[i]? = some o) (hw : Region.wanted o (yielded ops a.tmps) = true) (hk : b.kind ≠ .early) (hl : ∀ w, K w → listed P b.fn a o w = #[])
    (h : ∀ w, K w → uponK o a (fun a' w' => w' = w ∧ a' = A) ((execOp a.eval o).run P w)) (hn : Ψ (G (b.at A (.inRegion ops rest :: k)) cs)) : Ψ (G (b.at a (.inRegion ops (i :: rest) :: k)) cs) := by
  refine F.step _ _ rfl (fun w hK => ⟨#[], ?_, fun e hm => by simp at hm⟩) hn
  have := goes_oper_k (P := P) (main := main) (k := k) (cs := cs) (rest := rest) (K := fun g' w' es => g' = G (b.at A (.inRegion ops rest :: k)) cs ∧ w' = w ∧ es = listed P b.fn a o w) ho hw hk (fun K' hK' => uponK_mono (fun a' w' x => by obtain ⟨rfl, rfl⟩ := x; exact hK' _ _ ⟨rfl, rfl, rfl⟩) (h w hK))
  revert this
  cases stepG P main (G (b.at a (.inRegion ops (i :: rest) :: k)) cs) w <;> intro this
  case go g' w' es => rw [goes_go] at this; obtain ⟨rfl, rfl, rfl⟩ := this; rw [hl _ hK]
  all_goals exact this.elim

theorem quitsD_mono : ∀ {n d : Nat} {g : Goroutine}, QuitsD P n d g → ∀ m, n ≤ m → QuitsD P m d g
  | 0, d, g, h, m, hm => by cases m with | zero => exact h | succ m => exact .inl h
  | n + 1, d, g, h, m, hm => by
    obtain ⟨m, rfl⟩ : ∃ j, m = j + 1 := ⟨m - 1, by omega⟩
    rcases h with h | ⟨hs, g', es, h1, h2, h3⟩
    · exact .inl h
    · exact .inr ⟨hs, g', es, h1, h2, quitsD_mono h3 m (by omega)⟩
theorem csn_up : ∀ (n m t : Nat) (g : Goroutine), n ≤ m → CSn P K Gp n t g → CSn P K Gp m t g
  | 0, _, _, _, _, x => x.elim
  | n + 1, 0, _, _, h, _ => absurd h (by omega)
  | n + 1, m + 1, _, _, h, x => CS1.mono (fun t g => csn_up n m t g (by omega)) (fun _ q => quitsD_mono q m (by omega)) x
theorem cs_mono {t n : Nat} {g : Goroutine} (h : CS P K Gp t n g) (m : Nat) (hm : n ≤ m) : CS P K Gp t m g := csn_up n m t g hm h
theorem cs_rel (hs : g.status = .running) (h : ∀ w, K w → stepG P false g w = .go g' w #[mkE (.releaseMerge Gp.st)]) (hn : ∃ n, CS P K Gp 1 n g') : ∃ n, CS P K Gp 0 n g := by obtain ⟨n, x⟩ := hn; exact ⟨n + 1, .rel hs h x⟩
theorem cs_disable (hs : g.status = .running) (h : ∀ w, K w → stepG P false g w = .go g' w #[mkE .disable]) (hn : ∃ n, CS P K Gp 2 n g') : ∃ n, CS P K Gp 1 n g := by obtain ⟨n, x⟩ := hn; exact ⟨n + 1, .disable hs h x⟩
theorem cs_add (hs : g.status = .running) (h0 : ∀ w, K w → Num .u64 Gp.st w 4294967296 → stepG P false g w = .go g₁ (w.setCell Gp.st (.int .u64 0)) #[rdE Gp.st, wrE Gp.st]) (h1 : ∀ w, K w → Num .u64 Gp.st w 4294967297 → stepG P false g w = .go g₂ (w.setCell Gp.st (.int .u64 1)) #[rdE Gp.st, wrE Gp.st]) (n0 : ∃ n, QuitsD P n 1 g₁) (n1 : ∃ n, CS P K Gp 3 n g₂) : ∃ n, CS P K Gp 2 n g := by
  obtain ⟨n, x⟩ := n0
  obtain ⟨m, y⟩ := n1
  exact ⟨n + m + 1, .add hs h0 h1 (quitsD_mono x _ (by omega)) (cs_mono y _ (by omega))⟩
theorem cs_load (hs : g.status = .running) (h : ∀ w, K w → Num .u64 Gp.st w 1 → stepG P false g w = .go g' w #[rdE Gp.st]) (hn : ∃ n, CS P K Gp 4 n g') : ∃ n, CS P K Gp 3 n g := by obtain ⟨n, x⟩ := hn; exact ⟨n + 1, .load hs h x⟩
theorem cs_store (hs : g.status = .running) (h : ∀ w, K w → Num .u64 Gp.st w 1 → stepG P false g w = .go g' (w.setCell Gp.st (.int .u64 0)) #[wrE Gp.st]) (hn : ∃ n, CS P K Gp 5 n g') : ∃ n, CS P K Gp 4 n g := by obtain ⟨n, x⟩ := hn; exact ⟨n + 1, .store hs h x⟩
theorem cs_semrel (hs : g.status = .running) (hw : mayWake P g = true) (hs' : g'.status = .running) (h : ∀ w, K w → Num .u32 Gp.se w 0 → stepG P false g w = .go g' (w.setCell Gp.se (.int .u32 1)) (semEvents Gp.se)) (hn : ∃ n, QuitsD P n 1 g') : ∃ n, CS P K Gp 5 n g := by obtain ⟨n, x⟩ := hn; exact ⟨n + 1, .semrel hs hw hs' h x⟩
end

/-- Add's way out. -/
theorem quitsAdd (c : Frame) (cs : List Frame) (T : Array Value) (todo : List Item) (hq : ∃ n, QuitsD Tryz.prog n 0 (G (c.finish (.tuple #[])) cs)) : ∃ n, QuitsD Tryz.prog n 1 (G { (base 88).at ⟨T, [dcall 68 #[]]⟩ todo with mode := .returning } (c :: cs)) := by
  have F := qf_quits (P := Tryz.prog) 0
  have h1 : ∃ n, QuitsD Tryz.prog n 0 (G { (base 88).at ⟨T, []⟩ todo with mode := .returning } (c :: cs)) := by
    refine F.leave rfl rfl Tryz.func88 (resultsC_none (by rfl) _) ?_
    exact hq
  obtain ⟨n, h1⟩ := h1
  exact ⟨n + 1, QuitsD.unwind_mark .enable rfl (by simp) rfl Tryz.func68 (by rfl) (by kernel_rfl) (by kernel_rfl) (by kernel_rfl) h1⟩

set_option maxRecDepth 100000 in
set_option maxHeartbeats 8000000 in
theorem done88_cs {K : World → Prop} (A : Nat) (hc5 : ∀ w, K w → ∃ v, w.cell? ⟨A, 5, none⟩ = some v) (c : Frame) (cs : List Frame) (hend : ∃ n, QuitsD Tryz.prog n 0 (G (c.finish (.tuple #[])) cs)) :
    ∃ n, CS Tryz.prog K (grp A) 0 n (G (Frame.enter Tryz.prog 88 #[.pointer (some ⟨A, 5, none⟩), .int .i64 (-1)] .normal) (c :: cs)) := by
  have F := qf_cs (P := Tryz.prog) (K := K) (Gp := grp A) 0
  have w1 : IntKind.u64.wrap (-1) = 18446744073709551615 := by decide
  have w2 : IntKind.u64.wrap 79228162514264337589248983040 = 18446744069414584320 := by decide
  have w3 : IntKind.i32.wrap 0 = 0 := by decide
  have w4 : IntKind.u32.wrap 0 = 0 := by decide
  have w5 : IntKind.u32.wrap 1 = 1 := by decide
  have w6 : IntKind.u64.wrap 0 = 0 := by decide
  have w7 : IntKind.i32.wrap (-1) = -1 := by decide
  have n3 := nb3
  have n4 := nb4
  have n5 := nb5
  have n6 := nb6
  rw [enter_at _ Tryz.func88 rfl]
  simp only [Tryz.ntmps88, List.size_toArray, List.length_cons, List.length_nil, Nat.reduceAdd, Nat.reduceSub, Array.replicate_succ, Array.replicate_zero, List.push_toArray, List.append_toArray, List.nil_append, List.cons_append]
  refine F.sq ?_
  refine F.ct rfl ?_
  refine F.sq ?_
  refine F.sr ?_
  simp only [rg, Nat.reduceAdd]
  iterate 2 (refine F.oq rfl rfl rfl (by simp [go_sem]) (fun w hw => by go_simp; first | exact ⟨rfl, rfl⟩ | exact rfl) ?_; try walk_nrm)
  refine F.re ?_
  refine F.ct rfl ?_
  refine F.rr ?_
  simp only [rg, Nat.reduceAdd]
  refine F.oq rfl rfl rfl (by simp [go_sem]) (fun w hw => by go_simp; first | exact ⟨rfl, rfl⟩ | exact rfl) ?_; try walk_nrm
  apply F.opq rfl rfl (by decide)
  · intro w hw
    obtain ⟨v, hv⟩ := hc5 w hw
    simp [go_sem, cv174e hv]
  · intro w hw
    obtain ⟨v, hv⟩ := hc5 w hw
    go_simp
    simp only [cv174 hv]
    go_simp
    first | exact ⟨rfl, rfl⟩ | exact rfl
  try walk_nrm
  refine cs_rel rfl (fun w hw => stepG_markAt .releaseMerge (by simp) rfl rfl (by decide) rfl Tryz.func104 (by rfl) (by kernel_rfl) (by kernel_rfl) (by kernel_rfl) (ad := ⟨A, 5, none⟩) (by simp [Act.eval])) ?_
  walk_nrm
  clear F
  have F := qf_cs (P := Tryz.prog) (K := K) (Gp := grp A) 1
  refine F.esr ?_
  simp only [rg, Nat.reduceAdd]
  refine cs_disable rfl (fun w hw => stepG_mark0 .disable (by simp) rfl rfl (by decide) rfl Tryz.func66 (by rfl) (by kernel_rfl) (by kernel_rfl) (by kernel_rfl)) ?_
  walk_nrm
  clear F
  have F := qf_cs (P := Tryz.prog) (K := K) (Gp := grp A) 2
  refine F.er ?_
  simp only [rg, Nat.reduceAdd]
  refine F.ctl (fun _ => stepG_defer rfl rfl (by decide) rfl) ?_
  walk_nrm
  refine F.esr ?_
  simp only [rg, Nat.reduceAdd]
  refine F.oq rfl rfl rfl (by simp [go_sem]) (fun w hw => by go_simp; first | exact ⟨rfl, rfl⟩ | exact rfl) ?_; try walk_nrm
  refine F.es ?_
  refine F.sr ?_
  simp only [rg, Nat.reduceAdd]
  refine F.ctl (fun _ => stepG_entry_pure (.bool false) rfl rfl (by decide) rfl Tryz.func74 (by rfl) (by kernel_rfl) (by kernel_rfl) (by kernel_rfl)) ?_
  walk_nrm
  refine F.re ?_
  refine F.cf rfl ?_
  refine F.sk ?_
  refine F.sr ?_
  simp only [rg, Nat.reduceAdd]
  iterate 6 (refine F.oq rfl rfl rfl (by simp [go_sem]) (fun w hw => by go_simp; first | exact ⟨rfl, rfl⟩ | exact rfl) ?_; try walk_nrm)
  refine F.enter rfl rfl (by decide) (fun _ => run_call_body rfl Tryz.func108 (by rfl) (by rfl)) (fun _ => events_call_body rfl Tryz.func108 (by rfl) (by rfl) _) ?_
  walk_nrm
  rw [enter_at _ Tryz.func108 rfl]
  simp only [Tryz.ntmps108, List.size_toArray, List.length_cons, List.length_nil, Nat.reduceAdd, Nat.reduceSub, Array.replicate_succ, Array.replicate_zero, List.push_toArray, List.append_toArray, List.nil_append, List.cons_append]
  refine F.sr ?_
  simp only [rg, Nat.reduceAdd]
  refine F.oq rfl rfl rfl (by simp [go_sem]) (fun w hw => by go_simp; first | exact ⟨rfl, rfl⟩ | exact rfl) ?_; try walk_nrm
  refine F.esr ?_
  simp only [rg, Nat.reduceAdd]
  iterate 4 (refine F.oq rfl rfl rfl (by simp [go_sem]) (fun w hw => by go_simp; first | exact ⟨rfl, rfl⟩ | exact rfl) ?_; try walk_nrm)
  have e0 : IntKind.u64.wrap (4294967296 + 18446744069414584320) = 0 := by decide
  have e1 : IntKind.u64.wrap (4294967297 + 18446744069414584320) = 1 := by decide
  apply cs_add rfl
  · intro w hw hn
    rw [stepG_add_atomic (w := w) (ad := ⟨A, 5, none⟩) (v := 4294967296) (d := 18446744069414584320) rfl rfl (by decide) rfl Tryz.func122 (by rfl) (by kernel_rfl) (by kernel_rfl) .u64 (by kernel_rfl) rfl rfl hn.1 hn.2, e0]
    rfl
  · intro w hw hn
    rw [stepG_add_atomic (w := w) (ad := ⟨A, 5, none⟩) (v := 4294967297) (d := 18446744069414584320) rfl rfl (by decide) rfl Tryz.func122 (by rfl) (by kernel_rfl) (by kernel_rfl) .u64 (by kernel_rfl) rfl rfl hn.1 hn.2, e1]
    rfl
  · walk_nrm
    try simp only [e0]
    clear F
    have F := qf_quits (P := Tryz.prog) 1
    refine F.oq rfl rfl rfl (by simp [go_sem]) (fun w hw => by go_simp; first | exact ⟨rfl, rfl⟩ | exact rfl) ?_; try walk_nrm
    refine F.re ?_
    refine F.ctl (fun _ => stepG_ret') ?_
    refine F.leave rfl rfl Tryz.func108 (resultsC_tmp (by rfl) _) ?_
    rw [Frame.finish_at]
    try walk_nrm
    refine F.oq rfl rfl rfl (by simp [go_sem]) (fun w hw => by go_simp; first | exact ⟨rfl, rfl⟩ | exact rfl) ?_; try walk_nrm
    refine F.es ?_
    refine F.sr ?_
    simp only [rg, Nat.reduceAdd]
    iterate 4 (refine F.oq rfl rfl rfl (by simp [go_sem]) (fun w hw => by go_simp; first | exact ⟨rfl, rfl⟩ | exact rfl) ?_; try walk_nrm)
    refine F.unwanted rfl rfl ?_
    try walk_nrm
    refine F.unwanted rfl rfl ?_
    try walk_nrm
    refine F.oq rfl rfl rfl (by simp [go_sem]) (fun w hw => by go_simp; first | exact ⟨rfl, rfl⟩ | exact rfl) ?_; try walk_nrm
    refine F.re ?_
    refine F.cf rfl ?_
    refine F.sk ?_
    refine F.sr ?_
    simp only [rg, Nat.reduceAdd]
    iterate 4 (refine F.oq rfl rfl rfl (by simp [go_sem]) (fun w hw => by go_simp; first | exact ⟨rfl, rfl⟩ | exact rfl) ?_; try walk_nrm)
    refine F.esr ?_
    simp only [rg, Nat.reduceAdd]
    iterate 4 (refine F.oq rfl rfl rfl (by simp [go_sem]) (fun w hw => by go_simp; first | exact ⟨rfl, rfl⟩ | exact rfl) ?_; try walk_nrm)
    refine F.es ?_
    refine F.sr ?_
    simp only [rg, Nat.reduceAdd]
    iterate 5 (refine F.oq rfl rfl rfl (by simp [go_sem]) (fun w hw => by go_simp; first | exact ⟨rfl, rfl⟩ | exact rfl) ?_; try walk_nrm)
    refine F.unwanted rfl rfl ?_
    try walk_nrm
    refine F.unwanted rfl rfl ?_
    try walk_nrm
    refine F.unwanted rfl rfl ?_
    try walk_nrm
    refine F.unwanted rfl rfl ?_
    try walk_nrm
    refine F.oq rfl rfl rfl (by simp [go_sem]) (fun w hw => by go_simp; first | exact ⟨rfl, rfl⟩ | exact rfl) ?_; try walk_nrm
    refine F.re ?_
    refine F.cf rfl ?_
    refine F.sk ?_
    refine F.sq ?_
    refine F.sr ?_
    simp only [rg, Nat.reduceAdd]
    iterate 2 (refine F.oq rfl rfl rfl (by simp [go_sem]) (fun w hw => by go_simp; first | exact ⟨rfl, rfl⟩ | exact rfl) ?_; try walk_nrm)
    refine F.re ?_
    refine F.cf rfl ?_
    refine F.sk ?_
    refine F.sq ?_
    refine F.sr ?_
    simp only [rg, Nat.reduceAdd]
    iterate 3 (refine F.oq rfl rfl rfl (by simp [go_sem]) (fun w hw => by go_simp; first | exact ⟨rfl, rfl⟩ | exact rfl) ?_; try walk_nrm)
    refine F.unwanted rfl rfl ?_
    try walk_nrm
    refine F.unwanted rfl rfl ?_
    try walk_nrm
    iterate 2 (refine F.oq rfl rfl rfl (by simp [go_sem]) (fun w hw => by go_simp; first | exact ⟨rfl, rfl⟩ | exact rfl) ?_; try walk_nrm)
    refine F.unwanted rfl rfl ?_
    try walk_nrm
    refine F.unwanted rfl rfl ?_
    try walk_nrm
    refine F.unwanted rfl rfl ?_
    try walk_nrm
    refine F.unwanted rfl rfl ?_
    try walk_nrm
    refine F.oq rfl rfl rfl (by simp [go_sem]) (fun w hw => by go_simp; first | exact ⟨rfl, rfl⟩ | exact rfl) ?_; try walk_nrm
    refine F.re ?_
    refine F.cf rfl ?_
    refine F.sk ?_
    refine F.sq ?_
    refine F.sr ?_
    simp only [rg, Nat.reduceAdd]
    iterate 6 (refine F.oq rfl rfl rfl (by simp [go_sem]) (fun w hw => by go_simp; first | exact ⟨rfl, rfl⟩ | exact rfl) ?_; try walk_nrm)
    refine F.re ?_
    refine F.ct rfl ?_
    refine F.ctl (fun _ => stepG_ret') ?_
    exact quitsAdd _ _ _ _ hend
  walk_nrm
  try simp only [e1]
  clear F
  have F := qf_cs (P := Tryz.prog) (K := K) (Gp := grp A) 3
  refine F.oq rfl rfl rfl (by simp [go_sem]) (fun w hw => by go_simp; first | exact ⟨rfl, rfl⟩ | exact rfl) ?_; try walk_nrm
  refine F.re ?_
  refine F.ctl (fun _ => stepG_ret') ?_
  refine F.leave rfl rfl Tryz.func108 (resultsC_tmp (by rfl) _) ?_
  rw [Frame.finish_at]
  try walk_nrm
  refine F.oq rfl rfl rfl (by simp [go_sem]) (fun w hw => by go_simp; first | exact ⟨rfl, rfl⟩ | exact rfl) ?_; try walk_nrm
  refine F.es ?_
  refine F.sr ?_
  simp only [rg, Nat.reduceAdd]
  iterate 4 (refine F.oq rfl rfl rfl (by simp [go_sem]) (fun w hw => by go_simp; first | exact ⟨rfl, rfl⟩ | exact rfl) ?_; try walk_nrm)
  refine F.unwanted rfl rfl ?_
  try walk_nrm
  refine F.unwanted rfl rfl ?_
  try walk_nrm
  refine F.oq rfl rfl rfl (by simp [go_sem]) (fun w hw => by go_simp; first | exact ⟨rfl, rfl⟩ | exact rfl) ?_; try walk_nrm
  refine F.re ?_
  refine F.cf rfl ?_
  refine F.sk ?_
  refine F.sr ?_
  simp only [rg, Nat.reduceAdd]
  iterate 4 (refine F.oq rfl rfl rfl (by simp [go_sem]) (fun w hw => by go_simp; first | exact ⟨rfl, rfl⟩ | exact rfl) ?_; try walk_nrm)
  refine F.esr ?_
  simp only [rg, Nat.reduceAdd]
  iterate 4 (refine F.oq rfl rfl rfl (by simp [go_sem]) (fun w hw => by go_simp; first | exact ⟨rfl, rfl⟩ | exact rfl) ?_; try walk_nrm)
  refine F.es ?_
  refine F.sr ?_
  simp only [rg, Nat.reduceAdd]
  iterate 5 (refine F.oq rfl rfl rfl (by simp [go_sem]) (fun w hw => by go_simp; first | exact ⟨rfl, rfl⟩ | exact rfl) ?_; try walk_nrm)
  refine F.unwanted rfl rfl ?_
  try walk_nrm
  refine F.unwanted rfl rfl ?_
  try walk_nrm
  refine F.unwanted rfl rfl ?_
  try walk_nrm
  refine F.unwanted rfl rfl ?_
  try walk_nrm
  refine F.oq rfl rfl rfl (by simp [go_sem]) (fun w hw => by go_simp; first | exact ⟨rfl, rfl⟩ | exact rfl) ?_; try walk_nrm
  refine F.re ?_
  refine F.cf rfl ?_
  refine F.sk ?_
  refine F.sq ?_
  refine F.sr ?_
  simp only [rg, Nat.reduceAdd]
  iterate 2 (refine F.oq rfl rfl rfl (by simp [go_sem]) (fun w hw => by go_simp; first | exact ⟨rfl, rfl⟩ | exact rfl) ?_; try walk_nrm)
  refine F.re ?_
  refine F.cf rfl ?_
  refine F.sk ?_
  refine F.sq ?_
  refine F.sr ?_
  simp only [rg, Nat.reduceAdd]
  iterate 7 (refine F.oq rfl rfl rfl (by simp [go_sem]) (fun w hw => by go_simp; first | exact ⟨rfl, rfl⟩ | exact rfl) ?_; try walk_nrm)
  refine F.unwanted rfl rfl ?_
  try walk_nrm
  refine F.unwanted rfl rfl ?_
  try walk_nrm
  refine F.unwanted rfl rfl ?_
  try walk_nrm
  refine F.unwanted rfl rfl ?_
  try walk_nrm
  refine F.oq rfl rfl rfl (by simp [go_sem]) (fun w hw => by go_simp; first | exact ⟨rfl, rfl⟩ | exact rfl) ?_; try walk_nrm
  refine F.re ?_
  refine F.cf rfl ?_
  refine F.sk ?_
  refine F.sq ?_
  refine F.sr ?_
  simp only [rg, Nat.reduceAdd]
  iterate 6 (refine F.oq rfl rfl rfl (by simp [go_sem]) (fun w hw => by go_simp; first | exact ⟨rfl, rfl⟩ | exact rfl) ?_; try walk_nrm)
  refine F.re ?_
  refine F.cf rfl ?_
  refine F.sk ?_
  refine F.sq ?_
  refine F.sr ?_
  simp only [rg, Nat.reduceAdd]
  iterate 3 (refine F.oq rfl rfl rfl (by simp [go_sem]) (fun w hw => by go_simp; first | exact ⟨rfl, rfl⟩ | exact rfl) ?_; try walk_nrm)
  refine F.enter rfl rfl (by decide) (fun _ => run_call_body rfl Tryz.func67 (by rfl) (by rfl)) (fun _ => events_call_body rfl Tryz.func67 (by rfl) (by rfl) _) ?_
  walk_nrm
  rw [enter_at _ Tryz.func67 rfl]
  simp only [Tryz.ntmps67, List.size_toArray, List.length_cons, List.length_nil, Nat.reduceAdd, Nat.reduceSub, Array.replicate_succ, Array.replicate_zero, List.push_toArray, List.append_toArray, List.nil_append, List.cons_append]
  refine F.sr ?_
  simp only [rg, Nat.reduceAdd]
  refine F.oq rfl rfl rfl (by simp [go_sem]) (fun w hw => by go_simp; first | exact ⟨rfl, rfl⟩ | exact rfl) ?_; try walk_nrm
  refine F.esr ?_
  simp only [rg, Nat.reduceAdd]
  iterate 3 (refine F.oq rfl rfl rfl (by simp [go_sem]) (fun w hw => by go_simp; first | exact ⟨rfl, rfl⟩ | exact rfl) ?_; try walk_nrm)
  refine cs_load rfl (fun w hw hn => stepG_load_atomic (ad := ⟨A, 5, none⟩) (v := 1) rfl rfl (by decide) rfl Tryz.func96 (by rfl) (by kernel_rfl) (by kernel_rfl) .u64 (by kernel_rfl) rfl hn.1) ?_
  walk_nrm
  clear F
  have F := qf_cs (P := Tryz.prog) (K := K) (Gp := grp A) 4
  refine F.oq rfl rfl rfl (by simp [go_sem]) (fun w hw => by go_simp; first | exact ⟨rfl, rfl⟩ | exact rfl) ?_; try walk_nrm
  refine F.re ?_
  refine F.ctl (fun _ => stepG_ret') ?_
  refine F.leave rfl rfl Tryz.func67 (resultsC_tmp (by rfl) _) ?_
  rw [Frame.finish_at]
  try walk_nrm
  iterate 2 (refine F.oq rfl rfl rfl (by simp [go_sem]) (fun w hw => by go_simp; first | exact ⟨rfl, rfl⟩ | exact rfl) ?_; try walk_nrm)
  refine F.re ?_
  refine F.cf rfl ?_
  refine F.sk ?_
  refine F.sr ?_
  simp only [rg, Nat.reduceAdd]
  iterate 3 (refine F.oq rfl rfl rfl (by simp [go_sem]) (fun w hw => by go_simp; first | exact ⟨rfl, rfl⟩ | exact rfl) ?_; try walk_nrm)
  refine F.enter rfl rfl (by decide) (fun _ => run_call_body rfl Tryz.func110 (by rfl) (by rfl)) (fun _ => events_call_body rfl Tryz.func110 (by rfl) (by rfl) _) ?_
  walk_nrm
  rw [enter_at _ Tryz.func110 rfl]
  simp only [Tryz.ntmps110, List.size_toArray, List.length_cons, List.length_nil, Nat.reduceAdd, Nat.reduceSub, Array.replicate_succ, Array.replicate_zero, List.push_toArray, List.append_toArray, List.nil_append, List.cons_append]
  refine F.rr ?_
  simp only [rg, Nat.reduceAdd]
  iterate 4 (refine F.oq rfl rfl rfl (by simp [go_sem]) (fun w hw => by go_simp; first | exact ⟨rfl, rfl⟩ | exact rfl) ?_; try walk_nrm)
  refine cs_store rfl (fun w hw hn => stepG_store_atomic (ad := ⟨A, 5, none⟩) (k := .u64) (v := 0) rfl rfl (by decide) rfl Tryz.func123 (by rfl) (by kernel_rfl) (by kernel_rfl) (by kernel_rfl) rfl rfl hn.1 hn.2) ?_
  walk_nrm
  clear F
  have F := qf_cs (P := Tryz.prog) (K := K) (Gp := grp A) 5
  refine F.re ?_
  refine F.ctl (fun _ => stepG_end) ?_
  refine F.leave rfl rfl Tryz.func110 (resultsC_none (by rfl) _) ?_
  rw [Frame.finish_at]
  try walk_nrm
  refine F.es ?_
  refine F.sr ?_
  simp only [rg, Nat.reduceAdd]
  refine F.oq rfl rfl rfl (by simp [go_sem]) (fun w hw => by go_simp; first | exact ⟨rfl, rfl⟩ | exact rfl) ?_; try walk_nrm
  refine F.re ?_
  refine F.cf rfl ?_
  refine F.sk ?_
  refine F.bl ?_
  refine F.ctl (fun _ => stepG_loop) ?_
  refine F.sq ?_
  refine F.sr ?_
  simp only [rg, Nat.reduceAdd]
  iterate 2 (refine F.oq rfl rfl rfl (by simp [go_sem]) (fun w hw => by go_simp; first | exact ⟨rfl, rfl⟩ | exact rfl) ?_; try walk_nrm)
  refine F.re ?_
  refine F.ct rfl ?_
  refine F.sk ?_
  refine F.sq ?_
  refine F.bl ?_
  refine F.rr ?_
  simp only [rg, Nat.reduceAdd]
  iterate 3 (refine F.oq rfl rfl rfl (by simp [go_sem]) (fun w hw => by go_simp; first | exact ⟨rfl, rfl⟩ | exact rfl) ?_; try walk_nrm)
  refine cs_semrel rfl (by kernel_rfl) rfl (fun w hw hn => stepG_semrelease (ad := ⟨A, 6, none⟩) (n := 0) rfl rfl (by decide) rfl Tryz.func111 (by rfl) (by kernel_rfl) (by kernel_rfl) (by kernel_rfl) (by simp [Act.eval]) hn.1 hn.2) ?_
  walk_nrm
  clear F
  have F := qf_quits (P := Tryz.prog) 1
  refine F.re ?_
  refine F.ib ?_
  refine F.rr ?_
  simp only [rg, Nat.reduceAdd]
  iterate 3 (refine F.oq rfl rfl rfl (by simp [go_sem]) (fun w hw => by go_simp; first | exact ⟨rfl, rfl⟩ | exact rfl) ?_; try walk_nrm)
  refine F.re ?_
  refine F.ctl (fun _ => stepG_inLoop) ?_
  refine F.sq ?_
  refine F.sr ?_
  simp only [rg, Nat.reduceAdd]
  iterate 2 (refine F.oq rfl rfl rfl (by simp [go_sem]) (fun w hw => by go_simp; first | exact ⟨rfl, rfl⟩ | exact rfl) ?_; try walk_nrm)
  refine F.re ?_
  refine F.cf rfl ?_
  refine F.ctl (fun _ => stepG_exit rfl) ?_
  refine F.ctl (fun _ => stepG_end) ?_
  exact quitsAdd _ _ _ _ hend

end Go.Proofs.YtobagnjnbmgidaaGreatDoor
