/- What the law is given, read: the layers, the clients, their turns. -/
import Derived.Test.YtobagnjnbmgidaaGreatDoorX34
import Derived.ChangeSlices
set_option linter.unusedSimpArgs false
set_option linter.unusedVariables false
namespace Go.Proofs.YtobagnjnbmgidaaGreatDoor
open Go.Conc Go.RowKit Go.ChangeShapes

def fieldsIn (p : Program) (t : TypeId) : List (TypeId × Nat) := match p.underlying t with | some (.struct fs) => fs.toList.map fun f => (f.type, f.offset) | _ => []
theorem u3 : Tryz.prog.underlying 3 = some (.int .i64) := by kernel_rfl
theorem u22 : Tryz.prog.underlying 22 = some (.slice 51) := by kernel_rfl
theorem u23 : Tryz.prog.underlying 23 = some (.slice 43) := by kernel_rfl
theorem u41 : Tryz.prog.underlying 41 = some (.slice 39) := by kernel_rfl
theorem f51 : fieldsIn Tryz.prog 51 = [(3, 0), (3, 1), (3, 2), (3, 3), (3, 4), (3, 5)] := by kernel_rfl
theorem f39 : fieldsIn Tryz.prog 39 = [(3, 0), (3, 1), (3, 2)] := by kernel_rfl
theorem f43 : fieldsIn Tryz.prog 43 = [(3, 0), (41, 1)] := by kernel_rfl
theorem c51 : Tryz.prog.cellsOf 51 = 6 := by kernel_rfl
theorem c39 : Tryz.prog.cellsOf 39 = 3 := by kernel_rfl
theorem c43 : Tryz.prog.cellsOf 43 = 2 := by kernel_rfl
theorem c41 : Tryz.prog.cellsOf 41 = 1 := by kernel_rfl
theorem c3 : Tryz.prog.cellsOf 3 = 1 := by kernel_rfl

section
variable {H : Type} {enc : TypeId × Value → H} {W : World} {sp : Nat → Bool} {hd : Bool}

theorem field_read {t u : TypeId} {j o fuel : Nat} {cs : List Value} {x : DataW H × List MemPlace} (hf : (fieldsIn Tryz.prog t)[j]? = some (u, o)) (hc : Tryz.prog.cellsOf u = 1) (ho : o < Tryz.prog.cellsOf t) (h : DataW.trod enc Tryz.prog W 0 sp hd fuel t cs = some x) :
    ∃ v n y, cs[o]? = some v ∧ DataW.trod enc Tryz.prog W 0 sp hd n u [v] = some y := by
  unfold fieldsIn at hf
  split at hf
  · rename_i fs hu
    obtain ⟨xs, n, rfl, _, hlen, hxl, hall⟩ := DataW.trod_struct hu h
    simp only [List.getElem?_map, Option.map_eq_some_iff] at hf
    obtain ⟨f, hf, e⟩ := hf
    have hf' : fs[j]? = some f := by simpa using hf
    have hj : j < xs.length := by rw [hxl]; exact (Array.getElem?_eq_some_iff.1 hf').1
    have := hall j f hf'
    simp only [Prod.mk.injEq] at e
    obtain ⟨rfl, rfl⟩ := e
    rw [hc, List.getElem?_eq_getElem hj] at this
    cases hd0 : cs.drop f.offset with
    | nil =>
      have := congrArg List.length hd0
      simp at this
      omega
    | cons v r =>
      rw [hd0] at this
      refine ⟨v, n, _, ?_, by simpa using this⟩
      have h0 : (cs.drop f.offset)[0]? = some v := by rw [hd0]; rfl
      simpa using h0
  · simp at hf

theorem cells_get {a : Addr} {k : Nat} {cs : List Value} (h : W.cells? 0 a k = some cs) (j : Nat) (hj : j < k) : W.cell? (a.add j) = cs[j]? := by
  unfold World.cells? at h
  rw [if_pos (Nat.zero_le _)] at h
  exact mapM_some_get h j j (by simp [hj])

/-- A slice of rows of k numbers. -/
theorem open_rows {t e : TypeId} {k fuel : Nat} {cs : List Value} {x : DataW H × List MemPlace} (ht : Tryz.prog.underlying t = some (.slice e)) (hc : Tryz.prog.cellsOf e = k) (hk : 0 < k) (hf : ∀ j, j < k → (fieldsIn Tryz.prog e)[j]? = some (3, j)) (h : DataW.trod enc Tryz.prog W 0 sp hd fuel t cs = some x) :
    ∃ sa n cap, ∃ T : Nat → Nat → Int, cs = [.slice sa n cap] ∧ ∀ i, i < n → ∃ b o : Nat, sa = some ⟨b, o, none⟩ ∧ ∀ j, j < k → W.cell? ⟨b, o + i * k + j, none⟩ = some (.int .i64 (T i j)) := by
  rcases DataW.trod_slice ht h with ⟨rfl, _⟩ | ⟨a, len, cap, elems, rest, n, _, rfl, _, _, _, _, hlen, hel, _, _⟩
  · exact ⟨none, 0, 0, fun _ _ => 0, rfl, fun i hi => absurd hi (by omega)⟩
  have each : ∀ i, i < len → ∀ j, j < k → ∃ m, W.cell? ((a.add (i * k)).add j) = some (.int .i64 m) := fun i hi j hj => by
    have h1 := hel i hi
    rw [hc, List.getElem?_eq_getElem (by omega), Option.bind_eq_some_iff] at h1
    obtain ⟨cs', h2, h3⟩ := h1
    obtain ⟨v, n', y, h4, h5⟩ := field_read (hf j hj) c3 (by rw [hc]; exact hj) h3
    obtain ⟨m, e1, _, _⟩ := DataW.trod_int u3 h5
    rw [cells_get h2 j hj, h4]
    exact ⟨m, by simpa using e1⟩
  refine ⟨some a, len, cap, fun i j => if hi : i < len then (if hj : j < k then (each i hi j hj).choose else 0) else 0, rfl, fun i hi => ?_⟩
  have hs : a.spot = none := by
    obtain ⟨m, h1⟩ := each 0 (by omega) 0 hk
    simpa [Addr.add] using World.cell?_spot h1
  obtain ⟨b, o, s⟩ := a
  cases hs
  refine ⟨b, o, rfl, fun j hj => ?_⟩
  have hsp := (each i hi j hj).choose_spec
  simp only [dif_pos hi, dif_pos hj]
  generalize (each i hi j hj).choose = m at hsp ⊢
  rw [addN, addN] at hsp
  exact hsp

theorem open_lays {fuel : Nat} {cs : List Value} {x : DataW H × List MemPlace} (h : DataW.trod enc Tryz.prog W 0 sp hd fuel 22 cs = some x) : ∃ sa n cap L, cs = [.slice sa n cap] ∧ LaysAt W sa n L :=
  open_rows u22 c51 (by decide) (fun j hj => by rw [f51]; match j, hj with | 0, _ => rfl | 1, _ => rfl | 2, _ => rfl | 3, _ => rfl | 4, _ => rfl | 5, _ => rfl) h
theorem open_turns {fuel : Nat} {cs : List Value} {x : DataW H × List MemPlace} (h : DataW.trod enc Tryz.prog W 0 sp hd fuel 41 cs = some x) : ∃ sa n cap T, cs = [.slice sa n cap] ∧ TurnsAt W sa n T :=
  open_rows u41 c39 (by decide) (fun j hj => by rw [f39]; match j, hj with | 0, _ => rfl | 1, _ => rfl | 2, _ => rfl) h

theorem open_clients {fuel : Nat} {cs : List Value} {x : DataW H × List MemPlace} (h : DataW.trod enc Tryz.prog W 0 sp hd fuel 23 cs = some x) : ∃ sa m cap g, cs = [.slice sa m cap] ∧ ClsAt W sa m g := by
  rcases DataW.trod_slice u23 h with ⟨rfl, _⟩ | ⟨a, len, cap, elems, rest, n, _, rfl, _, _, _, _, hlen, hel, _, _⟩
  · exact ⟨none, 0, 0, fun _ => ⟨0, none, 0, 0, fun _ _ => 0⟩, rfl, fun i hi => absurd hi (by omega)⟩
  have each : ∀ i, i < len → ∃ c : Cl, W.cell? ((a.add (i * 2)).add 0) = some (.int .i64 c.st) ∧ W.cell? ((a.add (i * 2)).add 1) = some (.slice c.ta c.nt c.tc) ∧ TurnsAt W c.ta c.nt c.T := fun i hi => by
    have h1 := hel i hi
    rw [c43, List.getElem?_eq_getElem (by omega), Option.bind_eq_some_iff] at h1
    obtain ⟨cs', h2, h3⟩ := h1
    obtain ⟨v, n1, y, h4, h5⟩ := field_read (j := 0) (o := 0) (by rw [f43]; rfl) c3 (by rw [c43]; decide) h3
    obtain ⟨v', n2, y', h6, h7⟩ := field_read (j := 1) (o := 1) (by rw [f43]; rfl) c41 (by rw [c43]; decide) h3
    obtain ⟨m, e1, _, _⟩ := DataW.trod_int u3 h5
    obtain ⟨sa, q, cap', T, e2, hT⟩ := open_turns h7
    simp only [List.cons.injEq, and_true] at e1 e2
    subst e1
    subst e2
    exact ⟨⟨m, sa, q, cap', T⟩, by rw [cells_get h2 0 (by decide), h4], by rw [cells_get h2 1 (by decide), h6], hT⟩
  refine ⟨some a, len, cap, fun i => if hi : i < len then (each i hi).choose else ⟨0, none, 0, 0, fun _ _ => 0⟩, rfl, fun i hi => ?_⟩
  have hs : a.spot = none := by
    obtain ⟨c, h1, _⟩ := each 0 (by omega)
    simpa [Addr.add] using World.cell?_spot h1
  obtain ⟨b, o, s⟩ := a
  cases hs
  have hsp := (each i hi).choose_spec
  simp only [dif_pos hi]
  generalize (each i hi).choose = c at hsp ⊢
  rw [addN, addN, addN] at hsp
  exact ⟨b, o, rfl, hsp.1, hsp.2.1, hsp.2.2⟩
end

end Go.Proofs.YtobagnjnbmgidaaGreatDoor
