import Derived.Test.YtemlfklipkpacaaB7
import Derived.Deep.Slices
/- Tables of numbers, and fields of package knife, as they come in. -/
namespace Go.Proofs.Ytemlfklipkpacaa
open Go.Joins Go.Deep Go.ChangeShapes Go.WideShapes Go.ChangeAt Go.RowKit

/-- A slice of slices of numbers: where it begins, and what its cells hold. -/
structure Tab (w : World) (ao : Option Addr) (V : List (List Int)) : Prop where
  cells : 0 < V.length → ∃ b off, ao = some ⟨b, off, none⟩ ∧ b < w.heap.size ∧ ∀ i, i < V.length → ∃ aoi ci, w.cell? ⟨b, off + i, none⟩ = some (.slice aoi (V.getD i []).length ci) ∧ (V.getD i []).length ≤ ci ∧ Ints w aoi (V.getD i [])

theorem Tab.below {w w' : World} {ao : Option Addr} {V : List (List Int)} (h : Tab w ao V) (hb : Below w.heap.size w w') : Tab w' ao V := by
  refine ⟨fun h0 => ?_⟩
  obtain ⟨b, off, rfl, hlt, hc⟩ := h.cells h0
  have hs := hb.size
  refine ⟨b, off, rfl, by omega, fun i hi => ?_⟩
  obtain ⟨aoi, ci, h1, h2, h3⟩ := hc i hi
  exact ⟨aoi, ci, (hb.cell (p := ⟨b, _, none⟩) hlt).trans h1, h2, h3.below hb⟩

theorem Tab.at {w : World} {ao : Option Addr} {V : List (List Int)} (h : Tab w ao V) {k : Nat} (hk : k < V.length) :
    ∃ b off aoi ci, ao = some ⟨b, off, none⟩ ∧ w.cell? ⟨b, off + k, none⟩ = some (.slice aoi (V.getD k []).length ci) ∧ (V.getD k []).length ≤ ci ∧ Ints w aoi (V.getD k []) := by
  obtain ⟨b, off, h1, -, h2⟩ := h.cells (by omega)
  obtain ⟨aoi, ci, h3, h4, h5⟩ := h2 k hk
  exact ⟨b, off, aoi, ci, h1, h3, h4, h5⟩

set_option maxRecDepth 100000 in
/-- A cell that is a slice of slices of ints. -/
theorem tab_of {H : Type} {enc : TypeId × Value → H} {w : World} {n : Nat} {c0 : Value} {y : DataW H × List MemPlace} (h : DataW.trod enc Try.prog w 0 (fun _ => true) true n 55 [c0] = some y) :
    ∃ (ao : Option Addr) (len cap : Nat) (V : List (List Int)), c0 = .slice ao len cap ∧ len = V.length ∧ len ≤ cap ∧ Tab w ao V ∧ ∀ r ∈ V, ∀ x ∈ r, Rng x := by
  rcases open_slice1 Try.underlying55 (by kernel_rfl) h with ⟨hcs, -⟩ | ⟨a, len, cap, m, n', W, D, Pl, hcs, hb, hl, hm, hmm, -, hx⟩
  · simp only [List.cons.injEq, and_true] at hcs
    exact ⟨none, 0, 0, [], hcs, rfl, Nat.le_refl _, ⟨fun h => by simp at h⟩, fun x hx => by simp at hx⟩
  · simp only [List.cons.injEq, and_true] at hcs
    simp only [if_true] at hmm
    have key : ∀ i, ∃ q : Option Addr × Nat × List Int, i < len → w.cell? (a.add i) = some (.slice q.1 q.2.2.length q.2.1) ∧ q.2.2.length ≤ q.2.1 ∧ Ints w q.1 q.2.2 ∧ ∀ x ∈ q.2.2, Rng x := by
      intro i
      by_cases hin : i < len
      · obtain ⟨hc, ht⟩ := hx i (by omega)
        obtain ⟨ao, ln, cp, l, e0, e1, e2, e3, e4⟩ := ints_of ht
        exact ⟨(ao, cp, l), fun _ => ⟨by rw [hc, e0, e1], by rw [← e1]; exact e2, e3, e4⟩⟩
      · exact ⟨(none, 0, []), fun h => absurd h hin⟩
    obtain ⟨f, hf⟩ := Classical.axiomOfChoice key
    refine ⟨some a, len, cap, (List.range len).map fun i => (f i).2.2, hcs, by simp, hl, ⟨fun h0 => ?_⟩, fun x hx => ?_⟩
    · have h00 : 0 < len := by simpa using h0
      have hs := (hf 0 h00).1
      have ha : a.add 0 = a := by simp [Addr.add]
      rw [ha] at hs
      have hs := spot_none hs
      obtain ⟨b, off, sp⟩ := a
      obtain ⟨rfl, hbs⟩ := hs
      refine ⟨b, off, rfl, hbs, fun i hil => ?_⟩
      have hil : i < len := by simpa using hil
      obtain ⟨k1, k2, k3, -⟩ := hf i hil
      have eg : ((List.range len).map fun i => (f i).2.2).getD i [] = (f i).2.2 := by simp [List.getD_eq_getElem?_getD, hil]
      rw [eg]
      rw [add_none] at k1
      exact ⟨_, _, k1, k2, k3⟩
    · simp only [List.mem_map, List.mem_range] at hx
      obtain ⟨i, hi, rfl⟩ := hx
      exact (hf i hi).2.2.2

set_option maxRecDepth 100000 in
/-- An argument that is a field. -/
theorem open_field {H : Type} {enc : TypeId × Value → H} {w : World} {v : Value} {d : DataW H} {p : List MemPlace} (hv : Value.okWide Try.prog w .any 0 57 v)
    (h : DataW.Trod enc Try.prog w 0 (fun _ => true) true 57 v d p) : ∃ (aoL : Option Addr) (nL cL : Nat) (L : List Int) (aoV : Option Addr) (nV cV : Nat) (V : List (List Int)), v = .agg #[.slice aoL nL cL, .slice aoV nV cV] ∧ nL = L.length ∧ Ints w aoL L ∧ (∀ x ∈ L, Rng x) ∧ nV = V.length ∧ Tab w aoV V ∧ (∀ r ∈ V, ∀ x ∈ r, Rng x) ∧ nL ≤ cL ∧ nV ≤ cV := by
  obtain ⟨cs, rfl, hsz⟩ := okWide_struct Try.underlying57 hv
  obtain ⟨c0, c1, rfl⟩ := array2 (hsz.trans (by kernel_rfl))
  obtain ⟨fuel, hf⟩ := h
  obtain ⟨y0, y1, n2, _, _, h0, h1⟩ := trod_struct2 Try.underlying57 hf
  have hC : Try.prog.cellsOf 39 = 1 := by kernel_rfl
  have hD : Try.prog.cellsOf 55 = 1 := by kernel_rfl
  dsimp only at h0 h1
  rw [hC] at h0
  rw [hD] at h1
  obtain ⟨ao, len, cap, l, rfl, e1, e2, e3, e4⟩ := ints_of (c0 := c0) (by simpa [Value.cells] using h0)
  obtain ⟨ao', len', cap', l', rfl, f1, f2, f3, f4⟩ := tab_of (c0 := c1) (by simpa [Value.cells] using h1)
  exact ⟨ao, len, cap, l, ao', len', cap', l', rfl, e1, e3, e4, f1, f3, f4, e2, f2⟩
end Go.Proofs.Ytemlfklipkpacaa
