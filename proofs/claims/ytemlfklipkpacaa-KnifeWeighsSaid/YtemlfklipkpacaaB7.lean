import Derived.Test.YtemlfklipkpacaaB4
import Derived.Test.YtemlfklipkpacaaB1
import Derived.ChangeSlices
namespace Go.Proofs.Ytemlfklipkpacaa
open Go.Joins Go.Deep Go.ChangeShapes Go.WideShapes Go.ChangeAt Go.RowKit

theorem add_none {b off : Nat} (j : Nat) : ({ block := b, off := off, spot := none } : Addr).add j = { block := b, off := off + j, spot := none } := by
  unfold Addr.add
  by_cases e : j = 0
  · rw [if_pos e, e]; rfl
  · rw [if_neg e]

set_option maxRecDepth 100000 in
/-- A cell that is a slice of ints. -/
theorem ints_of {H : Type} {enc : TypeId × Value → H} {w : World} {n : Nat} {c0 : Value} {y : DataW H × List MemPlace} (h : DataW.trod enc Try.prog w 0 (fun _ => true) true n 39 [c0] = some y) :
    ∃ (ao : Option Addr) (len cap : Nat) (l : List Int), c0 = .slice ao len cap ∧ len = l.length ∧ len ≤ cap ∧ Ints w ao l ∧ ∀ x ∈ l, Rng x := by
  rcases open_ints Try.underlying39 Try.underlying3 (by kernel_rfl) h with ⟨hcs, -⟩ | ⟨a, len, cap, zs, hcs, _, hl, _, hz, -, hcell, hwf⟩
  · simp only [List.cons.injEq, and_true] at hcs
    exact ⟨none, 0, 0, [], hcs, rfl, Nat.le_refl _, ⟨fun h => by simp at h⟩, fun x hx => by simp at hx⟩
  · simp only [List.cons.injEq, and_true] at hcs
    simp only [if_true] at hz
    refine ⟨some a, len, cap, zs.take len, hcs, by rw [List.length_take]; omega, hl, ⟨fun h0 => ?_⟩, fun x hx => rng_of (hwf x (List.mem_of_mem_take hx))⟩
    rw [List.length_take] at h0
    have ha : a.add 0 = a := by simp [Addr.add]
    have hs := hcell 0 (by omega)
    rw [ha] at hs
    have hs := spot_none hs
    obtain ⟨b, off, sp⟩ := a
    obtain ⟨rfl, hbs⟩ := hs
    refine ⟨b, off, rfl, hbs, fun i hi => ?_⟩
    rw [List.length_take] at hi
    have := hcell i (by omega)
    rw [add_none] at this
    rw [this, List.getD_eq_getElem?_getD, List.getD_eq_getElem?_getD, List.getElem?_take, if_pos (by omega)]

set_option maxRecDepth 100000 in
/-- A cell that is a slice of fractions. -/
theorem rats_of {H : Type} {enc : TypeId × Value → H} {w : World} {n : Nat} {c0 : Value} {y : DataW H × List MemPlace} (h : DataW.trod enc Try.prog w 0 (fun _ => true) true n 40 [c0] = some y) :
    ∃ (ao : Option Addr) (len cap : Nat) (l : List (Int × Int)), c0 = .slice ao len cap ∧ len = l.length ∧ len ≤ cap ∧ Pts w ao l ∧ ∀ x ∈ l, Rng x.1 ∧ Rng x.2 := by
  rcases open_slice Try.underlying40 h with ⟨h0, _⟩ | ⟨a, len, cap, m, n, D, Pl, hcs, hb, hl, hm, hmm, hx, hi⟩
  · simp only [List.cons.injEq, and_true] at h0
    exact ⟨none, 0, 0, [], h0, rfl, Nat.le_refl _, ⟨fun h => by simp at h⟩, fun x hx => by simp at hx⟩
  · simp only [List.cons.injEq, and_true] at hcs
    have hC : Try.prog.cellsOf 29 = 2 := by kernel_rfl
    simp only [if_true] at hmm
    have key : ∀ i, ∃ q : Int × Int, i < len → w.cell? (a.add (i * 2 + 0)) = some (.int .i64 q.1) ∧ w.cell? (a.add (i * 2 + 1)) = some (.int .i64 q.2) ∧ Rng q.1 ∧ Rng q.2 := by
      intro i
      by_cases hin : i < len
      · obtain ⟨cs', hc, ht⟩ := hi i (by omega)
        rw [hC] at hc
        obtain ⟨v0, v1, rfl, e0, e1⟩ := cells_two hc
        obtain ⟨x, y, rfl, rfl, rx, ry⟩ := rat_cells ht
        rw [Go.Deep.add_add] at e0 e1
        exact ⟨(x, y), fun _ => ⟨e0, e1, rx, ry⟩⟩
      · exact ⟨(0, 0), fun h => absurd h hin⟩
    obtain ⟨f, hf2⟩ := Classical.axiomOfChoice key
    refine ⟨some a, len, cap, (List.range len).map f, hcs, by simp, hl, ⟨fun h0 => ?_⟩, fun x hx => ?_⟩
    · have h00 : 0 < len := by simpa using h0
      have hs := spot_none (hf2 0 h00).1
      have ha : a.add (0 * 2 + 0) = a := by simp [Addr.add]
      rw [ha] at hs
      obtain ⟨b, off, sp⟩ := a
      obtain ⟨rfl, hbs⟩ := hs
      refine ⟨b, off, rfl, hbs, fun i hil => ?_⟩
      have hil : i < len := by simpa using hil
      obtain ⟨k1, k2, -, -⟩ := hf2 i hil
      have eg : ((List.range len).map f).getD i (0, 0) = f i := by simp [List.getD_eq_getElem?_getD, hil]
      rw [eg]
      rw [add_none] at k1 k2
      exact ⟨k1, k2⟩
    · simp only [List.mem_map, List.mem_range] at hx
      obtain ⟨i, hi, rfl⟩ := hx
      exact (hf2 i hi).2.2

set_option maxRecDepth 100000 in
theorem open_intsl {H : Type} {enc : TypeId × Value → H} {w : World} {v : Value} {d : DataW H} {p : List MemPlace} (hv : Value.okWide Try.prog w .any 0 39 v)
    (h : DataW.Trod enc Try.prog w 0 (fun _ => true) true 39 v d p) :
    ∃ (ao : Option Addr) (len cap : Nat) (l : List Int), v = .slice ao len cap ∧ len = l.length ∧ len ≤ cap ∧ Ints w ao l ∧ ∀ x ∈ l, Rng x := by
  obtain ⟨a0, n0, c0, rfl⟩ := okWide_slice Try.underlying39 hv
  obtain ⟨fuel, hf⟩ := h
  exact ints_of (c0 := .slice a0 n0 c0) (by simpa [Value.cells] using hf)
set_option maxRecDepth 100000 in
theorem open_rats {H : Type} {enc : TypeId × Value → H} {w : World} {v : Value} {d : DataW H} {p : List MemPlace} (hv : Value.okWide Try.prog w .any 0 40 v)
    (h : DataW.Trod enc Try.prog w 0 (fun _ => true) true 40 v d p) :
    ∃ (ao : Option Addr) (len cap : Nat) (l : List (Int × Int)), v = .slice ao len cap ∧ len = l.length ∧ len ≤ cap ∧ Pts w ao l ∧ ∀ x ∈ l, Rng x.1 ∧ Rng x.2 := by
  obtain ⟨a0, n0, c0, rfl⟩ := okWide_slice Try.underlying40 hv
  obtain ⟨fuel, hf⟩ := h
  exact rats_of (c0 := .slice a0 n0 c0) (by simpa [Value.cells] using hf)
set_option maxRecDepth 100000 in
theorem open_one {H : Type} {enc : TypeId × Value → H} {w : World} {v : Value} {d : DataW H} {p : List MemPlace} (hv : Value.okWide Try.prog w .any 0 3 v)
    (h : DataW.Trod enc Try.prog w 0 (fun _ => true) true 3 v d p) : ∃ z : Int, v = .int .i64 z ∧ Rng z := by
  obtain ⟨z, rfl⟩ := okWide_int Try.underlying3 hv
  obtain ⟨fuel, hf⟩ := h
  obtain ⟨b, hb, _, wb⟩ := DataW.trod_int (cs := [.int .i64 z]) Try.underlying3 (by simpa [Value.cells] using hf)
  simp only [List.cons.injEq, Value.int.injEq, and_true, true_and] at hb
  subst hb
  exact ⟨z, rfl, rng_of wb⟩
end Go.Proofs.Ytemlfklipkpacaa
