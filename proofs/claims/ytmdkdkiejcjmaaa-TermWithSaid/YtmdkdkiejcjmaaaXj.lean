import Derived.Test.YtmdkdkiejcjmaaaGr
/- One cell of an own row: what it holds, and the row behind a store into it. -/
namespace Go.Proofs.Ytmdkdkiejcjmaaa
open Go.RowKit
theorem own_slot {w : World} {base n size : Nat} {e : TypeId} {v : Value} {xs : List Value} (h : w.ownsRow base e size v n xs) {k : Nat} (hk : k < xs.length) :
    ∃ g cap, v = .slice (some ⟨g, 0, none⟩) n cap ∧ base ≤ g ∧ w.cell? ⟨g, k, none⟩ = some xs[k] ∧ w.frozen? ⟨g, k, none⟩ = false ∧ (∃ cs, w.heap[g]? = some (.cells cs e (0, 0))) ∧ ∀ u, (w.setCell ⟨g, k, none⟩ u).ownsRow base e size v n (xs.set k u) := by
  rcases h.2 with ⟨_, h0⟩ | ⟨g, cap, cur, rfl, hb, hg, hnc, hcm, hcs, htk⟩
  · have := h.1
    subst h0
    simp at this
    rw [this] at hk
    simp at hk
  · refine ⟨g, cap, rfl, hb, ?_, frozen_of_row w g k _ _ hg, ⟨cur, hg⟩, fun u => ⟨by rw [List.length_set]; exact h.1, .inr ⟨g, cap, _, rfl, hb, heap_setCell_same w g k _ _ u hg, hnc, hcm, by simpa using hcs, ?_⟩⟩⟩
    · rw [cell_of_row w g k _ _ _ hg]
      have hl := h.1
      have hu : xs[k]? = some xs[k] := List.getElem?_eq_getElem hk
      generalize xs[k] = q at hu ⊢
      rw [← htk, List.getElem?_take, if_pos (by omega)] at hu
      simpa using hu
    · simp only [Array.toList_setIfInBounds]
      rw [List.take_set, htk]
/-- A store into a row of one type leaves a block of another type as it was. -/
theorem heap_set_type {w : World} {g h o : Nat} {e e2 : TypeId} {u : Value} {cs ds : Array Value} {fr : Nat × Nat} (hg : w.heap[g]? = some (.cells cs e (0, 0))) (hh : w.heap[h]? = some (.cells ds e2 fr)) (hne : e ≠ e2) : (w.setCell ⟨g, o, none⟩ u).heap[h]? = some (.cells ds e2 fr) :=
  (heap_setCell_other w ⟨g, o, none⟩ h u (fun (e4 : h = g) => by
    subst e4
    rw [hg] at hh
    cases hh
    exact hne rfl)).trans hh
end Go.Proofs.Ytmdkdkiejcjmaaa
