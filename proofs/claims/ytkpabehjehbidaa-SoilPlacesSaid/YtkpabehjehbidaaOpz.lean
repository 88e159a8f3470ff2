import Derived.Test.YtkpabehjehbidaaSps
import Derived.Deep.Slices
import Derived.Deep.Fields
import Derived.ProofKit
namespace Go.Proofs.Ytkpabehjehbidaa
open Go.ChangeShapes Go.WideShapes Go.ChangeAt Go.RowKit Go.Deep

/-- Two cells in a row, read. -/
theorem cells_two {w : World} {a : Addr} {cs : List Value} (h : w.cells? 0 a 2 = some cs) : ∃ v0 v1, cs = [v0, v1] ∧ w.cell? (a.add 0) = some v0 ∧ w.cell? (a.add 1) = some v1 := by
  obtain ⟨_, hl, hat⟩ := World.cells?_some h
  match cs, hl with
  | [v0, v1], _ => exact ⟨v0, v1, rfl, by simpa using hat 0 (by simp), by simpa using hat 1 (by simp)⟩
theorem spot_none {w : World} {a : Addr} {v : Value} (h : w.cell? a = some v) : a.spot = none ∧ a.block < w.heap.size := by
  unfold World.cell? at h
  split at h
  · rename_i hb
    refine ⟨?_, (Array.getElem?_eq_some_iff.1 hb).1⟩
    cases hs : a.spot with
    | none => rfl
    | some k => rw [hs] at h; cases h
  · cases h

set_option maxRecDepth 100000 in
/-- An argument that is a slice of zones: nil, or zones that lie in memory. -/
theorem open_zones {H : Type} {enc : TypeId × Value → H} {w : World} {v : Value} {d : DataW H} {p : List MemPlace} (hv : Value.okWide Try.prog w .any 0 22 v)
    (h : DataW.Trod enc Try.prog w 0 (fun _ => true) true 22 v d p) :
    ∃ (ao : Option Addr) (len cap : Nat) (l : List (Int × Int)), v = .slice ao len cap ∧ len = l.length ∧ len ≤ cap ∧ Pts w ao l := by
  obtain ⟨a0, n0, c0, rfl⟩ := okWide_slice Try.underlying22 hv
  obtain ⟨fuel, hf⟩ := h
  rcases open_slice Try.underlying22 hf with ⟨h0, _⟩ | ⟨a, len, cap, m, n, D, Pl, hcs, hb, hl, hm, hmm, hx, hi⟩
  · simp [Value.cells] at h0
    obtain ⟨rfl, rfl, rfl⟩ := h0
    exact ⟨none, 0, 0, [], rfl, rfl, Nat.le_refl _, ⟨fun h => by simp at h⟩⟩
  · simp [Value.cells] at hcs
    obtain ⟨rfl, rfl, rfl⟩ := hcs
    have hC : Try.prog.cellsOf 52 = 2 := by kernel_rfl
    simp only [if_true] at hmm
    have key : ∀ i, ∃ q : Int × Int, i < n0 → w.cell? (a.add (i * 2 + 0)) = some (.int .i64 q.1) ∧ w.cell? (a.add (i * 2 + 1)) = some (.int .i64 q.2) := by
      intro i
      by_cases hin : i < n0
      · obtain ⟨cs', hc, ht⟩ := hi i (by omega)
        rw [hC] at hc
        obtain ⟨v0, v1, rfl, e0, e1⟩ := cells_two hc
        obtain ⟨ys, n', hn', hy, hlen, hyl, hg⟩ := DataW.trod_struct Try.underlying52 ht
        have hone : oneCellFields Try.prog #[{ name := "Length", type := 3, offset := 0, embedded := false, tag := "", pkgPath := "", byteOffset := 0 }, { name := "Value", type := 3, offset := 1, embedded := false, tag := "", pkgPath := "", byteOffset := 8 }] = true := by kernel_rfl
        obtain ⟨o0, k0⟩ := hone_of hone 0 _ rfl
        obtain ⟨o1, k1⟩ := hone_of hone 1 _ rfl
        have g0 := hg 0 _ rfl
        have g1 := hg 1 _ rfl
        rw [o0, k0] at g0
        rw [o1, k1] at g1
        obtain ⟨x, hx1, _, _⟩ := DataW.trod_int (cs := [v0]) Try.underlying3 (g0.trans (List.getElem?_eq_getElem (by rw [hyl]; decide)))
        obtain ⟨y, hy1, _, _⟩ := DataW.trod_int (cs := [v1]) Try.underlying3 (g1.trans (List.getElem?_eq_getElem (by rw [hyl]; decide)))
        simp only [List.cons.injEq, and_true] at hx1 hy1
        rw [Go.Deep.add_add] at e0 e1
        exact ⟨(x, y), fun _ => ⟨by rw [← hx1]; exact e0, by rw [← hy1]; exact e1⟩⟩
      · exact ⟨(0, 0), fun h => absurd h hin⟩
    obtain ⟨f, hf2⟩ := Classical.axiomOfChoice key
    refine ⟨some a, n0, c0, (List.range n0).map f, rfl, by simp, hl, ⟨fun h0 => ?_⟩⟩
    have h00 : 0 < n0 := by simpa using h0
    have hs := spot_none (hf2 0 h00).1
    have ha : a.add (0 * 2 + 0) = a := by simp [Addr.add]
    rw [ha] at hs
    obtain ⟨b, off, sp⟩ := a
    obtain ⟨rfl, hbs⟩ := hs
    refine ⟨b, off, rfl, hbs, fun i hil => ?_⟩
    have hil : i < n0 := by simpa using hil
    obtain ⟨k1, k2⟩ := hf2 i hil
    have eg : ((List.range n0).map f).getD i (0, 0) = f i := by simp [List.getD_eq_getElem?_getD, hil]
    rw [eg]
    have n1 : ∀ j, ({ block := b, off := off, spot := none } : Addr).add j = { block := b, off := off + j, spot := none } := by
      intro j
      unfold Addr.add
      by_cases e : j = 0
      · rw [if_pos e, e]; rfl
      · rw [if_neg e]
    rw [n1] at k1 k2
    exact ⟨k1, k2⟩
end Go.Proofs.Ytkpabehjehbidaa
