import Derived.Test.YtnllhhamebmlnaaCln
import Derived.Test.YtnllhhamebmlnaaArea
namespace Go.Proofs.Ytnllhhamebmlnaa
open Go.RowKit

theorem flat_of_ring {X : Array Value} {l : List (Int × Int)} (hX : IsRing X l) {W : World} {B : Nat} (hR : RowAt W B X 51) : ∀ j u, (flat l)[j]? = some u → W.cell? ((⟨B, 1, none⟩ : Addr).add j) = some u := by
  intro j u hj
  have hjl : j < (flat l).length := (List.getElem?_eq_some_iff.1 hj).1
  rw [flat_length] at hjl
  rw [add_off]
  rcases Nat.mod_two_eq_zero_or_one j with h0 | h0
  · obtain ⟨i, rfl⟩ : ∃ i, j = i * 2 := ⟨j / 2, by omega⟩
    rw [flat_even l _ (by omega)] at hj
    rw [← Option.some.inj hj]
    exact hR.cell (hX.x i (by omega))
  · obtain ⟨i, rfl⟩ : ∃ i, j = i * 2 + 1 := ⟨j / 2, by omega⟩
    rw [flat_odd l _ (by omega)] at hj
    rw [← Option.some.inj hj]
    exact hR.cell (hX.y i (by omega))

theorem OwnPts.base {w : World} {b b' : Nat} {v : Value} {l : List (Int × Int)} (h : OwnPts w b v l) (hb : b' ≤ b) : OwnPts w b' v l := by
  obtain ⟨h1, h2⟩ := h
  refine ⟨h1, ?_⟩
  rcases h2 with h | ⟨g, cap, cur, e1, e2, e3⟩
  · exact .inl h
  · exact .inr ⟨g, cap, cur, e1, Nat.le_trans hb e2, e3⟩

set_option maxRecDepth 100000 in
set_option maxHeartbeats 1000000 in
theorem corners_any (X : Array Value) (pl : List (Int × Int)) (w : World) (hX : IsRing X pl) (h1 : 1 ≤ pl.length) (h10 : pl.length ≤ 10) :
    Calls Try.prog 79 #[.agg X] w fun e w' => ∃ v, e = .returned v ∧ OwnPts w' w.heap.size v pl ∧ Below w.heap.size w w' := by
  have bR := RowAt.new w X 51
  have c0 := bR.cell hX.n
  have Hf := Lib.hid (flat_of_ring hX bR)
  clear bR
  have i1 : (pl.length : Int) ≤ 10 := by omega
  go_enter Try.func79, Try.ntmps79
  go_wp2_with fail
  refine (clone_any pl ⟨w.heap.size, 1, none⟩ pl.length 10 _ rfl (by omega) Hf.out (by simp)).mono ?_
  rintro e w1 ⟨v, rfl, ho, hb⟩
  go_wp2
  go_ret
  exact ⟨_, rfl, ho.base (by simp), ((Below.refl _ w).alloc (Nat.le_refl _) _).trans (hb.mono (by simp))⟩
end Go.Proofs.Ytnllhhamebmlnaa
