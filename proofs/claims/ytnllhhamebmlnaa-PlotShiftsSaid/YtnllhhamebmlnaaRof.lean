import Derived.Test.YtnllhhamebmlnaaRing
namespace Go.Proofs.Ytnllhhamebmlnaa
open Go.RowKit

theorem add_off (b off j : Nat) : (⟨b, off, none⟩ : Addr).add j = ⟨b, off + j, none⟩ := by unfold Addr.add; split <;> simp_all

set_option maxRecDepth 100000 in
set_option maxHeartbeats 800000 in
theorem ringOf_any (l : List (Int × Int)) (ao : Option Addr) (n cap : Nat) (w : World) (hp : Pts w ao l) (hln : n = l.length) (hn : n ≤ 10) (hn1 : 1 ≤ n) :
    Calls Try.prog 60 #[.slice ao n cap] w fun e w' => e = .returned (.agg (ringCells l).toArray) ∧ Below w.heap.size w w' := by
  obtain ⟨b, off, rfl, hbs, hc⟩ := hp.cells (by omega)
  have Hc := Lib.hid hc
  have Hn := Lib.hid hln
  clear hc hp hln
  have hg1 := heap_alloc2_new w (.cells (z21 0) 51) (.cells (z21 0) 51)
  have Hg1 := Lib.hid hg1
  clear hg1
  have hbu : (Try.prog.built 51 [(0, .int .i64 n)]).isSome = true := by kernel_rfl
  have hbv : (Try.prog.built 51 [(0, .int .i64 n)]).getD #[] = z21 n := by kernel_rfl
  go_enter Try.func60, Try.ntmps60
  go_wp2_with (first | (refine wpList_build rfl _ _ rfl hbu ?_; simp only [List.map_toArray, List.map_cons, List.map_nil, Act.eval, hbv]) | (refine wpList_store_row_b rfl _ _ _ rfl _ (z21 n) rfl rfl _ _ Hg1.out Try.infoRing rfl (z21_one _) ?_; intro w2 hw2 hb2 hs2) | ((with_reducible refine wpList_copy_sized rfl _ _ _ _ rfl 32 ?hu 2 ?hsz ?g ?off ?dLen ?dCap ?ad ?sLen ?sCap ?hd ?hs ?cur ?t ?hg (flat l) ?hn ?hsrc ?hfit ?h1 ?h)))
  case hd => exact rfl
  case hs => exact rfl
  case hu => exact Try.underlying22
  case hsz => exact Try.infoPt
  case hg => exact hw2
  case hn => rw [flat_length, show Nat.min n 10 = n from Nat.min_eq_left hn, Hn.out]
  case hsrc =>
    intro j v hj
    have hjl : j < (flat l).length := (List.getElem?_eq_some_iff.1 hj).1
    rw [flat_length] at hjl
    have hi : j / 2 < l.length := by omega
    have hcell : ∀ k, w2.cell? ⟨b, k, none⟩ = w.cell? ⟨b, k, none⟩ := fun k => by
      rw [hb2.cell (p := ⟨b, k, none⟩) (by simp; omega)]
      rw [World.cell?_alloc_past _ b k (by simp; omega), World.cell?_alloc_past _ b k hbs]
    rcases Nat.mod_two_eq_zero_or_one j with h0 | h0
    · have e : j = j / 2 * 2 := by omega
      rw [e, flat_even l _ hi] at hj
      rw [← Option.some.inj hj, e]
      rw [add_off, hcell, show j / 2 * 2 / 2 = j / 2 by omega]
      exact (Hc.out (j / 2) hi).1
    · have e : j = j / 2 * 2 + 1 := by omega
      rw [e, flat_odd l _ hi] at hj
      rw [← Option.some.inj hj, e]
      rw [add_off, hcell, show (j / 2 * 2 + 1) / 2 = j / 2 by omega]
      exact (Hc.out (j / 2) hi).2
  case hfit =>
    have := Hn.out
    rw [flat_length, z21_size]
    omega
  case h1 => exact flat_one l
  case h =>
    intro w3 hw3 hb3
    have hR : w3.heap[w.heap.size + 1]? = some (.cells (ringCells l).toArray 51 (0, 0)) := by
      rw [← ringCells_splice, ← Hn.out]
      simpa using hw3
    have hsz : (Try.prog.info? 51).map (·.size) = some (ringCells l).toArray.size := by
      rw [Try.infoRing]
      simp [ringCells_length (l := l) (by have := Hn.out; omega)]
    have HR := Lib.hid hR
    have Hsz := Lib.hid hsz
    clear hw3 hw2 hR hsz
    have hZ : w3.heap[w.heap.size]? = some (.cells (z21 0) 51 (0, 0)) := by
      rw [hb3.block _ (by omega), hb2.block _ (by omega)]
      rw [Below.heap_alloc _ _ _ (by simp)]
      exact heap_alloc_new _ _
    have HZ := Lib.hid hZ
    clear hZ
    go_wp2_with (first | (refine wpList_load_row rfl _ _ rfl _ rfl _ (ringCells l).toArray _ _ HR.out Try.underlying51 rfl Hsz.out ?_) | (refine wpList_store_row_b rfl _ _ _ rfl _ (ringCells l).toArray rfl rfl _ _ HZ.out Hsz.out (by rw [z21_size]; simp [ringCells_length (l := l) (by have := Hn.out; omega)]) (ringCells_one l) ?_; intro w4 hw4 hb4 hs4))
    refine bodyPost_ret (results_cell_row rfl _ _ _ _ _ _ _ rfl hw4 Try.underlying51 rfl Hsz.out) rfl ⟨rfl, ?_⟩
    refine ((((Below.refl _ w).alloc (Nat.le_refl _) _).alloc (by simp) _).trans (hb2.mono (by omega))).trans ((hb3.mono (by omega)).trans hb4)
end Go.Proofs.Ytnllhhamebmlnaa
