import Derived.Test.YtkpabehjehbidaaRq
namespace Go.Proofs.Ytkpabehjehbidaa
open Go.RowKit

theorem add_low (n1 n2 : Int) {d1 d2 g e1 e2 : Nat} (h1 : 0 < d1) (h2 : 0 < d2) (hg : 0 < g) (k1 : d1 = e1 * g) (k2 : d2 = e2 * g) :
    mkRat (n1 * (e2 : Int) + n2 * (e1 : Int)) (e1 * d2) = mkRat n1 d1 + mkRat n2 d2 := by
  rw [Rat.mkRat_add_mkRat _ _ (by omega) (by omega)]
  have e : mkRat ((n1 * (e2 : Int) + n2 * (e1 : Int)) * (g : Int)) ((e1 * d2) * g) = mkRat (n1 * (e2 : Int) + n2 * (e1 : Int)) (e1 * d2) := Rat.mkRat_mul_right (by omega)
  rw [← e]
  congr 1
  · rw [k1, k2]; push_cast; rw [Int.add_mul, Int.mul_assoc, Int.mul_assoc]
  · rw [k1, Nat.mul_right_comm]

/-- Numbers of which a sum can be made. -/
structure SumOk (n1 : Int) (d1 : Nat) (n2 : Int) (d2 : Nat) : Prop where
  p1 : 0 < d1
  p2 : 0 < d2
  a1 : -1000000000000000000 ≤ n1 * (d2 : Int)
  a2 : n1 * (d2 : Int) ≤ 1000000000000000000
  b1 : -1000000000000000000 ≤ n2 * (d1 : Int)
  b2 : n2 * (d1 : Int) ≤ 1000000000000000000
  c : d1 * d2 ≤ 4000000000000000000

theorem prod_small {n B : Int} {e d : Nat} (h1 : -B ≤ n * (d : Int)) (h2 : n * (d : Int) ≤ B) (he : e ≤ d) (hB : 0 ≤ B) : -B ≤ n * (e : Int) ∧ n * (e : Int) ≤ B := by
  rcases Int.le_total 0 n with h | h
  · have m1 : 0 ≤ n * (e : Int) := Int.mul_nonneg h (by omega)
    have m2 : n * (e : Int) ≤ n * (d : Int) := Int.mul_le_mul_of_nonneg_left (by omega) h
    omega
  · have m1 : n * (e : Int) ≤ 0 := Int.mul_nonpos_of_nonpos_of_nonneg h (by omega)
    have m2 : n * (d : Int) ≤ n * (e : Int) := Int.mul_le_mul_of_nonpos_left h (by omega)
    omega

theorem heap_alloc3_all (w : World) (A B C : Obj) : (((w.alloc A).alloc B).alloc C).heap[w.heap.size]? = some A ∧ (((w.alloc A).alloc B).alloc C).heap[w.heap.size + 1]? = some B ∧ (((w.alloc A).alloc B).alloc C).heap[w.heap.size + 1 + 1]? = some C :=
  ⟨(heap_alloc_old _ _ (by simp; try omega)).trans (heap_alloc2_old w A B), (heap_alloc_old _ _ (by simp; try omega)).trans (heap_alloc2_new w A B), heap_alloc3 w A B C⟩

set_option maxRecDepth 100000 in
set_option maxHeartbeats 2000000 in
theorem radd_any (n1 : Int) (d1 : Nat) (n2 : Int) (d2 : Nat) (w : World) (h : SumOk n1 d1 n2 d2) :
    Calls Try.prog 28 #[.agg #[.int .i64 n1, .int .i64 d1], .agg #[.int .i64 n2, .int .i64 d2]] w fun e w' => e = .returned (Fr (mkRat n1 d1 + mkRat n2 d2)) ∧ Below w.heap.size w w' := by
  obtain ⟨p1, p2, a1, a2, b1, b2, c⟩ := h
  obtain ⟨g, hg⟩ : ∃ g, g = Nat.gcd d1 d2 := ⟨_, rfl⟩
  have hg0 : 0 < g := by rw [hg]; exact Nat.gcd_pos_of_pos_left _ p1
  obtain ⟨e1, k1⟩ : ∃ e, d1 = e * g := by
    obtain ⟨e, he⟩ := Nat.gcd_dvd_left d1 d2
    exact ⟨e, by rw [hg, Nat.mul_comm]; exact he⟩
  obtain ⟨e2, k2⟩ : ∃ e, d2 = e * g := by
    obtain ⟨e, he⟩ := Nat.gcd_dvd_right d1 d2
    exact ⟨e, by rw [hg, Nat.mul_comm]; exact he⟩
  have hq1 : (d1 : Int) / (g : Int) = (e1 : Int) := by rw [k1]; push_cast; exact Int.mul_ediv_cancel _ (by omega)
  have hq2 : (d2 : Int) / (g : Int) = (e2 : Int) := by rw [k2]; push_cast; exact Int.mul_ediv_cancel _ (by omega)
  have l1 : e1 ≤ d1 := by rw [k1]; exact Nat.le_mul_of_pos_right _ hg0
  have l2 : e2 ≤ d2 := by rw [k2]; exact Nat.le_mul_of_pos_right _ hg0
  have g1 : g ≤ d1 := by rw [hg]; exact Nat.gcd_le_left _ p1
  have hR := Lib.hid (add_low n1 n2 p1 p2 hg0 k1 k2)
  have hd : e1 * d2 ≤ 4000000000000000000 := Nat.le_trans (Nat.mul_le_mul_right _ l1) c
  have d1b : d1 ≤ 4000000000000000000 := Nat.le_trans (Nat.le_mul_of_pos_right _ p2) c
  have d2b : d2 ≤ 4000000000000000000 := Nat.le_trans (Nat.le_mul_of_pos_left _ p1) c
  have s1 := prod_small a1 a2 l2 (by omega)
  have s2 := prod_small b1 b2 l1 (by omega)
  have e1p : 0 < e1 := by rcases Nat.eq_zero_or_pos e1 with h | h; (· rw [h, Nat.zero_mul] at k1; omega); (· exact h)
  have hdp : 0 < e1 * d2 := Nat.mul_pos e1p p2
  have Hg := Lib.hid hg
  have hgl : (1 : Int) ≤ (g : Int) := by omega
  have gz : ¬ g = 0 := by omega
  have gn : ((g : Int) == 0) = false := by simp; omega
  have gb : (g : Int) ≤ 4000000000000000000 := by omega
  clear a1 a2 b1 b2 c k1 k2 hg
  obtain ⟨Q, hQ⟩ : ∃ q, q = mkRat n1 d1 + mkRat n2 d2 := ⟨_, rfl⟩
  rw [← hQ] at hR ⊢
  clear hQ
  have t1 : (d1 : Int).tdiv (g : Int) = (e1 : Int) := by rw [Int.tdiv_eq_ediv_of_nonneg (by omega)]; exact hq1
  have t2 : (d2 : Int).tdiv (g : Int) = (e2 : Int) := by rw [Int.tdiv_eq_ediv_of_nonneg (by omega)]; exact hq2
  have x1 : IntKind.i64.wrap (e1 : Int) = (e1 : Int) := IntWalk.i64_in _ (by omega)
  have x2 : IntKind.i64.wrap (e2 : Int) = (e2 : Int) := IntWalk.i64_in _ (by omega)
  have x3 : IntKind.i64.wrap (n1 * (e2 : Int)) = n1 * (e2 : Int) := IntWalk.i64_in _ (by omega)
  have x4 : IntKind.i64.wrap (n2 * (e1 : Int)) = n2 * (e1 : Int) := IntWalk.i64_in _ (by omega)
  have x5 : IntKind.i64.wrap (n1 * (e2 : Int) + n2 * (e1 : Int)) = n1 * (e2 : Int) + n2 * (e1 : Int) := IntWalk.i64_in _ (by omega)
  have x6 : IntKind.i64.wrap ((e1 : Int) * (d2 : Int)) = (e1 : Int) * (d2 : Int) := IntWalk.i64_in _ (by rw [← Int.natCast_mul]; omega)
  have A1 := below_alloc3 w (.cells #[.int .i64 n1, .int .i64 d1] 29) (.cells #[.int .i64 n2, .int .i64 d2] 29) (.cells #[.int .i64 0, .int .i64 0] 29)
  have A2 := heap_alloc3_all w (.cells #[.int .i64 n1, .int .i64 d1] 29) (.cells #[.int .i64 n2, .int .i64 d2] 29) (.cells #[.int .i64 0, .int .i64 0] 29)
  have HA := Lib.hid (And.intro A1 A2)
  clear A1 A2
  go_enter Try.func28, Try.ntmps28
  go_wp2_with fail
  refine (rgcd_any (d1 : Int) (d2 : Int) _ (by omega) (by omega) (by omega) (by omega)).mono ?_
  rintro e w' ⟨rfl, rfl⟩
  rw [Int.natAbs_natCast, Int.natAbs_natCast, ← Hg.out]
  go_wp2_with fail
  obtain ⟨hB, r2, r3, r4⟩ := HA.out
  generalize (((w.alloc (.cells #[.int .i64 n1, .int .i64 d1] 29)).alloc (.cells #[.int .i64 n2, .int .i64 d2] 29)).alloc (.cells #[.int .i64 0, .int .i64 0] 29)) = wx at hB r2 r3 r4 ⊢
  obtain ⟨⟨c0, c1⟩, -, -⟩ := row_fr r2
  obtain ⟨⟨c2, c3⟩, -, -⟩ := row_fr r3
  clear HA r2 r3
  go_still_tail 22, (by kernel_rfl)
  change wpList _ _ _ _ _ wx.drew
  replace hB : Below w.heap.size w wx.drew := below_drewN hB 1
  have hcast : ((e1 : Int) * (d2 : Int)) = ((e1 * d2 : Nat) : Int) := (Int.natCast_mul _ _).symm
  replace r4 : wx.drew.heap[w.heap.size + 1 + 1]? = some (.cells #[.int .i64 0, .int .i64 0] 29 (0, 0)) := r4
  generalize wx.drew = wd at hB r4 ⊢
  clear t1 t2 x1 x2 x3 x4 x5 x6 hq1 hq2 gn gz
  rw [hcast]
  clear hcast c0 c1 c2 c3
  obtain ⟨N, hN⟩ : ∃ x, x = n1 * (e2 : Int) + n2 * (e1 : Int) := ⟨_, rfl⟩
  obtain ⟨D, hD⟩ : ∃ x, x = e1 * d2 := ⟨_, rfl⟩
  rw [← hN, ← hD] at hR ⊢
  rw [← hD] at hd hdp
  have b1 : -2000000000000000000 ≤ N ∧ N ≤ 2000000000000000000 := by omega
  clear hN hD
  go_wp2_with fail
  refine (ratio_any N D _ hdp (by omega) (by omega) (by omega)).mono ?_
  rintro e w1 ⟨rfl, hbb⟩
  replace r4 := heap_keep hbb r4
  replace hB := hB.trans (hbb.mono hB.size)
  clear hbb
  rw [hR.out]
  obtain ⟨⟨d0, d1⟩, f0, f1⟩ := row_fr r4
  go_wp2
  exact bodyPost_ret (results_cell_row rfl _ _ _ _ _ _ _ rfl (two_cells r4 (.int .i64 Q.num) (.int .i64 Q.den)) Try.underlying29 rfl infoRat2) rfl ⟨rfl, below_setCell (below_setCell hB (by omega) _) (by omega) _⟩
end Go.Proofs.Ytkpabehjehbidaa
