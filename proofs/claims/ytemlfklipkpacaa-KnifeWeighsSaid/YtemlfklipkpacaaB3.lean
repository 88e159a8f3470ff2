import Derived.Test.YtemlfklipkpacaaB1
import Derived.Test.YtemlfklipkpacaaB2
namespace Go.Proofs.Ytemlfklipkpacaa
open Go.RowKit

theorem add_low (n1 n2 : Int) {d1 d2 g e1 e2 : Nat} (h1 : 0 < d1) (h2 : 0 < d2) (hg : 0 < g) (k1 : d1 = e1 * g) (k2 : d2 = e2 * g) :
    mkRat (n1 * (e2 : Int) + n2 * (e1 : Int)) (e1 * d2) = mkRat n1 d1 + mkRat n2 d2 := by
  rw [Rat.mkRat_add_mkRat _ _ (by omega) (by omega)]
  have e : mkRat ((n1 * (e2 : Int) + n2 * (e1 : Int)) * (g : Int)) ((e1 * d2) * g) = mkRat (n1 * (e2 : Int) + n2 * (e1 : Int)) (e1 * d2) := Rat.mkRat_mul_right (by omega)
  rw [← e]
  congr 1
  · rw [k1, k2]; push_cast; rw [Int.add_mul, Int.mul_assoc, Int.mul_assoc]
  · rw [k1, Nat.mul_right_comm]

/-- Numbers of which a sum can be made. -/
structure SumOk (n1 : Int) (d1 : Nat) (n2 : Int) (d2 : Nat) : Prop where
  p1 : 0 < d1
  p2 : 0 < d2
  a1 : -1000000000000000000 ≤ n1 * (d2 : Int)
  a2 : n1 * (d2 : Int) ≤ 1000000000000000000
  b1 : -1000000000000000000 ≤ n2 * (d1 : Int)
  b2 : n2 * (d1 : Int) ≤ 1000000000000000000
  c : d1 * d2 ≤ 4000000000000000000

theorem prod_small {n B : Int} {e d : Nat} (h1 : -B ≤ n * (d : Int)) (h2 : n * (d : Int) ≤ B) (he : e ≤ d) (hB : 0 ≤ B) : -B ≤ n * (e : Int) ∧ n * (e : Int) ≤ B := by
  rcases Int.le_total 0 n with h | h
  · have m1 : 0 ≤ n * (e : Int) := Int.mul_nonneg h (by omega)
    have m2 : n * (e : Int) ≤ n * (d : Int) := Int.mul_le_mul_of_nonneg_left (by omega) h
    omega
  · have m1 : n * (e : Int) ≤ 0 := Int.mul_nonpos_of_nonpos_of_nonneg h (by omega)
    have m2 : n * (d : Int) ≤ n * (e : Int) := Int.mul_le_mul_of_nonpos_left h (by omega)
    omega

theorem heap_alloc3_all (w : World) (A B C : Obj) : (((w.alloc A).alloc B).alloc C).heap[w.heap.size]? = some A ∧ (((w.alloc A).alloc B).alloc C).heap[w.heap.size + 1]? = some B ∧ (((w.alloc A).alloc B).alloc C).heap[w.heap.size + 1 + 1]? = some C :=
  ⟨(heap_alloc_old _ _ (by simp; try omega)).trans (heap_alloc2_old w A B), (heap_alloc_old _ _ (by simp; try omega)).trans (heap_alloc2_new w A B), heap_alloc3 w A B C⟩

set_option maxRecDepth 100000 in
set_option maxHeartbeats 2000000 in
theorem radd_any (n1 : Int) (d1 : Nat) (n2 : Int) (d2 : Nat) (w : World) (h : SumOk n1 d1 n2 d2) :
    Calls Try.prog 39 #[.agg #[.int .i64 n1, .int .i64 d1], .agg #[.int .i64 n2, .int .i64 d2]] w fun e w' => e = .returned (Fr (mkRat n1 d1 + mkRat n2 d2)) ∧ Below w.heap.size w w' := by
  obtain ⟨p1, p2, a1, a2, b1, b2, c⟩ := h
  obtain ⟨g, hg⟩ : ∃ g, g = Nat.gcd d1 d2 := ⟨_, rfl⟩
  have hg0 : 0 < g := by rw [hg]; exact Nat.gcd_pos_of_pos_left _ p1
  obtain ⟨e1, k1⟩ : ∃ e, d1 = e * g := by
    obtain ⟨e, he⟩ := Nat.gcd_dvd_left d1 d2
    exact ⟨e, by rw [hg, Nat.mul_comm]; exact he⟩
  obtain ⟨e2, k2⟩ : ∃ e, d2 = e * g := by
    obtain ⟨e, he⟩ := Nat.gcd_dvd_right d1 d2
    exact ⟨e, by rw [hg, Nat.mul_comm]; exact he⟩
  have hq1 : (d1 : Int) / (g : Int) = (e1 : Int) := by rw [k1]; push_cast; exact Int.mul_ediv_cancel _ (by omega)
  have hq2 : (d2 : Int) / (g : Int) = (e2 : Int) := by rw [k2]; push_cast; exact Int.mul_ediv_cancel _ (by omega)
  have l1 : e1 ≤ d1 := by rw [k1]; exact Nat.le_mul_of_pos_right _ hg0
  have l2 : e2 ≤ d2 := by rw [k2]; exact Nat.le_mul_of_pos_right _ hg0
  have g1 : g ≤ d1 := by rw [hg]; exact Nat.gcd_le_left _ p1
  have hR := Lib.hid (add_low n1 n2 p1 p2 hg0 k1 k2)
  have hd : e1 * d2 ≤ 4000000000000000000 := Nat.le_trans (Nat.mul_le_mul_right _ l1) c
  have d1b : d1 ≤ 4000000000000000000 := Nat.le_trans (Nat.le_mul_of_pos_right _ p2) c
  have d2b : d2 ≤ 4000000000000000000 := Nat.le_trans (Nat.le_mul_of_pos_left _ p1) c
  have s1 := prod_small a1 a2 l2 (by omega)
  have s2 := prod_small b1 b2 l1 (by omega)
  have e1p : 0 < e1 := by rcases Nat.eq_zero_or_pos e1 with h | h; (· rw [h, Nat.zero_mul] at k1; omega); (· exact h)
  have hdp : 0 < e1 * d2 := Nat.mul_pos e1p p2
  have Hg := Lib.hid hg
  have hgl : (1 : Int) ≤ (g : Int) := by omega
  have gz : ¬ g = 0 := by omega
  have gn : ((g : Int) == 0) = false := by simp; omega
  have gb : (g : Int) ≤ 4000000000000000000 := by omega
  clear a1 a2 b1 b2 c k1 k2 hg
  obtain ⟨Q, hQ⟩ : ∃ q, q = mkRat n1 d1 + mkRat n2 d2 := ⟨_, rfl⟩
  rw [← hQ] at hR ⊢
  clear hQ
  have t1 : (d1 : Int).tdiv (g : Int) = (e1 : Int) := by rw [Int.tdiv_eq_ediv_of_nonneg (by omega)]; exact hq1
  have t2 : (d2 : Int).tdiv (g : Int) = (e2 : Int) := by rw [Int.tdiv_eq_ediv_of_nonneg (by omega)]; exact hq2
  have x1 : IntKind.i64.wrap (e1 : Int) = (e1 : Int) := IntWalk.i64_in _ (by omega)
  have x2 : IntKind.i64.wrap (e2 : Int) = (e2 : Int) := IntWalk.i64_in _ (by omega)
  have x3 : IntKind.i64.wrap (n1 * (e2 : Int)) = n1 * (e2 : Int) := IntWalk.i64_in _ (by omega)
  have x4 : IntKind.i64.wrap (n2 * (e1 : Int)) = n2 * (e1 : Int) := IntWalk.i64_in _ (by omega)
  have x5 : IntKind.i64.wrap (n1 * (e2 : Int) + n2 * (e1 : Int)) = n1 * (e2 : Int) + n2 * (e1 : Int) := IntWalk.i64_in _ (by omega)
  have x6 : IntKind.i64.wrap ((e1 : Int) * (d2 : Int)) = (e1 : Int) * (d2 : Int) := IntWalk.i64_in _ (by rw [← Int.natCast_mul]; omega)
  have A1 := below_alloc3 w (.cells #[.int .i64 n1, .int .i64 d1] 29) (.cells #[.int .i64 n2, .int .i64 d2] 29) (.cells #[.int .i64 0, .int .i64 0] 29)
  have A2 := heap_alloc3_all w (.cells #[.int .i64 n1, .int .i64 d1] 29) (.cells #[.int .i64 n2, .int .i64 d2] 29) (.cells #[.int .i64 0, .int .i64 0] 29)
  have HA := Lib.hid (And.intro A1 A2)
  clear A1 A2
  go_enter Try.func39, Try.ntmps39
  go_wp2_with fail
  refine (rgcd_any (d1 : Int) (d2 : Int) _ (by omega) (by omega) (by omega) (by omega)).mono ?_
  rintro e w' ⟨rfl, rfl⟩
  rw [Int.natAbs_natCast, Int.natAbs_natCast, ← Hg.out]
  go_wp2_with fail
  obtain ⟨hB, r2, r3, r4⟩ := HA.out
  generalize (((w.alloc (.cells #[.int .i64 n1, .int .i64 d1] 29)).alloc (.cells #[.int .i64 n2, .int .i64 d2] 29)).alloc (.cells #[.int .i64 0, .int .i64 0] 29)) = wx at hB r2 r3 r4 ⊢
  obtain ⟨⟨c0, c1⟩, -, -⟩ := row_fr r2
  obtain ⟨⟨c2, c3⟩, -, -⟩ := row_fr r3
  clear HA r2 r3
  go_still_tail 22, (by kernel_rfl)
  change wpList _ _ _ _ _ wx.drew
  replace hB : Below w.heap.size w wx.drew := below_drewN hB 1
  have hcast : ((e1 : Int) * (d2 : Int)) = ((e1 * d2 : Nat) : Int) := (Int.natCast_mul _ _).symm
  replace r4 : wx.drew.heap[w.heap.size + 1 + 1]? = some (.cells #[.int .i64 0, .int .i64 0] 29 (0, 0)) := r4
  generalize wx.drew = wd at hB r4 ⊢
  clear t1 t2 x1 x2 x3 x4 x5 x6 hq1 hq2 gn gz
  rw [hcast]
  clear hcast c0 c1 c2 c3
  obtain ⟨N, hN⟩ : ∃ x, x = n1 * (e2 : Int) + n2 * (e1 : Int) := ⟨_, rfl⟩
  obtain ⟨D, hD⟩ : ∃ x, x = e1 * d2 := ⟨_, rfl⟩
  rw [← hN, ← hD] at hR ⊢
  rw [← hD] at hd hdp
  have b1 : -2000000000000000000 ≤ N ∧ N ≤ 2000000000000000000 := by omega
  clear hN hD
  go_wp2_with fail
  refine (ratio_any N D _ hdp (by omega) (by omega) (by omega)).mono ?_
  rintro e w1 ⟨rfl, hbb⟩
  replace r4 := heap_keep hbb r4
  replace hB := hB.trans (hbb.mono hB.size)
  clear hbb
  rw [hR.out]
  obtain ⟨⟨d0, d1⟩, f0, f1⟩ := row_fr r4
  go_wp2
  exact bodyPost_ret (results_cell_row rfl _ _ _ _ _ _ _ rfl (two_cells r4 (.int .i64 Q.num) (.int .i64 Q.den)) Try.underlying29 rfl infoRat2) rfl ⟨rfl, below_setCell (below_setCell hB (by omega) _) (by omega) _⟩
end Go.Proofs.Ytemlfklipkpacaa

namespace Go.Proofs.Ytemlfklipkpacaa
open Go.RowKit

theorem SumOk.neg {n1 n2 : Int} {d1 d2 : Nat} (h : SumOk n1 d1 n2 d2) : SumOk n1 d1 (-n2) d2 :=
  ⟨h.p1, h.p2, h.a1, h.a2, by have := h.b2; rw [Int.neg_mul]; omega, by have := h.b1; rw [Int.neg_mul]; omega, h.c⟩
theorem SumOk.n2b {n1 n2 : Int} {d1 d2 : Nat} (h : SumOk n1 d1 n2 d2) : -1000000000000000000 ≤ n2 ∧ n2 ≤ 1000000000000000000 := by
  have := prod_small (e := 1) h.b1 h.b2 h.p1 (by omega)
  rw [show ((1 : Nat) : Int) = 1 from rfl, Int.mul_one] at this
  exact this

theorem sub_mk (n1 n2 : Int) (d1 d2 : Nat) : mkRat n1 d1 + mkRat (-n2) d2 = mkRat n1 d1 - mkRat n2 d2 := by
  rw [← Rat.neg_mkRat, Rat.sub_eq_add_neg]

set_option maxRecDepth 100000 in
set_option maxHeartbeats 1000000 in
theorem rsub_any (n1 : Int) (d1 : Nat) (n2 : Int) (d2 : Nat) (w : World) (h : SumOk n1 d1 n2 d2) :
    Calls Try.prog 88 #[.agg #[.int .i64 n1, .int .i64 d1], .agg #[.int .i64 n2, .int .i64 d2]] w fun e w' => e = .returned (Fr (mkRat n1 d1 - mkRat n2 d2)) ∧ Below w.heap.size w w' := by
  have hb := h.n2b
  have hneg := h.neg
  have hR := Lib.hid (sub_mk n1 n2 d1 d2)
  obtain ⟨Q, hQ⟩ : ∃ q, mkRat n1 d1 - mkRat n2 d2 = q := ⟨_, rfl⟩
  rw [hQ] at hR ⊢
  clear hQ h
  have x1 : IntKind.i64.wrap (-n2) = -n2 := IntWalk.i64_in _ (by omega)
  have hB := below_alloc3 w (.cells #[.int .i64 n1, .int .i64 d1] 29) (.cells #[.int .i64 n2, .int .i64 d2] 29) (.cells #[.int .i64 0, .int .i64 0] 29)
  have A2 := heap_alloc3_all w (.cells #[.int .i64 n1, .int .i64 d1] 29) (.cells #[.int .i64 n2, .int .i64 d2] 29) (.cells #[.int .i64 0, .int .i64 0] 29)
  have HA := Lib.hid (And.intro hB A2)
  clear hB A2
  go_enter Try.func88, Try.ntmps88
  go_wp2_with fail
  obtain ⟨hB, -, -, r4⟩ := HA.out
  clear HA
  refine (radd_any n1 d1 (-n2) d2 _ hneg).mono ?_
  rintro e w1 ⟨rfl, hbb⟩
  replace r4 := heap_keep hbb r4
  replace hB := hB.trans (hbb.mono hB.size)
  clear hbb
  rw [hR.out]
  obtain ⟨⟨d0, d1⟩, f0, f1⟩ := row_fr r4
  go_wp2
  exact bodyPost_ret (results_cell_row rfl _ _ _ _ _ _ _ rfl (two_cells r4 (.int .i64 Q.num) (.int .i64 Q.den)) Try.underlying29 rfl infoRat2) rfl ⟨rfl, below_setCell (below_setCell hB (by omega) _) (by omega) _⟩

theorem field_rt (a b : Int) : ∀ w : World, (Instr.field 29 (.agg #[.int .i64 a, .int .i64 b]) 0).run Try.prog w = .ok (.int .i64 a) w := fun _ => by kernel_rfl
theorem num_neg (q : Rat) : decide (q.num < 0) = decide (q < 0) := by
  rw [decide_eq_decide]
  have := @Rat.num_nonneg q
  constructor <;> intro h
  · have h2 : ¬ 0 ≤ q.num := by omega
    rw [this] at h2
    grind
  · have h2 : ¬ 0 ≤ q := by grind
    rw [← this] at h2
    omega

set_option maxRecDepth 100000 in
set_option maxHeartbeats 1000000 in
theorem rless_any (n1 : Int) (d1 : Nat) (n2 : Int) (d2 : Nat) (w : World) (h : SumOk n1 d1 n2 d2) :
    Calls Try.prog 36 #[.agg #[.int .i64 n1, .int .i64 d1], .agg #[.int .i64 n2, .int .i64 d2]] w fun e w' => e = .returned (.bool (decide (mkRat n1 d1 < mkRat n2 d2))) ∧ Below w.heap.size w w' := by
  have hR : decide ((mkRat n1 d1 - mkRat n2 d2).num < 0) = decide (mkRat n1 d1 < mkRat n2 d2) := by
    rw [num_neg, decide_eq_decide]
    constructor <;> intro h <;> grind
  have HR := Lib.hid hR
  clear hR
  have hB := below_alloc2 w (.cells #[.int .i64 n1, .int .i64 d1] 29) (.cells #[.int .i64 n2, .int .i64 d2] 29)
  have HB := Lib.hid hB
  clear hB
  go_enter Try.func36, Try.ntmps36
  go_wp2_with fail
  refine (rsub_any n1 d1 n2 d2 _ h).mono ?_
  rintro e w1 ⟨rfl, hbb⟩
  have hf := field_rt (mkRat n1 d1 - mkRat n2 d2).num (mkRat n1 d1 - mkRat n2 d2).den
  have hB := HB.out.trans (hbb.mono HB.out.size)
  clear hbb HB
  dsimp only [Fr]
  go_wp2
  all_goals
    go_ret
    refine ⟨ret_bool ?_, hB⟩
    rw [← HR.out]

set_option maxHeartbeats 400000 in
theorem rwhole_any (n : Int) (w : World) :
    Calls Try.prog 40 #[.int .i64 n] w fun e w' => e = .returned (Fr (n : Rat)) ∧ Below w.heap.size w w' := by
  go_enter Try.func40, Try.ntmps40
  go_wp2
  exact bodyPost_ret (results_cell_row rfl _ _ _ _ _ _ _ rfl (heap_alloc_new w _) Try.underlying29 rfl infoRat2) rfl ⟨rfl, (Below.refl _ w).alloc (Nat.le_refl _) _⟩

/-- Numbers of which a product can be made. -/
structure MulOk (n : Int) (a : Rat) : Prop where
  n1 : 0 ≤ n
  n2 : n ≤ 1000000
  a1 : 0 ≤ a.num
  a2 : a.num ≤ 1000000000000
  a3 : a.den ≤ 1000000000000
theorem mul_low (n : Int) (a : Rat) : mkRat ((mkRat n a.den).num * a.num) (mkRat n a.den).den = (n : Rat) * a := by
  have h1 : mkRat ((mkRat n a.den).num * a.num) (mkRat n a.den).den = mkRat n a.den * (a.num : Rat) := by
    rw [Rat.mul_def', Rat.num_intCast, Rat.den_intCast, Nat.mul_one]
  rw [h1, Rat.mkRat_eq_div]
  have hx : a = (a.num : Rat) / (a.den : Rat) := by rw [← Rat.mkRat_eq_div, Rat.mkRat_self]
  conv => rhs; rw [hx]
  rw [Rat.div_def, Rat.div_def, Rat.mul_assoc, Rat.mul_comm ((a.den : Rat)⁻¹)]
theorem mk_num_le {n : Int} {d : Nat} (h : 0 ≤ n) : 0 ≤ (mkRat n d).num ∧ (mkRat n d).num ≤ n := by
  rw [Rat.num_mkRat]
  split
  · omega
  · exact ⟨Int.ediv_nonneg h (by omega), Int.ediv_le_self _ h⟩
theorem mk_den_le {n : Int} {d : Nat} (h : 0 < d) : (mkRat n d).den ≤ d := by
  rw [Rat.den_mkRat, if_neg (by omega)]
  exact Nat.div_le_self _ _

set_option maxRecDepth 100000 in
set_option maxHeartbeats 1000000 in
theorem rtimes_any (n : Int) (a : Rat) (w : World) (h : MulOk n a) :
    Calls Try.prog 147 #[.int .i64 n, Fr a] w fun e w' => e = .returned (Fr ((n : Rat) * a)) ∧ Below w.heap.size w w' := by
  have hR := mul_low n a
  have hden := a.den_pos
  have k1 := mk_num_le (n := n) (d := a.den) h.n1
  have k2 := mk_den_le (n := n) hden
  have k3 := (mkRat n a.den).den_pos
  obtain ⟨X, hX⟩ : ∃ x, mkRat n a.den = x := ⟨_, rfl⟩
  rw [hX] at hR k1 k2 k3
  obtain ⟨Q, hQ⟩ : ∃ q, (n : Rat) * a = q := ⟨_, rfl⟩
  rw [hQ] at hR ⊢
  have HX := Lib.hid hX
  have HR := Lib.hid hR
  clear hQ hR hX
  obtain ⟨h1, h2, h3, h4, h5⟩ := h
  have m1 : 0 ≤ X.num * a.num := Int.mul_nonneg k1.1 h3
  have m2 : X.num * a.num ≤ 1000000 * 1000000000000 := Int.mul_le_mul (by omega) h4 h3 (by omega)
  have x1 : IntKind.i64.wrap (X.num * a.num) = X.num * a.num := IntWalk.i64_in _ (by omega)
  have hB := below_alloc2 w (.cells #[.int .i64 a.num, .int .i64 a.den] 29) (.cells #[.int .i64 0, .int .i64 0] 29)
  have r3 := heap_alloc2_old w (.cells #[.int .i64 a.num, .int .i64 a.den] 29) (.cells #[.int .i64 0, .int .i64 0] 29)
  have r4 := heap_alloc2_new w (.cells #[.int .i64 a.num, .int .i64 a.den] 29) (.cells #[.int .i64 0, .int .i64 0] 29)
  have HA := Lib.hid (And.intro hB (And.intro r3 r4))
  clear hB r3 r4
  go_enter Try.func147, Try.ntmps147
  go_wp2_with fail
  obtain ⟨hB, r3, r4⟩ := HA.out
  clear HA
  refine (ratio_any n a.den _ hden (by omega) (by omega) (by omega)).mono ?_
  rintro e w1 ⟨rfl, hbb⟩
  replace r3 := heap_keep hbb r3
  replace r4 := heap_keep hbb r4
  replace hB := hB.trans (hbb.mono hB.size)
  clear hbb
  rw [HX.out]
  have hA := (Below.refl _ w1).alloc (Nat.le_refl _) (.cells #[.int .i64 X.num, .int .i64 X.den] 29)
  have r5 := heap_alloc_new w1 (.cells #[.int .i64 X.num, .int .i64 X.den] 29)
  replace r3 := heap_keep hA r3
  replace r4 := heap_keep hA r4
  replace hB := hB.trans (hA.mono hB.size)
  clear hA
  obtain ⟨⟨d0, d1⟩, f0, f1⟩ := row_fr r3
  go_wp2_with fail
  refine (ratio_any (X.num * a.num) X.den _ k3 (by omega) (by omega) (by omega)).mono ?_
  rintro e w2 ⟨rfl, hbb⟩
  replace r3 := heap_keep hbb r3
  replace r4 := heap_keep hbb r4
  replace hB := hB.trans (hbb.mono hB.size)
  clear hbb
  rw [HR.out]
  clear d0 d1 f0 f1
  obtain ⟨⟨d0, d1⟩, f0, f1⟩ := row_fr r4
  go_wp2
  exact bodyPost_ret (results_cell_row rfl _ _ _ _ _ _ _ rfl (two_cells r4 (.int .i64 Q.num) (.int .i64 Q.den)) Try.underlying29 rfl infoRat2) rfl ⟨rfl, below_setCell (below_setCell hB (by omega) _) (by omega) _⟩
end Go.Proofs.Ytemlfklipkpacaa

namespace Go.Proofs.Ytemlfklipkpacaa
open Go.RowKit

set_option maxRecDepth 100000 in
set_option maxHeartbeats 2000000 in
theorem compareR_any (a b : Rat) (w : World) (ha : 0 ≤ a.num) (hb : 0 ≤ b.num) (ha2 : a.num ≤ 9223372036854775807) (hb2 : b.num ≤ 9223372036854775807) (hd : (a.den : Int) * (b.den : Int) ≤ 4000000000000000000) :
    Calls Try.prog 73 #[Fr a, Fr b] w fun e w' => e = .returned (.int .i64 (Fl.cmpR a b)) ∧ Below w.heap.size w w' := by
  obtain ⟨an, han⟩ : ∃ x : Nat, (x : Int) = a.num := ⟨a.num.toNat, by omega⟩
  obtain ⟨bn, hbn⟩ : ∃ x : Nat, (x : Int) = b.num := ⟨b.num.toNat, by omega⟩
  obtain ⟨ad, had⟩ : ∃ x, x = a.den := ⟨_, rfl⟩
  obtain ⟨bd, hbd⟩ : ∃ x, x = b.den := ⟨_, rfl⟩
  obtain ⟨r, hr⟩ : ∃ x, x = Fl.cmpR a b := ⟨_, rfl⟩
  have da : (1 : Int) ≤ (ad : Int) := by have := a.den_pos; omega
  have db : (1 : Int) ≤ (bd : Int) := by have := b.den_pos; omega
  have H1 : cmpI ((an : Int) / (ad : Int)) ((bn : Int) / (bd : Int)) ≠ 0 → cmpI ((an : Int) / (ad : Int)) ((bn : Int) / (bd : Int)) = r := by
    rw [han, hbn, had, hbd, hr]; exact cmp_first ha hb
  have H2 : cmpI ((an : Int) / (ad : Int)) ((bn : Int) / (bd : Int)) = 0 → cmpI ((an : Int) % (ad : Int) * (bd : Int)) ((bn : Int) % (bd : Int) * (ad : Int)) = r := by
    rw [han, hbn, had, hbd, hr]; exact cmp_second
  have HH := Lib.hid (And.intro H1 H2)
  clear H1 H2
  show Calls Try.prog 73 #[.agg #[.int .i64 a.num, .int .i64 a.den], .agg #[.int .i64 b.num, .int .i64 b.den]] w _
  rw [← han, ← hbn, ← had, ← hbd, ← hr]
  rw [← han] at ha ha2
  rw [← hbn] at hb hb2
  rw [← had, ← hbd] at hd
  clear han hbn had hbd hr
  have dd : (1 : Int) ≤ (ad : Int) * (bd : Int) := by have := Int.mul_le_mul da db (by omega) (by omega); omega
  have ea : (ad : Int) ≤ (ad : Int) * (bd : Int) := by have := Int.mul_le_mul_of_nonneg_left db (show (0 : Int) ≤ (ad : Int) by omega); omega
  have eb : (bd : Int) ≤ (ad : Int) * (bd : Int) := by have := Int.mul_le_mul_of_nonneg_right da (show (0 : Int) ≤ (bd : Int) by omega); omega
  have r1 := Int.emod_lt_of_pos (an : Int) (b := (ad : Int)) (by omega)
  have r2 := Int.emod_lt_of_pos (bn : Int) (b := (bd : Int)) (by omega)
  have r3 := Int.emod_nonneg (an : Int) (show (ad : Int) ≠ 0 by omega)
  have r4 := Int.emod_nonneg (bn : Int) (show (bd : Int) ≠ 0 by omega)
  have m1 : 0 ≤ (an : Int) % (ad : Int) * (bd : Int) := Int.mul_nonneg r3 (by omega)
  have m2 : (an : Int) % (ad : Int) * (bd : Int) ≤ (ad : Int) * (bd : Int) := Int.mul_le_mul_of_nonneg_right (by omega) (by omega)
  have m3 : 0 ≤ (bn : Int) % (bd : Int) * (ad : Int) := Int.mul_nonneg r4 (by omega)
  have m4 : (bn : Int) % (bd : Int) * (ad : Int) ≤ (bd : Int) * (ad : Int) := Int.mul_le_mul_of_nonneg_right (by omega) (by omega)
  rw [Int.mul_comm (bd : Int) (ad : Int)] at m4
  have x1 : IntKind.i64.wrap ((an : Int) % (ad : Int) * (bd : Int)) = (an : Int) % (ad : Int) * (bd : Int) := IntWalk.i64_in _ (by omega)
  have x2 : IntKind.i64.wrap ((bn : Int) % (bd : Int) * (ad : Int)) = (bn : Int) % (bd : Int) * (ad : Int) := IntWalk.i64_in _ (by omega)
  clear m1 m2 m3 m4 r1 r2 r3 r4 dd ea eb
  have b1 := IntWalk.tdiv_le (an : Int) ad (by omega) da
  have b2 := IntWalk.tdiv_le (bn : Int) bd (by omega) db
  have w1 : IntKind.i64.wrap ((an : Int) / (ad : Int)) = (an : Int) / (ad : Int) := IntWalk.i64_in _ (by omega)
  have w2 : IntKind.i64.wrap ((bn : Int) / (bd : Int)) = (bn : Int) / (bd : Int) := IntWalk.i64_in _ (by omega)
  clear b1 b2
  have na : ¬ ad = 0 := by omega
  have nb : ¬ bd = 0 := by omega
  have qa : ((ad : Int) == 0) = false := by simp; omega
  have qb : ((bd : Int) == 0) = false := by simp; omega
  go_enter Try.func73, Try.ntmps73
  go_upto_region 1 with fail
  go_cut [5, 6] from 8 (fun p5 p6 wx => ∃ g5 g6 : Nat, p5 = .pointer (some ⟨g5, 0, none⟩) ∧ p6 = .pointer (some ⟨g6, 0, none⟩) ∧ wx.heap[g5]? = some (.cells #[.int .i64 (an : Int), .int .i64 ad] 29 (0, 0)) ∧ wx.heap[g6]? = some (.cells #[.int .i64 (bn : Int), .int .i64 bd] 29 (0, 0)) ∧ Below w.heap.size w wx)
  case first =>
    go_region
    all_goals go_wp2_with fail
    all_goals go_meet
    all_goals (first
      | exact ⟨_, _, rfl, rfl, heap_alloc4_old w _ _ _ _, heap_alloc4_new w _ _ _ _, below_drewN (below_alloc4 w _ _ _ _) 1⟩
      | exact ⟨_, _, rfl, rfl, heap_alloc4_new w _ _ _ _, heap_alloc4_old w _ _ _ _, below_drewN (below_alloc4 w _ _ _ _) 1⟩)
  case rest =>
    obtain ⟨g5, g6, rfl, rfl, h5, h6, hB⟩ := hcut
    obtain ⟨⟨c5, c6⟩, -, -⟩ := row_fr h5
    obtain ⟨⟨c7, c8⟩, -, -⟩ := row_fr h6
    clear h5 h6
    go_wp2
    go_quiet ((go_at_call 130; exact Calls.quiet_of_same (cmp_same _ _ _)))
    have c5' : (wc.drewN nq).cell? ⟨g5, 0, none⟩ = _ := c5
    have c6' : (wc.drewN nq).cell? ⟨g5, 1, none⟩ = _ := c6
    have c7' : (wc.drewN nq).cell? ⟨g6, 0, none⟩ = _ := c7
    have c8' : (wc.drewN nq).cell? ⟨g6, 1, none⟩ = _ := c8
    have hB2 : Below w.heap.size w (wc.drewN nq) := below_drewN hB _
    clear c5 c6 c7 c8 hB
    generalize wc.drewN nq = wd at c5' c6' c7' c8' hB2 ⊢
    by_cases h0 : cmpI ((an : Int) / (ad : Int)) ((bn : Int) / (bd : Int)) = 0
    · have hz : (cmpI ((an : Int) / (ad : Int)) ((bn : Int) / (bd : Int)) != 0) = false := by simp [h0]
      go_wp2
      go_quiet ((go_at_call 130; exact Calls.quiet_of_same (cmp_same _ _ _)))
      go_wp2
      go_ret
      exact ⟨ret_int (HH.out.2 h0), below_drewN hB2 _⟩
    · have hz : (cmpI ((an : Int) / (ad : Int)) ((bn : Int) / (bd : Int)) != 0) = true := by simp [h0]
      go_wp2
      go_ret
      exact ⟨ret_int (HH.out.1 h0), hB2⟩
end Go.Proofs.Ytemlfklipkpacaa

namespace Go.Proofs.Ytemlfklipkpacaa
open Go.RowKit
namespace Fl
/-- Numbers of a valid fraction that is not below 0, with a denominator of at most so much. -/
def amt (n d most : Int) : Bool := decide (0 ≤ n) && (decide (1 ≤ d) && (decide (d ≤ most) && decide (Nat.gcd n.natAbs d.natAbs = 1)))
/-- Numbers of a place of a field of a length. -/
def plc (L n d most : Int) : Bool := amt n d most && decide (mkRat n d.toNat ≤ (L : Rat))
theorem amt_iff {n d most : Int} : amt n d most = true ↔ 0 ≤ n ∧ 1 ≤ d ∧ d ≤ most ∧ Nat.gcd n.natAbs d.natAbs = 1 := by
  unfold amt; simp
theorem amt_rat {n d most : Int} (h : amt n d most = true) : (mkRat n d.toNat).num = n ∧ ((mkRat n d.toNat).den : Int) = d ∧ 0 ≤ mkRat n d.toNat ∧ 0 ≤ n ∧ 1 ≤ d ∧ d ≤ most := by
  obtain ⟨h1, h2, h3, h4⟩ := amt_iff.1 h
  have hd : d.toNat ≠ 0 := by omega
  have hg : Nat.gcd d.toNat n.natAbs = 1 := by rw [Nat.gcd_comm, show d.toNat = d.natAbs by omega]; exact h4
  have e1 : (mkRat n d.toNat).num = n := by rw [Rat.num_mkRat, if_neg hd, hg]; simp
  have e2 : (mkRat n d.toNat).den = d.toNat := by rw [Rat.den_mkRat, if_neg hd, hg]; simp
  refine ⟨e1, by rw [e2]; omega, ?_, h1, h2, h3⟩
  rw [← Rat.num_nonneg, e1]; exact h1
theorem plc_amt {L n d most : Int} (h : plc L n d most = true) : amt n d most = true ∧ mkRat n d.toNat ≤ (L : Rat) := by
  unfold plc at h; simpa using h
end Fl

theorem fr_of_amt {n d most : Int} (h : Fl.amt n d most = true) : (.agg #[.int .i64 n, .int .i64 d] : Value) = Fr (mkRat n d.toNat) := by
  obtain ⟨h1, h2, -⟩ := Fl.amt_rat h
  exact fr_eq h1.symm h2.symm

set_option maxRecDepth 100000 in
set_option maxHeartbeats 1000000 in
theorem isAmount_any (n d most : Int) (w : World) (hn : n ≤ 9223372036854775807) (hm : most ≤ 1000000) :
    Calls Try.prog 77 #[.agg #[.int .i64 n, .int .i64 d], .int .i64 most] w fun e w' => e = .returned (.bool (Fl.amt n d most)) ∧ Below w.heap.size w w' := by
  have hB : Below w.heap.size w (w.alloc (.cells #[.int .i64 n, .int .i64 d] 29)) := (Below.refl _ w).alloc (Nat.le_refl _) _
  have HB := Lib.hid hB
  clear hB
  by_cases h1 : 0 ≤ n
  · by_cases h2 : 0 < d
    · by_cases h3 : d ≤ most
      · obtain ⟨N, rfl⟩ := Int.eq_ofNat_of_zero_le h1
        obtain ⟨D, rfl⟩ := Int.eq_ofNat_of_zero_le (Int.le_of_lt h2)
        have hv : Fl.amt N D most = (((Nat.gcd N D : Nat) : Int) == 1) := by
          rw [Bool.eq_iff_iff, Fl.amt_iff, Int.natAbs_natCast, Int.natAbs_natCast, beq_iff_eq]
          omega
        have Hv := Lib.hid hv
        clear hv
        go_enter Try.func77, Try.ntmps77
        go_wp2_with fail
        refine (divisor_any N D _ (by omega) (by omega)).mono ?_
        rintro e w1 ⟨rfl, hbb⟩
        have hB := HB.out.trans (hbb.mono HB.out.size)
        clear hbb HB
        go_wp2
        go_ret
        refine ⟨ret_bool ?_, hB⟩
        rw [Hv.out]
      · have hv : Hid (Fl.amt n d most = false) := Lib.hid (by rw [Bool.eq_false_iff, Ne, Fl.amt_iff]; omega)
        go_enter Try.func77, Try.ntmps77
        go_wp2
        go_ret
        exact ⟨ret_bool hv.out.symm, HB.out⟩
    · have hv : Hid (Fl.amt n d most = false) := Lib.hid (by rw [Bool.eq_false_iff, Ne, Fl.amt_iff]; omega)
      go_enter Try.func77, Try.ntmps77
      go_wp2
      go_ret
      exact ⟨ret_bool hv.out.symm, HB.out⟩
  · have hv : Hid (Fl.amt n d most = false) := Lib.hid (by rw [Bool.eq_false_iff, Ne, Fl.amt_iff]; omega)
    go_enter Try.func77, Try.ntmps77
    go_wp2
    go_ret
    exact ⟨ret_bool hv.out.symm, HB.out⟩

theorem cmp_le (a b : Rat) : decide (Fl.cmpR a b ≤ 0) = decide (a ≤ b) := by
  rw [decide_eq_decide]
  unfold Fl.cmpR
  split
  · rename_i h; constructor <;> intro _
    · grind
    · omega
  · split
    · rename_i h1 h2; constructor <;> intro h
      · omega
      · grind
    · rename_i h1 h2; constructor <;> intro h
      · grind
      · omega

set_option maxRecDepth 100000 in
set_option maxHeartbeats 2000000 in
theorem isPlace_any (l : List (Int × Int)) (ao : Option Addr) (m cap : Nat) (n d most : Int) (w : World) (hp : Pts w ao l) (hln : m = l.length) (hok : Fl.Ok l) (h6 : l.length ≤ 6) (hn : n ≤ 9223372036854775807) (hm : most ≤ 1000000) :
    Calls Try.prog 72 #[.slice ao m cap, .agg #[.int .i64 n, .int .i64 d], .int .i64 most] w fun e w' => e = .returned (.bool (Fl.plc (Fl.len l) n d most)) ∧ Below w.heap.size w w' := by
  have Hn := Lib.hid hln
  clear hln
  have hB : Below w.heap.size w (w.alloc (.cells #[.int .i64 n, .int .i64 d] 29)) := (Below.refl _ w).alloc (Nat.le_refl _) _
  have r3 := heap_alloc_new w (.cells #[.int .i64 n, .int .i64 d] 29)
  replace hp := hp.below hB
  have HA := Lib.hid (And.intro hB r3)
  clear hB r3
  cases hav : Fl.amt n d most with
  | false =>
    have hv : Hid (Fl.plc (Fl.len l) n d most = false) := Lib.hid (by unfold Fl.plc; rw [hav]; rfl)
    have Hav := Lib.hid hav
    clear hav
    go_enter Try.func72, Try.ntmps72
    go_wp2_with fail
    obtain ⟨hB, r3⟩ := HA.out
    generalize w.alloc (.cells #[.int .i64 n, .int .i64 d] 29) = wx at hB r3 hp ⊢
    obtain ⟨⟨c0, c1⟩, -, -⟩ := row_fr r3
    clear HA r3
    first | (go_region_with (go_at_call 77; refine (isAmount_any n d most _ hn hm).mono ?_; rintro e w1 ⟨rfl, hbb⟩; rw [Hav.out])) | fail
    all_goals
      go_wp2
      go_ret
      refine ⟨ret_bool hv.out.symm, ?_⟩
      exact (below_drewN hB 1).trans (hbb.mono hB.size)
  | true =>
    obtain ⟨q1, q2, q3, q4, q5, q6⟩ := Fl.amt_rat hav
    have hfr := fr_of_amt hav
    have hlb := Fl.len_bound hok
    have hv : Fl.plc (Fl.len l) n d most = decide (mkRat n d.toNat ≤ (Fl.len l : Rat)) := by unfold Fl.plc; rw [hav]; rfl
    obtain ⟨q, hq⟩ : ∃ q, q = mkRat n d.toNat := ⟨_, rfl⟩
    rw [← hq] at q1 q2 q3 hfr hv
    have hv2 : Hid (decide (Fl.cmpR q (Fl.len l : Rat) ≤ 0) = Fl.plc (Fl.len l) n d most) := Lib.hid (by rw [hv, cmp_le])
    have hlen : Hid (0 ≤ (Fl.len l : Rat).num ∧ (Fl.len l : Rat).num ≤ 9223372036854775807 ∧ (q.den : Int) * (((Fl.len l : Rat).den : Nat) : Int) ≤ 4000000000000000000) :=
      Lib.hid ⟨by show 0 ≤ Fl.len l; omega, by show Fl.len l ≤ _; omega, by rw [Rat.den_intCast]; omega⟩
    have hqn : 0 ≤ q.num ∧ q.num ≤ 9223372036854775807 := by omega
    have Hav := Lib.hid hav
    have Hfr := Lib.hid hfr
    clear hav hfr hv hq q1 q2
    go_enter Try.func72, Try.ntmps72
    go_wp2_with fail
    obtain ⟨hB, r3⟩ := HA.out
    generalize w.alloc (.cells #[.int .i64 n, .int .i64 d] 29) = wx at hB r3 hp ⊢
    clear HA
    obtain ⟨⟨c0, c1⟩, -, -⟩ := row_fr r3
    replace hB := below_drewN hB 1
    replace hp : Pts (wx.drewN 1) ao l := ⟨hp.cells⟩
    replace r3 : (wx.drewN 1).heap[w.heap.size]? = _ := r3
    first | (go_region_with (first
      | (go_at_call 77; refine (isAmount_any n d most _ hn hm).mono ?_; rintro e w1 ⟨rfl, hbb⟩; rw [Hav.out]; replace hp := hp.below hbb; replace r3 := heap_keep hbb r3; replace hB := hB.trans (hbb.mono hB.size); obtain ⟨⟨c2, c3⟩, -, -⟩ := row_fr r3; clear hbb)
      | (go_at_call 65; refine (length_any l _ _ _ _ hp Hn.out hok h6).mono ?_; rintro e w2 ⟨rfl, hbb⟩; replace r3 := heap_keep hbb r3; replace hB := hB.trans (hbb.mono hB.size); obtain ⟨⟨c4, c5⟩, -, -⟩ := row_fr r3; clear hbb)
      | (go_at_call 79; refine (whole_any _ _).mono ?_; rintro e w3 ⟨rfl, hbb⟩; replace r3 := heap_keep hbb r3; replace hB := hB.trans (hbb.mono hB.size); obtain ⟨⟨c6, c7⟩, -, -⟩ := row_fr r3; clear hbb)
      | (go_at_call 78; rw [Hfr.out]; refine (compare_any q _ _ hqn.1 hlen.out.1 hqn.2 hlen.out.2.1 hlen.out.2.2).mono ?_; rintro e w4 ⟨rfl, hbb⟩; replace hB := hB.trans (hbb.mono hB.size); clear hbb))) | fail
    all_goals
      go_wp2
      go_ret
      exact ⟨ret_bool (by rw [← hv2.out]), hB⟩
end Go.Proofs.Ytemlfklipkpacaa

namespace Go.Proofs.Ytemlfklipkpacaa
open Go.RowKit

theorem tmod_small (x y : Int) (h : 0 < y) : -y < x.tmod y ∧ x.tmod y < y := by
  have h1 := Int.tmod_lt_of_pos x h
  have h2 := Int.tmod_lt_of_pos (-x) h
  rw [Int.neg_tmod] at h2
  omega

set_option maxRecDepth 100000 in
set_option maxHeartbeats 1000000 in
/-- The divisor where the first number is the least one. -/
theorem rgcd_min (b0 : Int) (w : World) (h3 : 1 ≤ b0) (h4 : b0 ≤ 1000000) :
    Calls Try.prog 89 #[.int .i64 (-9223372036854775808), .int .i64 b0] w fun e w' => e = .returned (.int .i64 b0) ∧ w = w' := by
  obtain ⟨a0, ha0⟩ : ∃ a : Int, a = -9223372036854775808 := ⟨_, rfl⟩
  rw [← ha0]
  have na : IntKind.i64.wrap (-a0) = a0 := by rw [ha0]; decide +kernel
  have a1 : a0 < 0 := by omega
  have a2 : -9223372036854775808 ≤ a0 := by omega
  clear ha0
  have cb : -b0 ≤ b0 := by omega
  have nb : IntKind.i64.wrap (-b0) = -b0 := IntWalk.i64_in _ (by omega)
  go_enter Try.func89, Try.ntmps89
  go_wp2
  clear na nb cb
  go_loop [5, 6] (fun a b => ∃ x y : Int, a = .int .i64 x ∧ b = .int .i64 y ∧ Hid ((x = a0 ∧ y = b0) ∨ (x = b0 ∧ y ≤ 0)) ∧ -9223372036854775808 ≤ x ∧ x ≤ 9223372036854775807 ∧ -9223372036854775808 ≤ y ∧ y ≤ 9223372036854775807) (fun _ b => (intOf b).toNat)
  case atStart => exact ⟨a0, b0, rfl, rfl, Lib.hid (.inl ⟨rfl, rfl⟩), by omega, by omega, by omega, by omega⟩
  case round =>
    obtain ⟨x, y, rfl, rfl, hxy, hx1, hx2, hy1, hy2⟩ := hrel
    by_cases h0 : 0 < y
    · have ht := tmod_small x y h0
      have x1 : IntKind.i64.wrap (x.tmod y) = x.tmod y := IntWalk.i64_in _ (by omega)
      have hst : Hid (y = b0 ∧ x.tmod y ≤ 0) := Lib.hid (by
        rcases hxy.out with ⟨e1, e2⟩ | ⟨_, h⟩
        · refine ⟨e2, ?_⟩
          have hnn := Int.tmod_nonneg (a := -x) y (by omega)
          rw [Int.neg_tmod] at hnn
          omega
        · omega)
      have gz : ¬ y = 0 := by omega
      have gz2 : (y == 0) = false := by simp; omega
      go_wp2
      go_round
      case rel => exact ⟨y, x.tmod y, rfl, rfl, Lib.hid (.inr hst.out), by omega, by omega, by omega, by omega⟩
      case measure => simp [intOf]; omega
    · go_wp2
      go_ret
      refine ⟨ret_int ?_, rfl⟩
      rcases hxy.out with ⟨e1, e2⟩ | ⟨e, _⟩
      · omega
      · exact e

/-- What IsValid answers. -/
def valB (n d most : Int) : Bool := (decide (1 ≤ d) && decide (d ≤ most)) && (if n = -9223372036854775808 then (d == 1) else (((Nat.gcd n.natAbs d.natAbs : Nat) : Int) == 1))
theorem valB_amt {n d most : Int} (h : 0 ≤ n) : valB n d most = Fl.amt n d most := by
  unfold valB
  rw [if_neg (by omega), Bool.eq_iff_iff, Fl.amt_iff]
  simp only [Bool.and_eq_true, decide_eq_true_eq, beq_iff_eq]
  omega
theorem valB_d {n d most : Int} (h : valB n d most = true) : 1 ≤ d ∧ d ≤ most := by
  unfold valB at h
  simp only [Bool.and_eq_true, decide_eq_true_eq] at h
  exact h.1

set_option maxRecDepth 100000 in
set_option maxHeartbeats 1000000 in
theorem risValid_any (n d most : Int) (w : World) (hn0 : -9223372036854775808 ≤ n) (hn : n ≤ 9223372036854775807) (hm : most ≤ 1000000) :
    Calls Try.prog 81 #[.agg #[.int .i64 n, .int .i64 d], .int .i64 most] w fun e w' => e = .returned (.bool (valB n d most)) ∧ Below w.heap.size w w' := by
  have hB : Below w.heap.size w (w.alloc (.cells #[.int .i64 n, .int .i64 d] 29)) := (Below.refl _ w).alloc (Nat.le_refl _) _
  have HB := Lib.hid hB
  clear hB
  obtain ⟨R, hR⟩ : ∃ r, valB n d most = r := ⟨_, rfl⟩
  rw [hR]
  unfold valB at hR
  obtain ⟨bv, hbv⟩ : ∃ v, (decide (1 ≤ d) && decide (d ≤ most)) = v := ⟨_, rfl⟩
  rw [hbv] at hR
  have Hbv := Lib.hid hbv
  clear hbv
  cases bv with
  | false =>
    have hv : Hid (R = false) := Lib.hid (by rw [← hR]; rfl)
    clear hR
    go_enter Try.func81, Try.ntmps81
    go_wp2_with fail
    refine (rwithin_any _ _ _ _).mono ?_
    rintro e w' ⟨rfl, rfl⟩
    rw [Hbv.out]
    go_wp2
    go_ret
    exact ⟨ret_bool hv.out.symm, HB.out⟩
  | true =>
    have hd : 1 ≤ d ∧ d ≤ most := by have := Hbv.out; simpa using this
    rw [Bool.true_and] at hR
    by_cases h0 : n = -9223372036854775808
    · rw [if_pos h0] at hR
      subst h0
      have HR := Lib.hid hR
      clear hR
      go_enter Try.func81, Try.ntmps81
      go_wp2_with fail
      refine (rwithin_any _ _ _ _).mono ?_
      rintro e w' ⟨rfl, rfl⟩
      rw [Hbv.out]
      go_wp2_with fail
      refine (rgcd_min d _ (by omega) (by omega)).mono ?_
      rintro e w' ⟨rfl, rfl⟩
      obtain ⟨D, hD⟩ : ∃ x, x = (d == 1) := ⟨_, rfl⟩
      go_wp2
      go_ret
      exact ⟨ret_bool (by rw [← HR.out]), HB.out⟩
    · rw [if_neg h0] at hR
      have HR := Lib.hid hR
      clear hR
      go_enter Try.func81, Try.ntmps81
      go_wp2_with fail
      refine (rwithin_any _ _ _ _).mono ?_
      rintro e w' ⟨rfl, rfl⟩
      rw [Hbv.out]
      go_wp2_with fail
      refine (rgcd_any n d _ (by omega) (by omega) (by omega) (by omega)).mono ?_
      rintro e w' ⟨rfl, rfl⟩
      obtain ⟨G, hG⟩ : ∃ g, ((Nat.gcd n.natAbs d.natAbs : Nat) : Int) = g := ⟨_, rfl⟩
      have hR := HR.out
      rw [hG] at hR ⊢
      replace hR := Lib.hid hR
      clear hG
      go_wp2
      go_ret
      exact ⟨ret_bool (by rw [← hR.out]), HB.out⟩

theorem quo_le {n d L : Int} (hn : 0 ≤ n) (hd : 1 ≤ d) (h : n / d ≤ L) (hL : L ≤ 1000) (hd2 : d ≤ 1000000) (hL0 : 0 ≤ L) : n ≤ 2000000000 := by
  have h1 := Int.mul_ediv_add_emod n d
  have h2 := Int.emod_lt_of_pos n (show 0 < d by omega)
  have h3 : d * (n / d) ≤ 1000000 * 1000 := Int.mul_le_mul hd2 (by omega) (Int.ediv_nonneg hn (by omega)) (by omega)
  omega
theorem quo_gt {n d L : Int} (hd : 1 ≤ d) (h : ¬ n / d ≤ L) : ¬ mkRat n d.toNat ≤ (L : Rat) := by
  intro h2
  have h4 : L + 1 ≤ n / d := by omega
  have h3 : (L + 1) * d ≤ n := Int.mul_le_of_le_ediv (by omega) h4
  have e : ((d.toNat : Nat) : Rat) = (d : Rat) := by rw [← Rat.intCast_natCast, Int.toNat_of_nonneg (by omega)]
  rw [Rat.mkRat_eq_div, e] at h2
  have hp : (0 : Rat) < (d : Rat) := by exact_mod_cast (show (0 : Int) < d by omega)
  have h5 : (n : Rat) / (d : Rat) * (d : Rat) ≤ (L : Rat) * (d : Rat) := Rat.mul_le_mul_of_nonneg_right h2 (by grind)
  rw [Rat.div_mul_cancel (by grind)] at h5
  have h6 : (n : Rat) ≤ ((L * d : Int) : Rat) := by rw [Rat.intCast_mul]; exact h5
  have h7 := Rat.intCast_le_intCast.1 h6
  rw [Int.add_mul] at h3
  omega

set_option maxRecDepth 100000 in
set_option maxHeartbeats 2000000 in
theorem risPlace_any (L : Nat) (ao : Option Addr) (cap : Nat) (n d : Int) (w : World) (hL : L ≤ 1000) (hd1 : 1 ≤ d) (hd2 : d ≤ 1000000) (hn : n ≤ 9223372036854775807) :
    Calls Try.prog 135 #[.slice ao L cap, .agg #[.int .i64 n, .int .i64 d]] w fun e w' => e = .returned (.bool (decide (0 ≤ n) && decide (mkRat n d.toNat ≤ ((L : Int) : Rat)))) ∧ Below w.heap.size w w' := by
  have hB : Below w.heap.size w (w.alloc (.cells #[.int .i64 n, .int .i64 d] 29)) := (Below.refl _ w).alloc (Nat.le_refl _) _
  have r3 := heap_alloc_new w (.cells #[.int .i64 n, .int .i64 d] 29)
  have HA := Lib.hid (And.intro hB r3)
  clear hB r3
  obtain ⟨R, hR⟩ : ∃ r, (decide (0 ≤ n) && decide (mkRat n d.toNat ≤ ((L : Int) : Rat))) = r := ⟨_, rfl⟩
  rw [hR]
  have HR := Lib.hid hR
  clear hR
  by_cases h0 : 0 ≤ n
  · obtain ⟨N, rfl⟩ := Int.eq_ofNat_of_zero_le h0
    obtain ⟨D, rfl⟩ := Int.eq_ofNat_of_zero_le (show 0 ≤ d by omega)
    have hb := IntWalk.tdiv_le (N : Int) D (by omega) hd1
    have x1 : IntKind.i64.wrap ((N : Int) / (D : Int)) = (N : Int) / (D : Int) := IntWalk.i64_in _ (by omega)
    have t1 : (N : Int).tdiv (D : Int) = (N : Int) / (D : Int) := Int.tdiv_eq_ediv_of_nonneg (by omega)
    have gz : ¬ D = 0 := by omega
    have gz2 : ((D : Int) == 0) = false := by simp; omega
    have g0 : decide ((0 : Int) ≤ (N : Int)) = true := by simp
    by_cases h1 : (N : Int) / (D : Int) ≤ (L : Int)
    · have hN := quo_le (n := N) (d := D) (by omega) hd1 h1 (by omega) hd2 (by omega)
      have hS : SumOk (L : Int) 1 (N : Int) D := ⟨by omega, by omega, by
          have := Int.mul_nonneg (show (0:Int) ≤ (L:Int) by omega) (show (0:Int) ≤ (D:Int) by omega); omega, by
          have := Int.mul_le_mul (show (L:Int) ≤ 1000 by omega) hd2 (show (0:Int) ≤ (D:Int) by omega) (by omega); omega, by omega, by omega, by omega⟩
      have hv : Hid ((!decide (mkRat (L : Int) 1 < mkRat (N : Int) D)) = R) := Lib.hid (by
        rw [← HR.out, Int.toNat_natCast]
        have e : mkRat (L : Int) 1 = ((L : Int) : Rat) := Rat.mkRat_self ((L : Int) : Rat)
        rw [e, Bool.eq_iff_iff]
        simp only [Bool.not_eq_true', decide_eq_false_iff_not, Bool.and_eq_true, decide_eq_true_eq]
        constructor
        · intro h; exact ⟨by omega, by grind⟩
        · intro h; grind)
      have g1 : decide ((N : Int) / (D : Int) ≤ (L : Int)) = true := by simpa using h1
      go_enter Try.func135, Try.ntmps135
      go_wp2_with fail
      obtain ⟨hB, r3⟩ := HA.out
      generalize w.alloc (.cells #[.int .i64 (N : Int), .int .i64 (D : Int)] 29) = wx at hB r3 ⊢
      clear HA
      obtain ⟨⟨c0, c1⟩, -, -⟩ := row_fr r3
      replace hB := below_drewN hB 1
      replace r3 : (wx.drewN 1).heap[w.heap.size]? = _ := r3
      go_region_held3 (fun w' => w'.cell? ⟨w.heap.size, 0, none⟩ = some (.int .i64 (N : Int)) ∧ w'.cell? ⟨w.heap.size, 1, none⟩ = some (.int .i64 (D : Int)))
        (first | exact ⟨c0, c1⟩ | exact ka | exact kb)
        (first
          | (go_at_call 40; refine (rwhole_any (L : Int) _).mono ?_; rintro e w1 ⟨rfl, hbb⟩; have ka := And.intro (keep_cell hbb c0) (keep_cell hbb c1); replace hB := hB.trans (hbb.mono hB.size); clear hbb)
          | (go_at_call 36; refine (rless_any (L : Int) 1 (N : Int) D _ hS).mono ?_; rintro e w2 ⟨rfl, hbb⟩; have kb := And.intro (keep_cell hbb ka.1) (keep_cell hbb ka.2); replace hB := hB.trans (hbb.mono hB.size); clear hbb))
      all_goals
        go_wp2
        go_ret
        exact ⟨ret_bool hv.out, hB⟩
    · have g1 : decide ((N : Int) / (D : Int) ≤ (L : Int)) = false := by simpa using h1
      have hv : Hid (R = false) := Lib.hid (by
        rw [← HR.out, Bool.and_eq_false_iff]
        exact .inr (decide_eq_false (quo_gt hd1 h1)))
      go_enter Try.func135, Try.ntmps135
      go_wp2_with fail
      go_quiet (fail)
      all_goals
        go_wp2
        go_ret
        exact ⟨ret_bool hv.out.symm, below_drewN HA.out.1 _⟩
  · have hv : Hid (R = false) := Lib.hid (by rw [← HR.out, decide_eq_false h0]; rfl)
    have g0 : decide (0 ≤ n) = false := by simpa using h0
    go_enter Try.func135, Try.ntmps135
    go_wp2_with fail
    go_quiet (fail)
    all_goals
      go_wp2
      go_ret
      exact ⟨ret_bool hv.out.symm, below_drewN HA.out.1 _⟩
end Go.Proofs.Ytemlfklipkpacaa

namespace Go.Proofs.Ytemlfklipkpacaa
open Go.RowKit

def SumQ (a b : Rat) : Prop := SumOk a.num a.den b.num b.den
theorem radd_q (a b : Rat) (w : World) (h : SumQ a b) :
    Calls Try.prog 39 #[Fr a, Fr b] w fun e w' => e = .returned (Fr (a + b)) ∧ Below w.heap.size w w' := by
  have := radd_any a.num a.den b.num b.den w h
  rw [Rat.mkRat_self, Rat.mkRat_self] at this
  exact this
theorem rsub_q (a b : Rat) (w : World) (h : SumQ a b) :
    Calls Try.prog 88 #[Fr a, Fr b] w fun e w' => e = .returned (Fr (a - b)) ∧ Below w.heap.size w w' := by
  have := rsub_any a.num a.den b.num b.den w h
  rw [Rat.mkRat_self, Rat.mkRat_self] at this
  exact this
theorem rless_q (a b : Rat) (w : World) (h : SumQ a b) :
    Calls Try.prog 36 #[Fr a, Fr b] w fun e w' => e = .returned (.bool (decide (a < b))) ∧ Below w.heap.size w w' := by
  have := rless_any a.num a.den b.num b.den w h
  rw [Rat.mkRat_self, Rat.mkRat_self] at this
  exact this
/-- Sums of fractions that are not below 0, with bounds. -/
theorem sumQ_of {a b : Rat} (ha : 0 ≤ a) (hb : 0 ≤ b) (A B : Nat) (ha2 : a ≤ (A : Rat)) (hb2 : b ≤ (B : Rat)) (D : Nat) (hd : a.den * b.den ≤ D) (h1 : A * D ≤ 1000000000000000000) (h2 : B * D ≤ 1000000000000000000) (h3 : D ≤ 4000000000000000000) : SumQ a b := by
  have n1 := Fl.num_nonneg ha
  have n2 := Fl.num_nonneg hb
  have m1 := Fl.num_le ha2
  have m2 := Fl.num_le hb2
  have da := a.den_pos
  have db := b.den_pos
  have hdI : (a.den : Int) * (b.den : Int) ≤ (D : Int) := by rw [← Int.natCast_mul]; omega
  have x1 : a.num * (b.den : Int) ≤ (A : Int) * (a.den : Int) * (b.den : Int) := Int.mul_le_mul_of_nonneg_right m1 (by omega)
  have x2 : b.num * (a.den : Int) ≤ (B : Int) * (b.den : Int) * (a.den : Int) := Int.mul_le_mul_of_nonneg_right m2 (by omega)
  have y1 : (A : Int) * ((a.den : Int) * (b.den : Int)) ≤ (A : Int) * (D : Int) := Int.mul_le_mul_of_nonneg_left hdI (by omega)
  have y2 : (B : Int) * ((a.den : Int) * (b.den : Int)) ≤ (B : Int) * (D : Int) := Int.mul_le_mul_of_nonneg_left hdI (by omega)
  rw [Int.mul_assoc] at x1 x2
  rw [Int.mul_comm (b.den : Int) (a.den : Int)] at x2
  have z1 : (A : Int) * (D : Int) ≤ 1000000000000000000 := by rw [← Int.natCast_mul]; omega
  have z2 : (B : Int) * (D : Int) ≤ 1000000000000000000 := by rw [← Int.natCast_mul]; omega
  have p1 : 0 ≤ a.num * (b.den : Int) := Int.mul_nonneg n1 (by omega)
  have p2 : 0 ≤ b.num * (a.den : Int) := Int.mul_nonneg n2 (by omega)
  exact ⟨da, db, by omega, by omega, by omega, by omega, by omega⟩

theorem floor_quo (x : Rat) : x.floor = x.num / (x.den : Int) := by
  rw [Rat.floor]
  split
  · rename_i h; rw [h]; simp
  · rfl
theorem frac_eq (x : Rat) : mkRat (x.num % (x.den : Int)) x.den = x - (x.floor : Rat) := by
  have h := Int.mul_ediv_add_emod x.num (x.den : Int)
  rw [floor_quo]
  have hd : (x.den : Rat) ≠ 0 := by
    intro h
    have := x.den_pos
    have h2 := Rat.natCast_eq_zero_iff.1 h
    omega
  have hx : x = (x.num : Rat) / (x.den : Rat) := by rw [← Rat.mkRat_eq_div, Rat.mkRat_self]
  have e : x.num % (x.den : Int) = x.num - (x.den : Int) * (x.num / (x.den : Int)) := by omega
  rw [Rat.mkRat_eq_div, e, Rat.intCast_sub, Rat.intCast_mul, Rat.intCast_natCast]
  obtain ⟨q, hq⟩ : ∃ q : Rat, q = ((x.num / (x.den : Int) : Int) : Rat) := ⟨_, rfl⟩
  obtain ⟨d, hd2⟩ : ∃ d : Rat, d = (x.den : Rat) := ⟨_, rfl⟩
  obtain ⟨n, hn⟩ : ∃ n : Rat, n = (x.num : Rat) := ⟨_, rfl⟩
  rw [← hq]
  conv => rhs; rw [hx]
  rw [← hd2, ← hn]
  rw [← hd2] at hd
  rw [Rat.div_def, Rat.div_def]
  have hi := Rat.mul_inv_cancel _ hd
  grind

/-- What is asked of the values of units. -/
structure UnitsOk (u : List Int) : Prop where
  v : ∀ k, 0 ≤ u.getD k 0 ∧ u.getD k 0 ≤ 20
  s : ∀ k, 0 ≤ Fl.sumI (u.take k) ∧ Fl.sumI (u.take k) ≤ 20 * k
  l : u.length ≤ 140
theorem unitsOk_of {l : List (Int × Int)} (hok : Fl.Ok l) (h6 : l.length ≤ 6) : UnitsOk (Fl.units l) := by
  have h := units_take_len hok h6 l.length
  rw [List.take_length] at h
  exact ⟨fun k => Fl.units_at hok k, fun k => Fl.units_pre hok k, by omega⟩
/-- What is asked of a place of units. -/
structure PlaceU (L : Nat) (x : Rat) : Prop where
  x0 : 0 ≤ x
  x1 : x ≤ ((L : Int) : Rat)
  d : x.den ≤ 1000000
theorem before_facts {u : List Int} {x : Rat} (hu : UnitsOk u) (hx : PlaceU u.length x) {k : Nat} (hk : (k : Int) = x.num / (x.den : Int)) :
    k ≤ u.length ∧ x.num ≤ 140000000 ∧ 0 ≤ x.num ∧ (k = u.length → Fl.before u x = ((Fl.sumI (u.take k) : Int) : Rat)) ∧
    Fl.before u x = ((Fl.sumI (u.take k) : Int) : Rat) + ((u.getD k 0 : Int) : Rat) * mkRat (x.num % (x.den : Int)) x.den ∧
    MulOk (u.getD k 0) (mkRat (x.num % (x.den : Int)) x.den) ∧ SumQ ((Fl.sumI (u.take k) : Int) : Rat) (((u.getD k 0 : Int) : Rat) * mkRat (x.num % (x.den : Int)) x.den) := by
  have hf : x.floor = (k : Int) := by rw [floor_quo, hk]
  have n0 := Fl.num_nonneg hx.x0
  have hb : Fl.before u x = ((Fl.sumI (u.take k) : Int) : Rat) + ((u.getD k 0 : Int) : Rat) * mkRat (x.num % (x.den : Int)) x.den := by
    rw [frac_eq]
    unfold Fl.before
    rw [hf, Int.toNat_natCast]
  have f1 := Rat.floor_le x
  have hkl : k ≤ u.length := by
    rw [hf] at f1
    have := Rat.intCast_le_intCast.1 (Rat.le_trans f1 hx.x1)
    omega
  have hn : x.num ≤ 140000000 := by
    have h2 : x ≤ ((u.length : Nat) : Rat) := hx.x1
    have := Fl.num_le h2
    have h3 : (u.length : Int) * (x.den : Int) ≤ 140 * 1000000 := Int.mul_le_mul (by have := hu.l; omega) (by have := hx.d; omega) (by omega) (by omega)
    omega
  have dp := x.den_pos
  have r0 := Int.emod_nonneg x.num (show (x.den : Int) ≠ 0 by omega)
  have r1 := Int.emod_lt_of_pos x.num (show 0 < (x.den : Int) by omega)
  have m0 := mk_num_le (n := x.num % (x.den : Int)) (d := x.den) r0
  have m1 := mk_den_le (n := x.num % (x.den : Int)) dp
  have hvk := hu.v k
  have hsk := hu.s k
  have hd := hx.d
  have hl := hu.l
  have f2 : x - 1 < (x.floor : Rat) := Rat.lt_floor
  have fr0 : 0 ≤ mkRat (x.num % (x.den : Int)) x.den := by rw [← Rat.num_nonneg]; exact m0.1
  have fr1 : mkRat (x.num % (x.den : Int)) x.den ≤ 1 := by rw [frac_eq]; grind
  refine ⟨hkl, hn, n0, fun h => ?_, hb, ⟨hvk.1, by omega, m0.1, by omega, by omega⟩, ?_⟩
  · rw [hb]
    have : u.getD k 0 = 0 := by rw [List.getD_eq_getElem?_getD, List.getElem?_eq_none (by omega)]; rfl
    rw [this]
    have e : ((0 : Int) : Rat) = 0 := rfl
    rw [e, Rat.zero_mul, Rat.add_zero]
  · obtain ⟨f, hf⟩ : ∃ f, f = mkRat (x.num % (x.den : Int)) x.den := ⟨_, rfl⟩
    rw [← hf] at m1 fr0 fr1 ⊢
    have v0 : (0 : Rat) ≤ ((u.getD k 0 : Int) : Rat) := by exact_mod_cast hvk.1
    have v1 : ((u.getD k 0 : Int) : Rat) ≤ 20 := by exact_mod_cast hvk.2
    have s0 : (0 : Rat) ≤ ((Fl.sumI (u.take k) : Int) : Rat) := by exact_mod_cast hsk.1
    have s1 : ((Fl.sumI (u.take k) : Int) : Rat) ≤ ((2800 : Nat) : Rat) := by
      have : ((Fl.sumI (u.take k) : Int) : Rat) ≤ ((2800 : Int) : Rat) := Rat.intCast_le_intCast.2 (by omega)
      exact this
    have q1 : ((u.getD k 0 : Int) : Rat) * f ≤ ((20 : Nat) : Rat) := by
      have h := Rat.mul_le_mul_of_nonneg_left fr1 v0
      have e : ((20 : Nat) : Rat) = 20 := rfl
      grind
    have qd : (((u.getD k 0 : Int) : Rat) * f).den ≤ f.den := by rw [Rat.mul_comm]; exact Fl.den_mul_int_le _ _
    exact sumQ_of s0 (Rat.mul_nonneg v0 fr0) 2800 20 s1 q1 1000000 (by rw [Rat.den_intCast, Nat.one_mul]; omega) (by omega) (by omega) (by omega)

set_option maxRecDepth 100000 in
set_option maxHeartbeats 4000000 in
theorem rbefore_any (u : List Int) (x : Rat) (ao : Option Addr) (cap : Nat) (w : World) (hI : Ints w ao u) (hu : UnitsOk u) (hx : PlaceU u.length x) :
    Calls Try.prog 103 #[.slice ao u.length cap, Fr x] w fun e w' => e = .returned (Fr (Fl.before u x)) ∧ Below w.heap.size w w' := by
  have dp := x.den_pos
  obtain ⟨k, hk⟩ : ∃ k : Nat, (k : Int) = x.num / (x.den : Int) := ⟨(x.num / (x.den : Int)).toNat, by
    have := Int.ediv_nonneg (Fl.num_nonneg hx.x0) (show (0 : Int) ≤ (x.den : Int) by omega); omega⟩
  obtain ⟨hkl, hn1, hn0, hend, hbf, hmul, hsum⟩ := before_facts hu hx hk
  obtain ⟨R, hR⟩ : ∃ r, r = Fl.before u x := ⟨_, rfl⟩
  rw [← hR] at hend hbf ⊢
  clear hR
  have hmod : Hid (∀ z, z = x.num % (x.den : Int) → MulOk (u.getD k 0) (mkRat z x.den) ∧ SumQ ((Fl.sumI (u.take k) : Int) : Rat) (((u.getD k 0 : Int) : Rat) * mkRat z x.den) ∧ R = ((Fl.sumI (u.take k) : Int) : Rat) + ((u.getD k 0 : Int) : Rat) * mkRat z x.den) := Lib.hid (by rintro z rfl; exact ⟨hmul, hsum, hbf⟩)
  have Hend := Lib.hid hend
  clear hmul hsum hbf hend
  obtain ⟨N, hN⟩ : ∃ n : Nat, (n : Int) = x.num := ⟨x.num.toNat, by omega⟩
  obtain ⟨D, hD⟩ : ∃ d, d = x.den := ⟨_, rfl⟩
  have hd := hx.d
  have hul := hu.l
  show Calls Try.prog 103 #[.slice ao u.length cap, .agg #[.int .i64 x.num, .int .i64 x.den]] w _
  rw [← hN] at hk hn1 hn0 hmod ⊢
  rw [← hD] at hk hmod hd dp ⊢
  have HU := Lib.hid hu
  clear hN hD hx hu
  have hD1 : (1 : Int) ≤ (D : Int) := by omega
  have gz : ¬ D = 0 := by omega
  have gz2 : ((D : Int) == 0) = false := by simp; omega
  have hb := IntWalk.tdiv_le (N : Int) D (by omega) hD1
  have x1 : IntKind.i64.wrap ((N : Int) / (D : Int)) = (k : Int) := by rw [← hk]; exact IntWalk.i64_in _ (by omega)
  have hq : (N : Int) / (D : Int) = (k : Int) := hk.symm
  have t1 : (N : Int).tdiv (D : Int) = (k : Int) := (Int.tdiv_eq_ediv_of_nonneg (by omega)).trans hq
  clear hb hk
  obtain ⟨z, hz⟩ : ∃ z : Nat, (z : Int) = (N : Int) % (D : Int) := ⟨N % D, by simp⟩
  have hzD : z < D := by have := Int.emod_lt_of_pos (N : Int) (show (0 : Int) < (D : Int) by omega); omega
  have hm2 := hmod.out (z : Int) hz
  have HM := Lib.hid hm2
  have Hz := Lib.hid hz
  clear hm2 hmod hz
  have hB := below_alloc2 w (.cells #[.int .i64 N, .int .i64 D] 29) (.cells #[.int .i64 0, .int .i64 0] 29)
  have r3 := heap_alloc2_old w (.cells #[.int .i64 N, .int .i64 D] 29) (.cells #[.int .i64 0, .int .i64 0] 29)
  have r4 := heap_alloc2_new w (.cells #[.int .i64 N, .int .i64 D] 29) (.cells #[.int .i64 0, .int .i64 0] 29)
  have HA := Lib.hid (And.intro hB (And.intro r3 r4))
  clear hB r3 r4
  go_enter Try.func103, Try.ntmps103
  go_wp2
  clear x1 hq t1
  obtain ⟨hB, r3, r4⟩ := HA.out
  generalize ((w.alloc (.cells #[.int .i64 N, .int .i64 D] 29)).alloc (.cells #[.int .i64 0, .int .i64 0] 29)) = wx at hB r3 r4 ⊢
  clear HA
  go_loop [6, 7] (fun s i => ∃ j : Nat, j ≤ k ∧ i = .int .i64 j ∧ s = .int .i64 (Fl.sumI (u.take j))) (fun _ i => k - (intOf i).toNat)
  case atStart => exact ⟨0, Nat.zero_le _, rfl, rfl⟩
  case round =>
    obtain ⟨j, hj, rfl, rfl⟩ := hrel
    have h1 := HU.out.s j
    have h2 := HU.out.v j
    by_cases hlt : j < k
    · have hju : j < u.length := by omega
      obtain ⟨b, off, rfl, hbs, hc⟩ := hI.at hju
      replace hc := keep_cell hB hc
      have hst := Lib.hid (Fl.sumI_take hju)
      obtain ⟨y, hy⟩ : ∃ x, x = u.getD j 0 := ⟨_, rfl⟩
      obtain ⟨s, hs⟩ : ∃ x, x = Fl.sumI (u.take j) := ⟨_, rfl⟩
      rw [← hy] at hc h2 hst
      rw [← hs] at h1 hst ⊢
      have i1 : (j : Int) < (u.length : Int) := by omega
      have i2 : (j : Int) < (k : Int) := by omega
      clear hy hs hI
      go_wp2
      go_round
      case rel => exact ⟨j + 1, by omega, by go_num, by rw [hst.out]⟩
      case measure => simp [intOf]; omega
    · have hjk : j = k := by omega
      subst hjk
      obtain ⟨s, hs⟩ : ∃ x, x = Fl.sumI (u.take j) := ⟨_, rfl⟩
      rw [← hs] at h1 HM Hend ⊢
      clear hs
      by_cases hke : j = u.length
      · have hg : ((j : Int) == (u.length : Int)) = true := by simp; omega
        have hRe := Lib.hid (Hend.out hke)
        have HE := Lib.hid hke
        clear hke hlt hI
        go_wp2_with fail
        refine (rwhole_any s _).mono ?_
        rintro e w1 ⟨rfl, hbb⟩
        replace r4 := heap_keep hbb r4
        replace hB := hB.trans (hbb.mono hB.size)
        clear hbb
        rw [← hRe.out]
        obtain ⟨⟨c0, c1⟩, f0, f1⟩ := row_fr r4
        go_wp2
        exact bodyPost_ret (results_cell_row rfl _ _ _ _ _ _ _ rfl (two_cells r4 (.int .i64 R.num) (.int .i64 R.den)) Try.underlying29 rfl infoRat2) rfl ⟨rfl, below_setCell (below_setCell hB (by omega) _) (by omega) _⟩
      · have hg : ((j : Int) == (u.length : Int)) = false := by simp; omega
        have hju : j < u.length := by omega
        obtain ⟨b, off, rfl, hbs, hc⟩ := hI.at hju
        replace hc := keep_cell hB hc
        obtain ⟨y, hy⟩ : ∃ x, x = u.getD j 0 := ⟨_, rfl⟩
        rw [← hy] at hc h2 HM
        have i1 : (j : Int) < (u.length : Int) := by omega
        obtain ⟨⟨c0, c1⟩, -, -⟩ := row_fr r3
        have zz : (N : Int) % (D : Int) = (z : Int) := Hz.out.symm
        have z1 : IntKind.i64.wrap ((N : Int) % (D : Int)) = (z : Int) := by rw [zz]; exact IntWalk.i64_in _ (by omega)
        have z2 : (N : Int).tmod (D : Int) = (z : Int) := (Int.tmod_eq_emod_of_nonneg (by omega)).trans zz
        have z3 : IntKind.i64.wrap (z : Int) = (z : Int) := IntWalk.i64_in _ (by omega)
        clear hy hI hke hlt
        go_wp2_with fail
        go_region_held3 (fun w' => w'.cell? ⟨b, off + j, none⟩ = some (.int .i64 y) ∧ w'.cell? ⟨w.heap.size, 0, none⟩ = some (.int .i64 (N : Int)) ∧ w'.cell? ⟨w.heap.size, 1, none⟩ = some (.int .i64 (D : Int)))
          (first | exact ⟨hc, c0, c1⟩ | exact ⟨cell_two_other _ _ (by omega) kd.1, cell_two_other _ _ (by omega) kd.2.1, cell_two_other _ _ (by omega) kd.2.2⟩ | exact ka | exact kb | exact kc | exact kd)
          (first
            | (go_at_call 40; refine (rwhole_any s _).mono ?_; rintro e w1 ⟨rfl, hb1⟩; have ka := And.intro (keep_cell hb1 hc) (And.intro (keep_cell hb1 c0) (keep_cell hb1 c1)))
            | (go_at_call 70; refine (ratio_any (z : Int) D _ dp (by omega) (by omega) (by omega)).mono ?_; rintro e w2 ⟨rfl, hb2⟩; have kb := And.intro (keep_cell hb2 ka.1) (And.intro (keep_cell hb2 ka.2.1) (keep_cell hb2 ka.2.2)))
            | (go_at_call 147; refine (rtimes_any y _ _ HM.out.1).mono ?_; rintro e w3 ⟨rfl, hb3⟩; have kc := And.intro (keep_cell hb3 kb.1) (And.intro (keep_cell hb3 kb.2.1) (keep_cell hb3 kb.2.2)))
            | (go_at_call 39; refine (radd_q _ _ _ HM.out.2.1).mono ?_; rintro e w4 ⟨rfl, hb4⟩; have kd := And.intro (keep_cell hb4 kc.1) (And.intro (keep_cell hb4 kc.2.1) (keep_cell hb4 kc.2.2)); replace hB := (below_drewN hB 1).trans (hb1.mono (by have := hB.size; exact this)); replace hB := hB.trans (hb2.mono hB.size); replace hB := hB.trans (hb3.mono hB.size); replace hB := hB.trans (hb4.mono hB.size); replace r4 := heap_keep hb4 (heap_keep hb3 (heap_keep hb2 (heap_keep hb1 r4))); obtain ⟨⟨d0, d1⟩, f0, f1⟩ := row_fr r4; rw [← HM.out.2.2]))
        go_wp2
        exact bodyPost_ret (results_cell_row rfl _ _ _ _ _ _ _ rfl (two_cells r4 (.int .i64 R.num) (.int .i64 R.den)) Try.underlying29 rfl infoRat2) rfl ⟨rfl, below_setCell (below_setCell hB (by omega) _) (by omega) _⟩
end Go.Proofs.Ytemlfklipkpacaa

namespace Go.Proofs.Ytemlfklipkpacaa
open Go.RowKit
namespace Fl
/-- The code that is asked of Worth. -/
def wcode (l : List (Int × Int)) (n1 d1 n2 d2 : Int) : Int :=
  if validate l ≠ 0 then validate l else if plc (len l) n1 d1 1000 && (plc (len l) n2 d2 1000 && decide (mkRat n1 d1.toNat ≤ mkRat n2 d2.toNat)) then 0 else 1
theorem wcode_bad {l : List (Int × Int)} {n1 d1 n2 d2 : Int} (h : validate l ≠ 0) : wcode l n1 d1 n2 d2 = validate l := if_pos h
theorem wcode_arg {l : List (Int × Int)} {n1 d1 n2 d2 : Int} (h : validate l = 0) (h2 : (plc (len l) n1 d1 1000 && (plc (len l) n2 d2 1000 && decide (mkRat n1 d1.toNat ≤ mkRat n2 d2.toNat))) = false) : wcode l n1 d1 n2 d2 = 1 := by
  unfold wcode; rw [if_neg (by simp [h]), h2]; rfl
theorem wcode_ok {l : List (Int × Int)} {n1 d1 n2 d2 : Int} (h : validate l = 0) (h2 : (plc (len l) n1 d1 1000 && (plc (len l) n2 d2 1000 && decide (mkRat n1 d1.toNat ≤ mkRat n2 d2.toNat))) = true) : wcode l n1 d1 n2 d2 = 0 := by
  unfold wcode; rw [if_neg (by simp [h]), h2]; rfl
/-- A place's numbers. -/
theorem plc_rat {L n d most : Int} (h : plc L n d most = true) : ∃ q : Rat, q = mkRat n d.toNat ∧ q.num = n ∧ (q.den : Int) = d ∧ 0 ≤ q ∧ q ≤ (L : Rat) ∧ (q.den : Int) ≤ most := by
  obtain ⟨h1, h2⟩ := plc_amt h
  obtain ⟨a1, a2, a3, a4, a5, a6⟩ := amt_rat h1
  exact ⟨_, rfl, a1, a2, a3, h2, by omega⟩
end Fl
theorem place_num {q : Rat} {L : Int} (h : q ≤ (L : Rat)) (hL : L ≤ 140) (_ : 0 ≤ L) : q.num ≤ 140 * (q.den : Int) := by
  have h2 : q ≤ ((140 : Nat) : Rat) := Rat.le_trans h (by exact_mod_cast hL)
  exact Fl.num_le h2
theorem placeOk_of {a b : Rat} {L : Int} (ha : 0 ≤ a) (hb : 0 ≤ b) (ha2 : a ≤ (L : Rat)) (hb2 : b ≤ (L : Rat)) (hL : L ≤ 140) (h0 : 0 ≤ L) (d1 : (a.den : Int) ≤ 1000000) (d2 : (b.den : Int) ≤ 1000000) : PlaceOk a b := by
  have n1 := place_num ha2 hL h0
  have n2 := place_num hb2 hL h0
  refine ⟨ha, hb, by omega, by omega, ?_⟩
  have h : a.den * b.den ≤ 1000000 * 1000000 := Nat.mul_le_mul (by omega) (by omega)
  omega

set_option maxRecDepth 100000 in
set_option maxHeartbeats 4000000 in
theorem Worth_any (l : List (Int × Int)) (ao : Option Addr) (m cap : Nat) (n1 d1 n2 d2 : Int) (w : World) (hp : Pts w ao l) (hln : m = l.length) (hm : m ≤ 100000) (hn1 : n1 ≤ 9223372036854775807) (hn2 : n2 ≤ 9223372036854775807) :
    Calls Try.prog 25 #[.slice ao m cap, .agg #[.int .i64 n1, .int .i64 d1], .agg #[.int .i64 n2, .int .i64 d2]] w fun e w' => e = .returned (.tuple #[frOr (Fl.wcode l n1 d1 n2 d2) (Fl.worth l (mkRat n1 d1.toNat) (mkRat n2 d2.toNat)), .int .i64 (Fl.wcode l n1 d1 n2 d2)]) ∧ Below w.heap.size w w' := by
  have Hn := Lib.hid hln
  clear hln
  obtain ⟨C, hC⟩ : ∃ c, Fl.wcode l n1 d1 n2 d2 = c := ⟨_, rfl⟩
  rw [hC]
  have HC := Lib.hid hC
  clear hC
  have hB := below_alloc3 w (.cells #[.int .i64 n1, .int .i64 d1] 29) (.cells #[.int .i64 n2, .int .i64 d2] 29) (.cells #[.int .i64 0, .int .i64 0] 29)
  have A2 := heap_alloc3_all w (.cells #[.int .i64 n1, .int .i64 d1] 29) (.cells #[.int .i64 n2, .int .i64 d2] 29) (.cells #[.int .i64 0, .int .i64 0] 29)
  replace hp := hp.below hB
  have HA := Lib.hid (And.intro hB A2)
  clear hB A2
  obtain ⟨v, hv⟩ : ∃ v, v = Fl.validate l := ⟨_, rfl⟩
  have hv0 : v = 0 ∨ (v != 0) = true := by by_cases h : v = 0 <;> simp [h]
  have Hv := Lib.hid hv
  clear hv
  obtain ⟨V, hV⟩ : ∃ x, x = Fl.worth l (mkRat n1 d1.toNat) (mkRat n2 d2.toNat) := ⟨_, rfl⟩
  rw [← hV]
  have HV := Lib.hid hV
  clear hV
  go_enter Try.func25, Try.ntmps25
  go_wp2_with fail
  obtain ⟨hB, r4, r5, r6⟩ := HA.out
  clear HA
  refine (validate_any l _ _ _ _ hp Hn.out hm).mono ?_
  rintro e w1 ⟨rfl, hbb⟩
  replace hp := hp.below hbb
  replace r4 := heap_keep hbb r4
  replace r5 := heap_keep hbb r5
  replace r6 := heap_keep hbb r6
  replace hB := hB.trans (hbb.mono hB.size)
  clear hbb
  rw [← Hv.out]
  rcases hv0 with rfl | hv0
  · have hok := Fl.validate_ok.1 Hv.out.symm
    have hlb := Fl.len_bound hok.2
    have hl1 := hok.1.1
    have hl6 := hok.1.2
    obtain ⟨⟨c0, c1⟩, -, -⟩ := row_fr r4
    go_wp2_with fail
    refine (isPlace_any l _ _ _ n1 d1 1000 _ hp Hn.out hok.2 hl6 hn1 (by omega)).mono ?_
    rintro e w2 ⟨rfl, hbb⟩
    replace hp := hp.below hbb
    replace r4 := heap_keep hbb r4
    replace r5 := heap_keep hbb r5
    replace r6 := heap_keep hbb r6
    replace hB := hB.trans (hbb.mono hB.size)
    clear hbb
    clear c0 c1
    cases hp1 : Fl.plc (Fl.len l) n1 d1 1000 with
    | false =>
      have hc := Fl.wcode_arg (n1 := n1) (d1 := d1) (n2 := n2) (d2 := d2) Hv.out.symm (by rw [hp1]; rfl)
      rw [HC.out] at hc
      subst hc
      clear hp1
      obtain ⟨⟨c0, c1⟩, f0, f1⟩ := row_fr r6
      go_wp2
      rw [show frOr 1 V = .agg #[.int .i64 0, .int .i64 0] from rfl]
      exact bodyPost_ret (results_cell_tmp rfl _ _ _ _ _ _ _ rfl (two_cells r6 (.int .i64 0) (.int .i64 0)) Try.underlying29 rfl infoRat2) rfl ⟨rfl, below_setCell (below_setCell hB (by omega) _) (by omega) _⟩
    | true =>
      have Hp1 := Lib.hid hp1
      clear hp1
      obtain ⟨⟨c0, c1⟩, -, -⟩ := row_fr r5
      go_wp2_with fail
      refine (isPlace_any l _ _ _ n2 d2 1000 _ hp Hn.out hok.2 hl6 hn2 (by omega)).mono ?_
      rintro e w3 ⟨rfl, hbb⟩
      replace hp := hp.below hbb
      replace r4 := heap_keep hbb r4
      replace r5 := heap_keep hbb r5
      replace r6 := heap_keep hbb r6
      replace hB := hB.trans (hbb.mono hB.size)
      clear hbb
      clear c0 c1
      cases hp2 : Fl.plc (Fl.len l) n2 d2 1000 with
      | false =>
        have hc := Fl.wcode_arg (n1 := n1) (d1 := d1) (n2 := n2) (d2 := d2) Hv.out.symm (by rw [hp2]; simp)
        rw [HC.out] at hc
        subst hc
        clear hp2
        obtain ⟨⟨c0, c1⟩, f0, f1⟩ := row_fr r6
        go_wp2
        rw [show frOr 1 V = .agg #[.int .i64 0, .int .i64 0] from rfl]
        exact bodyPost_ret (results_cell_tmp rfl _ _ _ _ _ _ _ rfl (two_cells r6 (.int .i64 0) (.int .i64 0)) Try.underlying29 rfl infoRat2) rfl ⟨rfl, below_setCell (below_setCell hB (by omega) _) (by omega) _⟩
      | true =>
        have Hp2 := Lib.hid hp2
        clear hp2
        obtain ⟨q1, hq1, a1, a2, a3, a4, a5⟩ := Fl.plc_rat Hp1.out
        obtain ⟨q2, hq2, b1, b2, b3, b4, b5⟩ := Fl.plc_rat Hp2.out
        have hpo := placeOk_of a3 b3 a4 b4 (by omega) (by omega) (by omega) (by omega)
        have HQ := Lib.hid (And.intro hq1 hq2)
        have hcq : Hid (0 ≤ q1.num ∧ 0 ≤ q2.num ∧ (q1.den : Int) * (q2.den : Int) ≤ 4000000000000000000) :=
          Lib.hid ⟨hpo.nums.1, hpo.nums.2.1, by have := hpo.d; rw [← Int.natCast_mul]; omega⟩
        clear hq1 hq2
        subst a1 b1 a2 b2
        obtain ⟨⟨c0, c1⟩, -, -⟩ := row_fr r4
        obtain ⟨⟨c2, c3⟩, -, -⟩ := row_fr r5
        go_wp2_with fail
        refine (compareR_any q1 q2 _ hcq.out.1 hcq.out.2.1 hn1 hn2 hcq.out.2.2).mono ?_
        rintro e w4 ⟨rfl, hbb⟩
        replace hp := hp.below hbb
        replace r4 := heap_keep hbb r4
        replace r5 := heap_keep hbb r5
        replace r6 := heap_keep hbb r6
        replace hB := hB.trans (hbb.mono hB.size)
        clear hbb
        clear c0 c1 c2 c3
        by_cases hle : q1 ≤ q2
        · have hc := Fl.wcode_ok (n1 := q1.num) (d1 := q1.den) (n2 := q2.num) (d2 := q2.den) Hv.out.symm (by rw [Hp1.out, Hp2.out, ← HQ.out.1, ← HQ.out.2]; simpa using hle)
          rw [HC.out] at hc
          subst hc
          have hcm : ¬ 0 < Fl.cmpR q1 q2 := by unfold Fl.cmpR; grind
          obtain ⟨⟨c0, c1⟩, -, -⟩ := row_fr r4
          obtain ⟨⟨c2, c3⟩, -, -⟩ := row_fr r5
          go_wp2_with fail
          refine (worth_any l q1 q2 _ _ _ _ hp Hn.out hok.2 hl1 hl6 hpo).mono ?_
          rintro e w5 ⟨rfl, hbb⟩
          replace hp := hp.below hbb
          replace r4 := heap_keep hbb r4
          replace r5 := heap_keep hbb r5
          replace r6 := heap_keep hbb r6
          replace hB := hB.trans (hbb.mono hB.size)
          clear hbb
          clear c0 c1 c2 c3
          obtain ⟨⟨c0, c1⟩, f0, f1⟩ := row_fr r6
          have HV2 : Hid (V = Fl.worth l q1 q2) := Lib.hid (by rw [HV.out, ← HQ.out.1, ← HQ.out.2])
          rw [← HV2.out]
          go_wp2
          rw [show frOr 0 V = Fr V from rfl]
          exact bodyPost_ret (results_cell_tmp rfl _ _ _ _ _ _ _ rfl (two_cells r6 (.int .i64 V.num) (.int .i64 V.den)) Try.underlying29 rfl infoRat2) rfl ⟨rfl, below_setCell (below_setCell hB (by omega) _) (by omega) _⟩
        · have hc := Fl.wcode_arg (n1 := q1.num) (d1 := q1.den) (n2 := q2.num) (d2 := q2.den) Hv.out.symm (by rw [Hp1.out, Hp2.out, ← HQ.out.1, ← HQ.out.2]; simpa using hle)
          rw [HC.out] at hc
          subst hc
          have hcm : 0 < Fl.cmpR q1 q2 := by unfold Fl.cmpR; grind
          obtain ⟨⟨c0, c1⟩, f0, f1⟩ := row_fr r6
          go_wp2
          rw [show frOr 1 V = .agg #[.int .i64 0, .int .i64 0] from rfl]
          exact bodyPost_ret (results_cell_tmp rfl _ _ _ _ _ _ _ rfl (two_cells r6 (.int .i64 0) (.int .i64 0)) Try.underlying29 rfl infoRat2) rfl ⟨rfl, below_setCell (below_setCell hB (by omega) _) (by omega) _⟩
  · have hc := Fl.wcode_bad (l := l) (n1 := n1) (d1 := d1) (n2 := n2) (d2 := d2) (by rw [← Hv.out]; exact code_ne hv0)
    rw [HC.out, ← Hv.out] at hc
    subst hc
    obtain ⟨⟨c0, c1⟩, f0, f1⟩ := row_fr r6
    go_wp2
    rw [frOr_no hv0]
    exact bodyPost_ret (results_cell_tmp rfl _ _ _ _ _ _ _ rfl (two_cells r6 (.int .i64 0) (.int .i64 0)) Try.underlying29 rfl infoRat2) rfl ⟨rfl, below_setCell (below_setCell hB (by omega) _) (by omega) _⟩
end Go.Proofs.Ytemlfklipkpacaa
