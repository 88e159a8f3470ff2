import Derived.Test.YtkpabehjehbidaaRa
namespace Go.Proofs.Ytkpabehjehbidaa
open Go.RowKit

theorem SumOk.neg {n1 n2 : Int} {d1 d2 : Nat} (h : SumOk n1 d1 n2 d2) : SumOk n1 d1 (-n2) d2 :=
  ⟨h.p1, h.p2, h.a1, h.a2, by have := h.b2; rw [Int.neg_mul]; omega, by have := h.b1; rw [Int.neg_mul]; omega, h.c⟩
theorem SumOk.n2b {n1 n2 : Int} {d1 d2 : Nat} (h : SumOk n1 d1 n2 d2) : -1000000000000000000 ≤ n2 ∧ n2 ≤ 1000000000000000000 := by
  have := prod_small (e := 1) h.b1 h.b2 h.p1 (by omega)
  rw [show ((1 : Nat) : Int) = 1 from rfl, Int.mul_one] at this
  exact this

theorem sub_mk (n1 n2 : Int) (d1 d2 : Nat) : mkRat n1 d1 + mkRat (-n2) d2 = mkRat n1 d1 - mkRat n2 d2 := by
  rw [← Rat.neg_mkRat, Rat.sub_eq_add_neg]

set_option maxRecDepth 100000 in
set_option maxHeartbeats 1000000 in
theorem rsub_any (n1 : Int) (d1 : Nat) (n2 : Int) (d2 : Nat) (w : World) (h : SumOk n1 d1 n2 d2) :
    Calls Try.prog 37 #[.agg #[.int .i64 n1, .int .i64 d1], .agg #[.int .i64 n2, .int .i64 d2]] w fun e w' => e = .returned (Fr (mkRat n1 d1 - mkRat n2 d2)) ∧ Below w.heap.size w w' := by
  have hb := h.n2b
  have hneg := h.neg
  have hR := Lib.hid (sub_mk n1 n2 d1 d2)
  obtain ⟨Q, hQ⟩ : ∃ q, mkRat n1 d1 - mkRat n2 d2 = q := ⟨_, rfl⟩
  rw [hQ] at hR ⊢
  clear hQ h
  have x1 : IntKind.i64.wrap (-n2) = -n2 := IntWalk.i64_in _ (by omega)
  have hB := below_alloc3 w (.cells #[.int .i64 n1, .int .i64 d1] 29) (.cells #[.int .i64 n2, .int .i64 d2] 29) (.cells #[.int .i64 0, .int .i64 0] 29)
  have A2 := heap_alloc3_all w (.cells #[.int .i64 n1, .int .i64 d1] 29) (.cells #[.int .i64 n2, .int .i64 d2] 29) (.cells #[.int .i64 0, .int .i64 0] 29)
  have HA := Lib.hid (And.intro hB A2)
  clear hB A2
  go_enter Try.func37, Try.ntmps37
  go_wp2_with fail
  obtain ⟨hB, -, -, r4⟩ := HA.out
  clear HA
  refine (radd_any n1 d1 (-n2) d2 _ hneg).mono ?_
  rintro e w1 ⟨rfl, hbb⟩
  replace r4 := heap_keep hbb r4
  replace hB := hB.trans (hbb.mono hB.size)
  clear hbb
  rw [hR.out]
  obtain ⟨⟨d0, d1⟩, f0, f1⟩ := row_fr r4
  go_wp2
  exact bodyPost_ret (results_cell_row rfl _ _ _ _ _ _ _ rfl (two_cells r4 (.int .i64 Q.num) (.int .i64 Q.den)) Try.underlying29 rfl infoRat2) rfl ⟨rfl, below_setCell (below_setCell hB (by omega) _) (by omega) _⟩

theorem field_rt (a b : Int) : ∀ w : World, (Instr.field 29 (.agg #[.int .i64 a, .int .i64 b]) 0).run Try.prog w = .ok (.int .i64 a) w := fun _ => by kernel_rfl
theorem num_neg (q : Rat) : decide (q.num < 0) = decide (q < 0) := by
  rw [decide_eq_decide]
  have := @Rat.num_nonneg q
  constructor <;> intro h
  · have h2 : ¬ 0 ≤ q.num := by omega
    rw [this] at h2
    grind
  · have h2 : ¬ 0 ≤ q := by grind
    rw [← this] at h2
    omega

set_option maxRecDepth 100000 in
set_option maxHeartbeats 1000000 in
theorem rless_any (n1 : Int) (d1 : Nat) (n2 : Int) (d2 : Nat) (w : World) (h : SumOk n1 d1 n2 d2) :
    Calls Try.prog 41 #[.agg #[.int .i64 n1, .int .i64 d1], .agg #[.int .i64 n2, .int .i64 d2]] w fun e w' => e = .returned (.bool (decide (mkRat n1 d1 < mkRat n2 d2))) ∧ Below w.heap.size w w' := by
  have hR : decide ((mkRat n1 d1 - mkRat n2 d2).num < 0) = decide (mkRat n1 d1 < mkRat n2 d2) := by
    rw [num_neg, decide_eq_decide]
    constructor <;> intro h <;> grind
  have HR := Lib.hid hR
  clear hR
  have hB := below_alloc2 w (.cells #[.int .i64 n1, .int .i64 d1] 29) (.cells #[.int .i64 n2, .int .i64 d2] 29)
  have HB := Lib.hid hB
  clear hB
  go_enter Try.func41, Try.ntmps41
  go_wp2_with fail
  refine (rsub_any n1 d1 n2 d2 _ h).mono ?_
  rintro e w1 ⟨rfl, hbb⟩
  have hf := field_rt (mkRat n1 d1 - mkRat n2 d2).num (mkRat n1 d1 - mkRat n2 d2).den
  have hB := HB.out.trans (hbb.mono HB.out.size)
  clear hbb HB
  dsimp only [Fr]
  go_wp2
  all_goals
    go_ret
    refine ⟨ret_bool ?_, hB⟩
    rw [← HR.out]

set_option maxHeartbeats 400000 in
theorem rwhole_any (n : Int) (w : World) :
    Calls Try.prog 38 #[.int .i64 n] w fun e w' => e = .returned (Fr (n : Rat)) ∧ Below w.heap.size w w' := by
  go_enter Try.func38, Try.ntmps38
  go_wp2
  exact bodyPost_ret (results_cell_row rfl _ _ _ _ _ _ _ rfl (heap_alloc_new w _) Try.underlying29 rfl infoRat2) rfl ⟨rfl, (Below.refl _ w).alloc (Nat.le_refl _) _⟩

/-- Numbers of which a product can be made. -/
structure MulOk (n : Int) (a : Rat) : Prop where
  n1 : 0 ≤ n
  n2 : n ≤ 1000000
  a1 : 0 ≤ a.num
  a2 : a.num ≤ 1000000000000
  a3 : a.den ≤ 1000000000000
theorem mul_low (n : Int) (a : Rat) : mkRat ((mkRat n a.den).num * a.num) (mkRat n a.den).den = (n : Rat) * a := by
  have h1 : mkRat ((mkRat n a.den).num * a.num) (mkRat n a.den).den = mkRat n a.den * (a.num : Rat) := by
    rw [Rat.mul_def', Rat.num_intCast, Rat.den_intCast, Nat.mul_one]
  rw [h1, Rat.mkRat_eq_div]
  have hx : a = (a.num : Rat) / (a.den : Rat) := by rw [← Rat.mkRat_eq_div, Rat.mkRat_self]
  conv => rhs; rw [hx]
  rw [Rat.div_def, Rat.div_def, Rat.mul_assoc, Rat.mul_comm ((a.den : Rat)⁻¹)]
theorem mk_num_le {n : Int} {d : Nat} (h : 0 ≤ n) : 0 ≤ (mkRat n d).num ∧ (mkRat n d).num ≤ n := by
  rw [Rat.num_mkRat]
  split
  · omega
  · exact ⟨Int.ediv_nonneg h (by omega), Int.ediv_le_self _ h⟩
theorem mk_den_le {n : Int} {d : Nat} (h : 0 < d) : (mkRat n d).den ≤ d := by
  rw [Rat.den_mkRat, if_neg (by omega)]
  exact Nat.div_le_self _ _

set_option maxRecDepth 100000 in
set_option maxHeartbeats 1000000 in
theorem rtimes_any (n : Int) (a : Rat) (w : World) (h : MulOk n a) :
    Calls Try.prog 102 #[.int .i64 n, Fr a] w fun e w' => e = .returned (Fr ((n : Rat) * a)) ∧ Below w.heap.size w w' := by
  have hR := mul_low n a
  have hden := a.den_pos
  have k1 := mk_num_le (n := n) (d := a.den) h.n1
  have k2 := mk_den_le (n := n) hden
  have k3 := (mkRat n a.den).den_pos
  obtain ⟨X, hX⟩ : ∃ x, mkRat n a.den = x := ⟨_, rfl⟩
  rw [hX] at hR k1 k2 k3
  obtain ⟨Q, hQ⟩ : ∃ q, (n : Rat) * a = q := ⟨_, rfl⟩
  rw [hQ] at hR ⊢
  have HX := Lib.hid hX
  have HR := Lib.hid hR
  clear hQ hR hX
  obtain ⟨h1, h2, h3, h4, h5⟩ := h
  have m1 : 0 ≤ X.num * a.num := Int.mul_nonneg k1.1 h3
  have m2 : X.num * a.num ≤ 1000000 * 1000000000000 := Int.mul_le_mul (by omega) h4 h3 (by omega)
  have x1 : IntKind.i64.wrap (X.num * a.num) = X.num * a.num := IntWalk.i64_in _ (by omega)
  have hB := below_alloc2 w (.cells #[.int .i64 a.num, .int .i64 a.den] 29) (.cells #[.int .i64 0, .int .i64 0] 29)
  have r3 := heap_alloc2_old w (.cells #[.int .i64 a.num, .int .i64 a.den] 29) (.cells #[.int .i64 0, .int .i64 0] 29)
  have r4 := heap_alloc2_new w (.cells #[.int .i64 a.num, .int .i64 a.den] 29) (.cells #[.int .i64 0, .int .i64 0] 29)
  have HA := Lib.hid (And.intro hB (And.intro r3 r4))
  clear hB r3 r4
  go_enter Try.func102, Try.ntmps102
  go_wp2_with fail
  obtain ⟨hB, r3, r4⟩ := HA.out
  clear HA
  refine (ratio_any n a.den _ hden (by omega) (by omega) (by omega)).mono ?_
  rintro e w1 ⟨rfl, hbb⟩
  replace r3 := heap_keep hbb r3
  replace r4 := heap_keep hbb r4
  replace hB := hB.trans (hbb.mono hB.size)
  clear hbb
  rw [HX.out]
  have hA := (Below.refl _ w1).alloc (Nat.le_refl _) (.cells #[.int .i64 X.num, .int .i64 X.den] 29)
  have r5 := heap_alloc_new w1 (.cells #[.int .i64 X.num, .int .i64 X.den] 29)
  replace r3 := heap_keep hA r3
  replace r4 := heap_keep hA r4
  replace hB := hB.trans (hA.mono hB.size)
  clear hA
  obtain ⟨⟨d0, d1⟩, f0, f1⟩ := row_fr r3
  go_wp2_with fail
  refine (ratio_any (X.num * a.num) X.den _ k3 (by omega) (by omega) (by omega)).mono ?_
  rintro e w2 ⟨rfl, hbb⟩
  replace r3 := heap_keep hbb r3
  replace r4 := heap_keep hbb r4
  replace hB := hB.trans (hbb.mono hB.size)
  clear hbb
  rw [HR.out]
  clear d0 d1 f0 f1
  obtain ⟨⟨d0, d1⟩, f0, f1⟩ := row_fr r4
  go_wp2
  exact bodyPost_ret (results_cell_row rfl _ _ _ _ _ _ _ rfl (two_cells r4 (.int .i64 Q.num) (.int .i64 Q.den)) Try.underlying29 rfl infoRat2) rfl ⟨rfl, below_setCell (below_setCell hB (by omega) _) (by omega) _⟩
end Go.Proofs.Ytkpabehjehbidaa
