import Derived.Test.YtkpabehjehbidaaFr
namespace Go.Proofs.Ytkpabehjehbidaa
open Go.RowKit

theorem lowest_q (a b : Int) (q : Rat) (w : World) (ha : 0 ≤ a) (hb : 0 < b) (h1 : a ≤ 9223372036854775807) (h2 : b ≤ 9223372036854775807) (hq : mkRat a b.toNat = q) :
    Calls Try.prog 87 #[.int .i64 a, .int .i64 b] w fun e w' => e = .returned (Fr q) ∧ Below w.heap.size w w' := by
  obtain ⟨n, rfl⟩ := Int.eq_ofNat_of_zero_le ha
  obtain ⟨d, rfl⟩ := Int.eq_ofNat_of_zero_le (Int.le_of_lt hb)
  rw [← hq, Int.toNat_natCast]
  exact lowest_any n d w (by omega) (by omega) (by omega)

theorem add_q (x y : Rat) : mkRat (x.num * (y.den : Int) + y.num * (x.den : Int)) ((x.den : Int) * (y.den : Int)).toNat = x + y := by
  rw [Rat.add_def', ← Int.natCast_mul, Int.toNat_natCast]
theorem sub_q (x y : Rat) : mkRat (x.num * (y.den : Int) - y.num * (x.den : Int)) ((x.den : Int) * (y.den : Int)).toNat = x - y := by
  rw [Rat.sub_def', ← Int.natCast_mul, Int.toNat_natCast]
theorem mul_q (x : Rat) (n : Int) : mkRat (x.num * n) ((x.den : Int)).toNat = x * (n : Rat) := by
  rw [Rat.mul_def', Int.toNat_natCast, Rat.num_intCast, Rat.den_intCast, Nat.mul_one]
theorem div_q (x : Rat) (n : Int) (hn : 0 < n) : mkRat x.num ((x.den : Int) * n).toNat = x / (n : Rat) := by
  obtain ⟨m, rfl⟩ := Int.eq_ofNat_of_zero_le (Int.le_of_lt hn)
  rw [← Int.natCast_mul, Int.toNat_natCast, Rat.mkRat_eq_div]
  have hx : x = (x.num : Rat) / (x.den : Rat) := by rw [← Rat.mkRat_eq_div, Rat.mkRat_self]
  have hd : (x.den : Rat) ≠ 0 := by
    intro h
    have := x.den_pos
    have h2 := Rat.natCast_eq_zero_iff.1 h
    omega
  have hm : ((m : Int) : Rat) ≠ 0 := by
    intro h
    have h2 := Rat.intCast_eq_zero_iff.1 h
    omega
  have hm2 : ((m : Nat) : Rat) ≠ 0 := hm
  rw [Rat.natCast_mul]
  conv => rhs; rw [hx]
  show _ = (x.num : Rat) / (x.den : Rat) / ((m : Nat) : Rat)
  rw [Rat.div_def, Rat.div_def, Rat.div_def, Rat.inv_mul_rev, Rat.mul_comm ((m : Rat)⁻¹), Rat.mul_assoc]

/-- Numbers that can be reckoned with. -/
def PlusOk (x y : Rat) : Prop := 0 ≤ x.num ∧ 0 ≤ y.num ∧ x.num * (y.den : Int) ≤ 4000000000000000000 ∧ y.num * (x.den : Int) ≤ 4000000000000000000 ∧ (x.den : Int) * (y.den : Int) ≤ 4000000000000000000
theorem plusOk {x y : Rat} (h : Fl.Add2 x y) : PlusOk x y := by
  obtain ⟨h1, h2, h3, h4, h5⟩ := h
  have n1 := Fl.num_nonneg h1
  have n2 := Fl.num_nonneg h2
  have m1 : x.num ≤ 3000 * (x.den : Int) := Fl.num_le (n := 3000) h3
  have m2 : y.num ≤ 3000 * (y.den : Int) := Fl.num_le (n := 3000) h4
  have h6 : (x.den : Int) * (y.den : Int) ≤ 100000000000000 := by have := h5; rw [← Int.natCast_mul]; omega
  have a1 : x.num * (y.den : Int) ≤ 3000 * (x.den : Int) * (y.den : Int) := Int.mul_le_mul_of_nonneg_right m1 (by omega)
  have a2 : y.num * (x.den : Int) ≤ 3000 * (y.den : Int) * (x.den : Int) := Int.mul_le_mul_of_nonneg_right m2 (by omega)
  rw [Int.mul_assoc] at a1 a2
  rw [Int.mul_comm (y.den : Int) (x.den : Int)] at a2
  exact ⟨n1, n2, by omega, by omega, by omega⟩

set_option maxRecDepth 100000 in
set_option maxHeartbeats 1000000 in
theorem plus_any (x y : Rat) (w : World) (h : PlusOk x y) :
    Calls Try.prog 91 #[Fr x, Fr y] w fun e w' => e = .returned (Fr (x + y)) ∧ Below w.heap.size w w' := by
  obtain ⟨h1, h2, h3, h4, h5⟩ := h
  have p1 : 0 ≤ x.num * (y.den : Int) := Int.mul_nonneg h1 (by omega)
  have p2 : 0 ≤ y.num * (x.den : Int) := Int.mul_nonneg h2 (by omega)
  have p3 : 0 < (x.den : Int) * (y.den : Int) := Int.mul_pos (by have := x.den_pos; omega) (by have := y.den_pos; omega)
  have hq := Lib.hid (add_q x y)
  go_enter Try.func91, Try.ntmps91
  go_wp2_with (first | (go_at_call 87; refine (lowest_q _ _ (x + y) _ (by omega) (by omega) (by omega) (by omega) hq.out).mono ?_; rintro e w' ⟨rfl, hb'⟩; have hh := heap_at hb' (k := w.heap.size + 1 + 1) (by simp; try omega) (heap_alloc3 w _ _ _); obtain ⟨⟨c0, c1⟩, f0, f1⟩ := row_fr hh))
  refine bodyPost_ret (results_cell_row rfl _ _ _ _ _ _ _ rfl (two_cells hh (.int .i64 (x + y).num) (.int .i64 (x + y).den)) Try.underlying70 rfl infoFr2) rfl ⟨rfl, below_setCell (below_setCell ((below_alloc3 w _ _ _).trans (hb'.mono (by simp; try omega))) (by omega) _) (by omega) _⟩

/-- Two fractions of which one can be taken from the other. -/
def SubOk (x y : Rat) : Prop := PlusOk x y ∧ y ≤ x
set_option maxRecDepth 100000 in
set_option maxHeartbeats 1000000 in
theorem minus_any (x y : Rat) (w : World) (h : SubOk x y) :
    Calls Try.prog 95 #[Fr x, Fr y] w fun e w' => e = .returned (Fr (x - y)) ∧ Below w.heap.size w w' := by
  obtain ⟨⟨h1, h2, h3, h4, h5⟩, h6⟩ := h
  have p0 := (Rat.le_iff y x).mp h6
  have p1 : 0 ≤ x.num * (y.den : Int) := Int.mul_nonneg h1 (by omega)
  have p2 : 0 ≤ y.num * (x.den : Int) := Int.mul_nonneg h2 (by omega)
  have p3 : 0 < (x.den : Int) * (y.den : Int) := Int.mul_pos (by have := x.den_pos; omega) (by have := y.den_pos; omega)
  have hq := Lib.hid (sub_q x y)
  go_enter Try.func95, Try.ntmps95
  go_wp2_with (first | (go_at_call 87; refine (lowest_q _ _ (x - y) _ (by omega) (by omega) (by omega) (by omega) hq.out).mono ?_; rintro e w' ⟨rfl, hb'⟩; have hh := heap_at hb' (k := w.heap.size + 1 + 1) (by simp; try omega) (heap_alloc3 w _ _ _); obtain ⟨⟨c0, c1⟩, f0, f1⟩ := row_fr hh))
  refine bodyPost_ret (results_cell_row rfl _ _ _ _ _ _ _ rfl (two_cells hh (.int .i64 (x - y).num) (.int .i64 (x - y).den)) Try.underlying70 rfl infoFr2) rfl ⟨rfl, below_setCell (below_setCell ((below_alloc3 w _ _ _).trans (hb'.mono (by simp; try omega))) (by omega) _) (by omega) _⟩

set_option maxRecDepth 100000 in
set_option maxHeartbeats 1000000 in
theorem times_any (x : Rat) (n : Int) (w : World) (h1 : 0 ≤ x.num) (h2 : 0 ≤ n) (h3 : x.num * n ≤ 4000000000000000000) (h4 : (x.den : Int) ≤ 4000000000000000000) :
    Calls Try.prog 101 #[Fr x, .int .i64 n] w fun e w' => e = .returned (Fr (x * (n : Rat))) ∧ Below w.heap.size w w' := by
  have p1 : 0 ≤ x.num * n := Int.mul_nonneg h1 h2
  have p3 : 0 < (x.den : Int) := by have := x.den_pos; omega
  have hq := Lib.hid (mul_q x n)
  go_enter Try.func101, Try.ntmps101
  go_wp2_with (first | (go_at_call 87; refine (lowest_q _ _ (x * (n : Rat)) _ (by omega) (by omega) (by omega) (by omega) hq.out).mono ?_; rintro e w' ⟨rfl, hb'⟩; have hh := heap_at hb' (k := w.heap.size + 1) (by simp; try omega) (heap_alloc2_new w _ _); obtain ⟨⟨c0, c1⟩, f0, f1⟩ := row_fr hh))
  refine bodyPost_ret (results_cell_row rfl _ _ _ _ _ _ _ rfl (two_cells hh (.int .i64 (x * (n : Rat)).num) (.int .i64 (x * (n : Rat)).den)) Try.underlying70 rfl infoFr2) rfl ⟨rfl, below_setCell (below_setCell ((below_alloc2 w _ _).trans (hb'.mono (by simp; try omega))) (by omega) _) (by omega) _⟩

set_option maxRecDepth 100000 in
set_option maxHeartbeats 1000000 in
theorem over_any (x : Rat) (n : Int) (w : World) (h1 : 0 ≤ x.num) (h2 : 0 < n) (h3 : x.num ≤ 4000000000000000000) (h4 : (x.den : Int) * n ≤ 4000000000000000000) :
    Calls Try.prog 58 #[Fr x, .int .i64 n] w fun e w' => e = .returned (Fr (x / (n : Rat))) ∧ Below w.heap.size w w' := by
  have p3 : 0 < (x.den : Int) * n := Int.mul_pos (by have := x.den_pos; omega) h2
  have hq := Lib.hid (div_q x n h2)
  go_enter Try.func58, Try.ntmps58
  go_wp2_with (first | (go_at_call 87; refine (lowest_q _ _ (x / (n : Rat)) _ (by omega) (by omega) (by omega) (by omega) hq.out).mono ?_; rintro e w' ⟨rfl, hb'⟩; have hh := heap_at hb' (k := w.heap.size + 1) (by simp; try omega) (heap_alloc2_new w _ _); obtain ⟨⟨c0, c1⟩, f0, f1⟩ := row_fr hh))
  refine bodyPost_ret (results_cell_row rfl _ _ _ _ _ _ _ rfl (two_cells hh (.int .i64 (x / (n : Rat)).num) (.int .i64 (x / (n : Rat)).den)) Try.underlying70 rfl infoFr2) rfl ⟨rfl, below_setCell (below_setCell ((below_alloc2 w _ _).trans (hb'.mono (by simp; try omega))) (by omega) _) (by omega) _⟩
end Go.Proofs.Ytkpabehjehbidaa
