import Derived.Test.YtkpabehjehbidaaFo
import Derived.Deep.Cut
namespace Go.Proofs.Ytkpabehjehbidaa
open Go.RowKit

def cmpI (a b : Int) : Int := if a < b then -1 else if b < a then 1 else 0

theorem isNaN_same (x : Int) (w : World) : Calls Try.prog 99 #[.int .i64 x] w fun e w' => e = .returned (.bool false) ∧ w' = w := by
  have hx : (x != x) = false := by simp
  go_enter Try.func99, Try.ntmps99
  go_wp2
  go_ret
  exact ⟨ret_bool (by simp), rfl⟩

set_option maxHeartbeats 400000 in
theorem cmp_same (a b : Int) (w : World) : Calls Try.prog 88 #[.int .i64 a, .int .i64 b] w fun e w' => e = .returned (.int .i64 (cmpI a b)) ∧ w' = w := by
  have H : Hid (cmpI a b = if a < b then -1 else if b < a then 1 else 0) := Lib.hid rfl
  by_cases h1 : a < b
  · have H2 : Hid (cmpI a b = -1) := Lib.hid (by rw [H.out, if_pos h1])
    go_enter Try.func88, Try.ntmps88
    go_wp2_with (first | (go_at_call 99; refine (isNaN_same _ _).mono ?_; rintro e w' ⟨rfl, rfl⟩))
    go_ret
    exact ⟨ret_int H2.out.symm, rfl⟩
  · by_cases h2 : b < a
    · have H2 : Hid (cmpI a b = 1) := Lib.hid (by rw [H.out, if_neg h1, if_pos h2])
      go_enter Try.func88, Try.ntmps88
      go_wp2_with (first | (go_at_call 99; refine (isNaN_same _ _).mono ?_; rintro e w' ⟨rfl, rfl⟩))
      go_ret
      exact ⟨ret_int H2.out.symm, rfl⟩
    · have H2 : Hid (cmpI a b = 0) := Lib.hid (by rw [H.out, if_neg h1, if_neg h2])
      go_enter Try.func88, Try.ntmps88
      go_wp2_with (first | (go_at_call 99; refine (isNaN_same _ _).mono ?_; rintro e w' ⟨rfl, rfl⟩))
      go_ret
      exact ⟨ret_int H2.out.symm, rfl⟩

theorem mul_lt_of {p q d e r : Int} (h : p < q) (hd : 0 < d) (he : 0 < e) (hr : r < d) : (d * p + r) * e < q * d * e := by
  have h1 : d * p + r < q * d := by
    have : d * (p + 1) ≤ d * q := Int.mul_le_mul_of_nonneg_left (by omega) (by omega)
    rw [Int.mul_add, Int.mul_one] at this
    rw [Int.mul_comm q d]
    omega
  exact Int.mul_lt_mul_of_pos_right h1 he
theorem cmp_lt {a b : Rat} (_ : 0 ≤ b.num) (h : a.num / (a.den : Int) < b.num / (b.den : Int)) : a < b := by
  rw [Rat.lt_iff]
  have da : 0 < (a.den : Int) := by have := a.den_pos; omega
  have db : 0 < (b.den : Int) := by have := b.den_pos; omega
  have e1 := Int.mul_ediv_add_emod a.num (a.den : Int)
  have e2 := Int.mul_ediv_add_emod b.num (b.den : Int)
  have r1 := Int.emod_lt_of_pos a.num da
  have r2 := Int.emod_nonneg b.num (show (b.den : Int) ≠ 0 by omega)
  have m := mul_lt_of (e := (b.den : Int)) h da db r1
  rw [e1] at m
  have m2 : b.num / (b.den : Int) * (a.den : Int) * (b.den : Int) ≤ b.num * (a.den : Int) := by
    have : (b.den : Int) * (b.num / (b.den : Int)) ≤ b.num := by omega
    have := Int.mul_le_mul_of_nonneg_right this (Int.le_of_lt da)
    rw [show b.num / (b.den : Int) * (a.den : Int) * (b.den : Int) = (b.den : Int) * (b.num / (b.den : Int)) * (a.den : Int) by rw [Int.mul_comm _ (b.den : Int), ← Int.mul_assoc]]
    exact this
  omega
theorem cmp_rem {a b : Rat} (h : a.num / (a.den : Int) = b.num / (b.den : Int)) : a < b ↔ a.num % (a.den : Int) * (b.den : Int) < b.num % (b.den : Int) * (a.den : Int) := by
  rw [Rat.lt_iff]
  have e1 := Int.mul_ediv_add_emod a.num (a.den : Int)
  have e2 := Int.mul_ediv_add_emod b.num (b.den : Int)
  have f1 : a.num * (b.den : Int) = (a.den : Int) * (a.num / (a.den : Int)) * (b.den : Int) + a.num % (a.den : Int) * (b.den : Int) := by
    rw [← Int.add_mul, e1]
  have f2 : b.num * (a.den : Int) = (b.den : Int) * (b.num / (b.den : Int)) * (a.den : Int) + b.num % (b.den : Int) * (a.den : Int) := by
    rw [← Int.add_mul, e2]
  have f3 : (a.den : Int) * (a.num / (a.den : Int)) * (b.den : Int) = (b.den : Int) * (b.num / (b.den : Int)) * (a.den : Int) := by
    rw [h, Int.mul_right_comm, Int.mul_comm (a.den : Int) (b.den : Int), Int.mul_right_comm]
  omega
theorem cmpI_cases (a b : Int) : cmpI a b = -1 ∧ a < b ∨ cmpI a b = 1 ∧ b < a ∨ cmpI a b = 0 ∧ a = b := by
  unfold cmpI; split
  · simp [*]
  · split
    · simp [*]
    · right; right; exact ⟨rfl, by omega⟩
theorem cmp_first {a b : Rat} (ha : 0 ≤ a.num) (hb : 0 ≤ b.num) (h : cmpI (a.num / (a.den : Int)) (b.num / (b.den : Int)) ≠ 0) : cmpI (a.num / (a.den : Int)) (b.num / (b.den : Int)) = Fl.cmpR a b := by
  unfold Fl.cmpR
  rcases cmpI_cases (a.num / (a.den : Int)) (b.num / (b.den : Int)) with ⟨e, h1⟩ | ⟨e, h1⟩ | ⟨e, h1⟩
  · rw [e, if_pos (cmp_lt hb h1)]
  · have := cmp_lt ha h1
    rw [e, if_neg (by grind), if_pos this]
  · exact absurd e h
theorem cmp_second {a b : Rat} (h : cmpI (a.num / (a.den : Int)) (b.num / (b.den : Int)) = 0) : cmpI (a.num % (a.den : Int) * (b.den : Int)) (b.num % (b.den : Int) * (a.den : Int)) = Fl.cmpR a b := by
  have hq : a.num / (a.den : Int) = b.num / (b.den : Int) := by
    rcases cmpI_cases (a.num / (a.den : Int)) (b.num / (b.den : Int)) with ⟨e, h1⟩ | ⟨e, h1⟩ | ⟨e, h1⟩ <;> omega
  unfold Fl.cmpR cmpI
  simp only [cmp_rem hq, cmp_rem hq.symm]
end Go.Proofs.Ytkpabehjehbidaa
