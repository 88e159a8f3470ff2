import Derived.Test.YtnllhhamebmlnaaRva
namespace Go.Proofs.Ytnllhhamebmlnaa

namespace Geo
/-- The fan from the first corner is the sum along the border. -/
theorem turn_cross (ax ay bx b_y cx cy : Int) : turn ax ay bx b_y cx cy = (bx * cy - cx * b_y) - (ax * cy - cx * ay) + (ax * b_y - bx * ay) := by
  unfold turn
  simp only [Int.sub_mul, Int.mul_sub]
  rw [Int.mul_comm b_y cx, Int.mul_comm ay cx, Int.mul_comm b_y ax, Int.mul_comm ay ax]
  omega
def crs (l : List (Int × Int)) (i j : Nat) : Int := px l i * py l j - px l j * py l i
theorem fan_up (l : List (Int × Int)) (k : Nat) : sumOf (fanOf l) (List.range k) = sumOf (fun i => crs l (i + 1) (i + 2)) (List.range k) - crs l 0 (k + 1) + crs l 0 1 := by
  induction k with
  | zero => show (0 : Int) = 0 - crs l 0 1 + crs l 0 1; omega
  | succ k ih =>
    rw [List.range_succ, sumOf_snoc, sumOf_snoc, ih]
    unfold fanOf
    rw [turn_cross]
    show _ = _ + crs l (k + 1) (k + 2) - crs l 0 (k + 1 + 1) + _
    unfold crs
    rw [show k + 1 + 1 = k + 2 from rfl]
    omega
theorem sumOf_congr {f g : Nat → Int} (l : List Nat) (h : ∀ i ∈ l, f i = g i) : sumOf f l = sumOf g l := by
  induction l with
  | nil => rfl
  | cons x l ih =>
    show f x + sumOf f l = g x + sumOf g l
    rw [h x (by simp), ih (fun i hi => h i (by simp [hi]))]
theorem sumOf_shift (f : Nat → Int) (k : Nat) : sumOf f (List.range (k + 1)) = f 0 + sumOf (fun i => f (i + 1)) (List.range k) := by
  induction k with
  | zero => show f 0 + 0 = f 0 + 0; rfl
  | succ k ih =>
    rw [List.range_succ, sumOf_snoc, ih, List.range_succ, sumOf_snoc]
    omega
theorem area_fan (l : List (Int × Int)) (h : 3 ≤ l.length) : area l = fan l := by
  obtain ⟨k, hk⟩ : ∃ k, l.length = k + 2 := ⟨l.length - 2, by omega⟩
  unfold area fan
  rw [hk, show k + 2 - 2 = k from rfl, fan_up]
  have e : sumOf (cross l) (List.range (k + 2)) = sumOf (cross l) (List.range (k + 1)) + crs l (k + 1) 0 := by
    rw [show k + 2 = (k + 1) + 1 from rfl, List.range_succ, sumOf_snoc]
    unfold cross crs nxt
    rw [hk, show (k + 1 + 1) % (k + 2) = 0 from Nat.mod_self _]
  have e2 : sumOf (cross l) (List.range (k + 1)) = sumOf (fun i => crs l i (i + 1)) (List.range (k + 1)) := by
    refine sumOf_congr _ fun i hi => ?_
    have := List.mem_range.1 hi
    unfold cross crs nxt
    rw [hk, Nat.mod_eq_of_lt (by omega)]
  rw [e, e2, sumOf_shift (fun i => crs l i (i + 1)) k]
  have e3 : crs l (k + 1) 0 = - crs l 0 (k + 1) := by
    unfold crs
    omega
  show crs l 0 1 + sumOf (fun i => crs l (i + 1) (i + 2)) (List.range k) + crs l (k + 1) 0 = _
  omega
end Geo
end Go.Proofs.Ytnllhhamebmlnaa
