import Derived.Test.YtnllhhamebmlnaaRva
namespace Go.Proofs.Ytnllhhamebmlnaa
namespace Geo

theorem sq_pos {x : Int} (h : x ≠ 0) : 0 < x * x := by
  rcases Int.lt_or_gt_of_ne h with h | h
  · exact Int.mul_pos_of_neg_of_neg h h
  · exact Int.mul_pos h h
theorem sq_nn (x : Int) : 0 ≤ x * x := by
  by_cases h : x = 0
  · subst h; simp
  · exact Int.le_of_lt (sq_pos h)
/-- x lies between 0 and u. -/
def In0 (u x : Int) : Prop := min u 0 ≤ x ∧ x ≤ max u 0
theorem in0_sq {u x : Int} (h : In0 u x) : x * x ≤ u * x := by
  unfold In0 at h
  rcases Int.lt_trichotomy x 0 with hx | hx | hx
  · exact Int.mul_le_mul_of_nonpos_right (by omega) (by omega)
  · subst hx; simp
  · exact Int.mul_le_mul_of_nonneg_right (by omega) (by omega)
theorem in0_of {u v : Int} (h : 0 ≤ u * v) (ha : u.natAbs ≤ v.natAbs) : In0 v u := by
  unfold In0
  rcases Int.lt_trichotomy v 0 with hv | hv | hv
  · have hu : u ≤ 0 := by
      rcases Int.lt_or_le 0 u with h2 | h2
      · have := Int.mul_neg_of_pos_of_neg h2 hv
        omega
      · exact h2
    omega
  · subst hv
    omega
  · have hu : 0 ≤ u := by
      rcases Int.lt_or_le u 0 with h2 | h2
      · have := Int.mul_neg_of_neg_of_pos h2 hv
        omega
      · exact h2
    omega
theorem col_core {ux uy vx vy : Int} (hC : ux * vy = uy * vx) (hu : ¬ (ux = 0 ∧ uy = 0)) (hv : ¬ (vx = 0 ∧ vy = 0)) :
    (0 < ux * vx + uy * vy) ↔ ((In0 ux vx ∧ In0 uy vy) ∨ (In0 vx ux ∧ In0 vy uy)) := by
  constructor
  · intro h
    have hPR : (ux * vx) * (uy * vy) = (ux * vy) * (ux * vy) := by
      calc (ux * vx) * (uy * vy) = (ux * vy) * (uy * vx) := by
            rw [Int.mul_assoc, Int.mul_assoc, ← Int.mul_assoc vx, ← Int.mul_assoc vy, Int.mul_comm (vx * uy), Int.mul_comm vx uy, ← Int.mul_assoc vy, Int.mul_comm (vy * uy), Int.mul_comm vx (vy * uy)]
        _ = (ux * vy) * (ux * vy) := by rw [← hC]
    have hs := sq_nn (ux * vy)
    rw [← hPR] at hs
    have hP : 0 ≤ ux * vx := by
      rcases Int.lt_or_le (ux * vx) 0 with h2 | h2
      · have := Int.mul_neg_of_neg_of_pos h2 (show 0 < uy * vy by omega)
        omega
      · exact h2
    have hR : 0 ≤ uy * vy := by
      rcases Int.lt_or_le (uy * vy) 0 with h2 | h2
      · have := Int.mul_neg_of_pos_of_neg (show 0 < ux * vx by omega) h2
        omega
      · exact h2
    have hN : ux.natAbs * vy.natAbs = uy.natAbs * vx.natAbs := by rw [← Int.natAbs_mul, ← Int.natAbs_mul, hC]
    have hd : (ux.natAbs ≤ vx.natAbs ∧ uy.natAbs ≤ vy.natAbs) ∨ (vx.natAbs ≤ ux.natAbs ∧ vy.natAbs ≤ uy.natAbs) := by
      rcases Nat.lt_or_ge vx.natAbs ux.natAbs with h1 | h1
      · rcases Nat.lt_or_ge uy.natAbs vy.natAbs with h2 | h2
        · have := Nat.mul_lt_mul'' h1 h2
          rw [Nat.mul_comm vx.natAbs] at this
          omega
        · exact .inr ⟨by omega, h2⟩
      · rcases Nat.lt_or_ge vy.natAbs uy.natAbs with h2 | h2
        · rcases Nat.lt_or_ge ux.natAbs vx.natAbs with h3 | h3
          · have := Nat.mul_lt_mul'' h3 h2
            rw [Nat.mul_comm vx.natAbs] at this
            omega
          · exact .inr ⟨h3, by omega⟩
        · exact .inl ⟨h1, h2⟩
    rcases hd with ⟨h1, h2⟩ | ⟨h1, h2⟩
    · exact .inr ⟨in0_of hP h1, in0_of hR h2⟩
    · exact .inl ⟨in0_of (by rw [Int.mul_comm]; exact hP) h1, in0_of (by rw [Int.mul_comm]; exact hR) h2⟩
  · rintro (⟨h1, h2⟩ | ⟨h1, h2⟩)
    · have a := in0_sq h1
      have b := in0_sq h2
      have p := sq_nn vx
      have q := sq_nn vy
      by_cases e : vx = 0
      · have := sq_pos (x := vy) (fun h => hv ⟨e, h⟩)
        omega
      · have := sq_pos e
        omega
    · have a := in0_sq h1
      have b := in0_sq h2
      rw [Int.mul_comm vx ux] at a
      rw [Int.mul_comm vy uy] at b
      have p := sq_nn ux
      have q := sq_nn uy
      by_cases e : ux = 0
      · have := sq_pos (x := uy) (fun h => hu ⟨e, h⟩)
        omega
      · have := sq_pos e
        omega

theorem back_shift (bx b_y ux uy vx vy : Int) (hu : ¬ (ux = 0 ∧ uy = 0)) (hv : ¬ (vx = 0 ∧ vy = 0)) :
    back bx b_y (bx + ux) (b_y + uy) (bx + vx) (b_y + vy) = (has (bx + ux) (b_y + uy) bx b_y (bx + vx) (b_y + vy) || has bx b_y (bx + vx) (b_y + vy) (bx + ux) (b_y + uy)) := by
  have t1 : turn bx b_y (bx + ux) (b_y + uy) (bx + vx) (b_y + vy) = ux * vy - uy * vx := by
    unfold turn
    rw [show bx + ux - bx = ux by omega, show b_y + vy - b_y = vy by omega, show b_y + uy - b_y = uy by omega, show bx + vx - bx = vx by omega]
  have t2 : turn bx b_y (bx + vx) (b_y + vy) (bx + ux) (b_y + uy) = uy * vx - ux * vy := by
    unfold turn
    rw [show bx + ux - bx = ux by omega, show b_y + vy - b_y = vy by omega, show b_y + uy - b_y = uy by omega, show bx + vx - bx = vx by omega, Int.mul_comm vx, Int.mul_comm vy]
  have t3 : turn (bx + ux) (b_y + uy) bx b_y (bx + vx) (b_y + vy) = uy * vx - ux * vy := by
    unfold turn
    rw [show bx - (bx + ux) = -ux by omega, show b_y + vy - (b_y + uy) = vy - uy by omega, show b_y - (b_y + uy) = -uy by omega, show bx + vx - (bx + ux) = vx - ux by omega]
    simp only [Int.neg_mul, Int.mul_sub]
    rw [Int.mul_comm uy ux]
    omega
  rw [Bool.eq_iff_iff]
  unfold back has btw
  rw [t1, t2, t3, show bx + ux - bx = ux by omega, show b_y + vy - b_y = vy by omega, show b_y + uy - b_y = uy by omega, show bx + vx - bx = vx by omega]
  simp only [Bool.or_eq_true, Bool.and_eq_true, decide_eq_true_eq, beq_iff_eq]
  by_cases hC : ux * vy = uy * vx
  · have k := col_core hC hu hv
    unfold In0 at k
    constructor
    · rintro ⟨_, h⟩
      rcases k.1 h with h | h
      · left; omega
      · right; omega
    · rintro (⟨_, h⟩ | ⟨_, h⟩)
      · exact ⟨by omega, k.2 (by left; omega)⟩
      · exact ⟨by omega, k.2 (by right; omega)⟩
  · constructor
    · rintro ⟨h, _⟩; omega
    · rintro (⟨h, _⟩ | ⟨h, _⟩) <;> omega
theorem back_eq {ax ay bx b_y dx dy : Int} (hu : ¬ (ax = bx ∧ ay = b_y)) (hv : ¬ (dx = bx ∧ dy = b_y)) :
    back bx b_y ax ay dx dy = (has ax ay bx b_y dx dy || has bx b_y dx dy ax ay) := by
  have h := back_shift bx b_y (ax - bx) (ay - b_y) (dx - bx) (dy - b_y) (by omega) (by omega)
  rw [show bx + (ax - bx) = ax by omega, show b_y + (ay - b_y) = ay by omega, show bx + (dx - bx) = dx by omega, show b_y + (dy - b_y) = dy by omega] at h
  exact h
theorem meets_comm (ax ay bx b_y cx cy dx dy : Int) : meets ax ay bx b_y cx cy dx dy = meets cx cy dx dy ax ay bx b_y := by
  unfold meets
  cases has ax ay bx b_y cx cy <;> cases has ax ay bx b_y dx dy <;> cases has cx cy dx dy ax ay <;> cases has cx cy dx dy bx b_y <;> simp [Bool.and_comm]
end Geo
end Go.Proofs.Ytnllhhamebmlnaa
