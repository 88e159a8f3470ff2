import Derived.Test.YtmajcccdbhbkfaaOvl
import Derived.Test.YtmajcccdbhbkfaaJna
namespace Go.Proofs.Ytmajcccdbhbkfaa
namespace Fl
/-- The code of a comparison of two fields. -/
def bettC (f g : List (Int × Int)) : Int := if bothC f g ≠ 0 then bothC f g else if len f = len g then 0 else 5
/-- Each unit of the first field is worth at least as much as that of the second one. -/
def overB (f g : List (Int × Int)) : Bool := decide (∀ i, i < (units f).length → (units g).getD i 0 ≤ (units f).getD i 0)
def bettB (f g : List (Int × Int)) : Bool := decide (bettC f g = 0) && overB f g
theorem bettC_bad {f g : List (Int × Int)} (h : bothC f g ≠ 0) : bettC f g = bothC f g := if_pos h
theorem bettC_len {f g : List (Int × Int)} (h : bothC f g = 0) (h2 : len f ≠ len g) : bettC f g = 5 := by
  unfold bettC; rw [if_neg (by simp [h]), if_neg h2]
theorem bettC_ok {f g : List (Int × Int)} (h : bothC f g = 0) (h2 : len f = len g) : bettC f g = 0 := by
  unfold bettC; rw [if_neg (by simp [h]), if_pos h2]
theorem bettC_inv {f g : List (Int × Int)} (h : bettC f g = 0) : bothC f g = 0 ∧ len f = len g := by
  unfold bettC at h
  by_cases h0 : bothC f g = 0
  · rw [if_neg (by simp [h0])] at h
    by_cases h1 : len f = len g
    · exact ⟨h0, h1⟩
    · rw [if_neg h1] at h; cases h
  · rw [if_pos h0] at h; exact absurd h h0
theorem bettB_no {f g : List (Int × Int)} (h : bettC f g ≠ 0) : bettB f g = false := by
  unfold bettB; simp [h]
theorem bettB_ok {f g : List (Int × Int)} (h : bettC f g = 0) : bettB f g = overB f g := by
  unfold bettB; simp [h]
theorem over_of {f g : List (Int × Int)} (hf : Ok f) (hg : Ok g) (hl : len f = len g) (h : ∀ o ∈ ovs (strips 0 f) (strips 0 g), ¬ o.2.1 < o.2.2) : overB f g = true := by
  unfold overB
  rw [decide_eq_true_eq]
  intro i hi
  have hu := units_length hf
  obtain ⟨o, ho, e1, e2⟩ := ov_units hf hg i (by omega) (by omega)
  have := h o ho
  rw [e1, e2] at this
  omega
theorem over_not {f g : List (Int × Int)} (hf : Ok f) (hg : Ok g) {o : Int × Int × Int} (ho : o ∈ ovs (strips 0 f) (strips 0 g)) (h : o.2.1 < o.2.2) : overB f g = false := by
  unfold overB
  rw [decide_eq_false_iff_not]
  intro hall
  have hu := units_length hf
  obtain ⟨i, h1, h2, e1, e2⟩ := ov_pair hf hg ho
  have := hall i (by omega)
  rw [e1, e2] at h
  omega
/-- What lies before a place, unit by unit: where no unit is below 0, it grows. -/
theorem before_nonneg {d : List Int} (hd : ∀ i, 0 ≤ d.getD i 0) {a b : Rat} (h0 : 0 ≤ a) (hab : a ≤ b) : before d a ≤ before d b := by
  have hfa := floor_nonneg h0
  have hfb := floor_nonneg (Rat.le_trans h0 hab)
  have a1 := Rat.floor_le a
  have a2 : a - 1 < (a.floor : Rat) := Rat.lt_floor
  have b1 := Rat.floor_le b
  have b2 : b - 1 < (b.floor : Rat) := Rat.lt_floor
  have hle : a.floor ≤ b.floor := Rat.le_floor_iff.2 (Rat.le_trans a1 hab)
  have hpre : ∀ k : Nat, 0 ≤ sumI ((d.drop k).take 0) := fun k => by simp [sumI]
  have hgrow : ∀ n k : Nat, sumI (d.take k) ≤ sumI (d.take (k + n)) := by
    intro n
    induction n with
    | zero => intro k; exact Int.le_refl _
    | succ n ih =>
      intro k
      have := sumI_take_any d (k + n)
      have h2 := ih k
      have h3 := hd (k + n)
      rw [show k + (n + 1) = k + n + 1 by omega]
      omega
  obtain ⟨k, hk⟩ : ∃ k : Nat, k = a.floor.toNat := ⟨_, rfl⟩
  obtain ⟨m, hm⟩ : ∃ m : Nat, m = b.floor.toNat := ⟨_, rfl⟩
  have hk2 : a.floor = (k : Int) := by omega
  have hm2 : b.floor = (m : Int) := by omega
  unfold before
  rw [← hk, ← hm, hk2, hm2]
  rw [hk2] at a1 a2
  rw [hm2] at b1 b2
  have q1 := hd k
  have q2 := hd m
  have r1 : (0 : Rat) ≤ (d.getD k 0 : Rat) := (Rat.intCast_le_intCast (a := 0)).2 q1
  have r2 : (0 : Rat) ≤ (d.getD m 0 : Rat) := (Rat.intCast_le_intCast (a := 0)).2 q2
  by_cases e : k = m
  · subst e
    have := Rat.mul_le_mul_of_nonneg_left (show a - ((k : Int) : Rat) ≤ b - ((k : Int) : Rat) by grind) r1
    grind
  · have h1 := hgrow (m - (k + 1)) (k + 1)
    rw [show k + 1 + (m - (k + 1)) = m by omega, sumI_take_any] at h1
    have h2 : ((sumI (d.take k) : Int) : Rat) + (d.getD k 0 : Rat) ≤ ((sumI (d.take m) : Int) : Rat) := by
      rw [← Rat.intCast_add]; exact Rat.intCast_le_intCast.2 h1
    have h3 := Rat.mul_le_mul_of_nonneg_left (show a - ((k : Int) : Rat) ≤ 1 by grind) r1
    have h4 := Rat.mul_nonneg r2 (show 0 ≤ b - ((m : Int) : Rat) by grind)
    grind
theorem getD_zip_sub (u v : List Int) (h : u.length = v.length) (i : Nat) : (List.zipWith (· - ·) u v).getD i 0 = u.getD i 0 - v.getD i 0 := by
  rw [List.getD_eq_getElem?_getD, List.getD_eq_getElem?_getD, List.getD_eq_getElem?_getD, List.getElem?_zipWith]
  by_cases hi : i < u.length
  · rw [List.getElem?_eq_getElem hi, List.getElem?_eq_getElem (by omega)]
    rfl
  · rw [List.getElem?_eq_none (by omega), List.getElem?_eq_none (by omega)]
    rfl
theorem sum_zip_sub (u v : List Int) (h : u.length = v.length) (k : Nat) : sumI ((List.zipWith (· - ·) u v).take k) = sumI (u.take k) - sumI (v.take k) := by
  induction k with
  | zero => simp [sumI]
  | succ k ih =>
    rw [sumI_take_any, sumI_take_any, sumI_take_any, ih, getD_zip_sub u v h]
    omega
theorem before_zip_sub (u v : List Int) (h : u.length = v.length) (x : Rat) : before (List.zipWith (· - ·) u v) x = before u x - before v x := by
  unfold before
  rw [sum_zip_sub u v h, getD_zip_sub u v h, Rat.intCast_sub, Rat.intCast_sub]
  grind
/-- Then each piece is worth no less. -/
theorem over_worth {f g : List (Int × Int)} (hf : Ok f) (hg : Ok g) (hl : len f = len g) (h : overB f g = true) {a b : Rat} (h0 : 0 ≤ a) (hab : a ≤ b) : worth g a b ≤ worth f a b := by
  have uf := units_length hf
  have ug := units_length hg
  have hlen : (units f).length = (units g).length := by omega
  unfold overB at h
  rw [decide_eq_true_eq] at h
  have hd : ∀ i, 0 ≤ (List.zipWith (· - ·) (units f) (units g)).getD i 0 := by
    intro i
    rw [getD_zip_sub _ _ hlen]
    by_cases hi : i < (units f).length
    · have := h i hi; omega
    · rw [List.getD_eq_getElem?_getD, List.getD_eq_getElem?_getD, List.getElem?_eq_none (by omega), List.getElem?_eq_none (by omega)]
      simp
  have := before_nonneg hd h0 hab
  rw [before_zip_sub _ _ hlen, before_zip_sub _ _ hlen] at this
  rw [worth_before hf h0 hab, worth_before hg h0 hab]
  grind
end Fl
end Go.Proofs.Ytmajcccdbhbkfaa
