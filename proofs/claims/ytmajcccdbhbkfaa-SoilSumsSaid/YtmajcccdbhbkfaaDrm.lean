import Derived.Test.YtmajcccdbhbkfaaB6
namespace Go.Proofs.Ytmajcccdbhbkfaa
namespace Fl
/-- What so many units are worth, from a whole place on. -/
def win (u : List Int) (k s : Nat) : Int := sumI (u.take (k + s)) - sumI (u.take k)
theorem sumI_take_any (u : List Int) (k : Nat) : sumI (u.take (k + 1)) = sumI (u.take k) + u.getD k 0 := by
  by_cases hk : k < u.length
  · exact sumI_take hk
  · rw [List.take_of_length_le (by omega), List.take_of_length_le (by omega), List.getD_eq_getElem?_getD, List.getElem?_eq_none (by omega)]
    simp
theorem win_next (u : List Int) (k s : Nat) : win u (k + 1) s = win u k s + (u.getD (k + s) 0 - u.getD k 0) := by
  unfold win
  rw [show k + 1 + s = k + s + 1 by omega, sumI_take_any, sumI_take_any]
  omega
theorem win_more (u : List Int) (k s : Nat) : win u k (s + 1) = win u k s + u.getD (k + s) 0 := by
  unfold win
  rw [show k + (s + 1) = k + s + 1 by omega, sumI_take_any]
  omega
theorem win_zero (u : List Int) (k : Nat) : win u k 0 = 0 := by
  unfold win
  rw [Nat.add_zero]
  omega
theorem win_bound {l : List (Int × Int)} (hok : Ok l) (k s : Nat) : 0 ≤ win (units l) k s ∧ win (units l) k s ≤ 20 * s := by
  induction s with
  | zero => rw [win_zero]; omega
  | succ s ih =>
    rw [win_more]
    have := units_at hok (k + s)
    omega
theorem floor_int (k : Int) : ((k : Int) : Rat).floor = k := by
  have h1 := Rat.floor_le (k : Rat)
  have h2 := Rat.intCast_le_intCast.1 h1
  have h3 : (k : Rat) ≤ (k : Rat) := Rat.le_refl
  have h4 := Rat.le_floor_iff.2 h3
  omega
theorem before_add (u : List Int) {x : Rat} (h : 0 ≤ x) (s : Nat) : before u (x + ((s : Int) : Rat)) = (sumI (u.take (x.floor.toNat + s)) : Rat) + (u.getD (x.floor.toNat + s) 0 : Rat) * (x - (x.floor : Rat)) := by
  have hf := floor_nonneg h
  have e : (x + ((s : Int) : Rat)).floor = x.floor + s := by
    have := floor_sub x (-(s : Int))
    rw [Rat.intCast_neg] at this
    have e2 : x - -((s : Int) : Rat) = x + ((s : Int) : Rat) := by grind
    rw [e2] at this
    omega
  unfold before
  rw [e, show (x.floor + (s : Int)).toNat = x.floor.toNat + s by omega, Rat.intCast_add]
  have e3 : x + ((s : Int) : Rat) - ((x.floor : Rat) + ((s : Int) : Rat)) = x - (x.floor : Rat) := by grind
  rw [e3]
theorem before_int (u : List Int) (k : Nat) : before u ((k : Int) : Rat) = (sumI (u.take k) : Rat) := by
  unfold before
  rw [floor_int]
  have e : ((k : Int) : Rat) - ((k : Int) : Rat) = 0 := by grind
  rw [e]
  simp
  grind
theorem worth_win {l : List (Int × Int)} (hok : Ok l) (k s : Nat) : worth l ((k : Int) : Rat) (((k : Int) + (s : Int) : Int) : Rat) = (win (units l) k s : Rat) := by
  have h1 : (0 : Rat) ≤ ((k : Int) : Rat) := by exact_mod_cast (show (0 : Int) ≤ (k : Int) by omega)
  rw [worth_before hok h1 (Rat.intCast_le_intCast.2 (by omega))]
  rw [show ((k : Int) + (s : Int) : Int) = (((k + s : Nat)) : Int) by omega, before_int, before_int]
  unfold win
  rw [Rat.intCast_sub]
/-- The best of the first windows: its place and its worth. -/
def dearI (u : List Int) (s : Nat) : Nat → Nat × Int
  | 0 => (0, win u 0 s)
  | k + 1 => if (dearI u s k).2 < win u (k + 1) s then (k + 1, win u (k + 1) s) else dearI u s k
theorem dearI_le (u : List Int) (s : Nat) {k j : Nat} (h : j ≤ k) : win u j s ≤ (dearI u s k).2 := by
  induction k with
  | zero => have : j = 0 := by omega
            subst this; exact Int.le_refl _
  | succ k ih =>
    simp only [dearI]
    by_cases e : j = k + 1
    · subst e; split <;> (try dsimp only) <;> omega
    · have := ih (by omega)
      split <;> (try dsimp only) <;> omega
theorem dearI_is (u : List Int) (s : Nat) (k : Nat) : (dearI u s k).2 = win u (dearI u s k).1 s ∧ (dearI u s k).1 ≤ k := by
  induction k with
  | zero => exact ⟨rfl, Nat.le_refl _⟩
  | succ k ih =>
    simp only [dearI]
    split
    · exact ⟨rfl, Nat.le_refl _⟩
    · exact ⟨ih.1, by omega⟩
theorem dear_eq {l : List (Int × Int)} (hok : Ok l) (s : Nat) : ∀ k : Nat, (List.range k).foldl (dearStep l (s : Int)) (0, worth l ((0 : Int) : Rat) (((s : Int) : Int) : Rat)) = (((dearI (units l) s k).1 : Int), ((dearI (units l) s k).2 : Rat)) := by
  intro k
  induction k with
  | zero =>
    have := worth_win hok 0 s
    rw [show (((0 : Nat) : Int) + (s : Int) : Int) = (s : Int) by omega] at this
    rw [List.range_zero, List.foldl_nil]
    show (0, worth l ((0 : Int) : Rat) ((s : Int) : Rat)) = ((((0 : Nat)) : Int), (win (units l) 0 s : Rat))
    rw [← this]
    rfl
  | succ k ih =>
    rw [List.range_succ, List.foldl_append, ih, List.foldl_cons, List.foldl_nil]
    unfold dearStep
    have := worth_win hok (k + 1) s
    rw [show (((k + 1 : Nat)) : Int) = (k : Int) + 1 by omega] at this
    rw [this]
    simp only [dearI]
    by_cases h : (dearI (units l) s k).2 < win (units l) (k + 1) s
    · rw [if_pos (Rat.intCast_lt_intCast.2 h), if_pos h]
      rfl
    · rw [if_neg (fun h2 => h (Rat.intCast_lt_intCast.1 h2)), if_neg h]
theorem dear_int {l : List (Int × Int)} (hok : Ok l) {s : Nat} (hs : (s : Int) ≤ len l) : dear l (s : Int) = (((dearI (units l) s ((units l).length - s)).1 : Int), ((dearI (units l) s ((units l).length - s)).2 : Rat)) := by
  unfold dear
  have := units_length hok
  rw [show (len l - (s : Int)).toNat = (units l).length - s by omega]
  exact dear_eq hok s _
theorem mix_le {S1 S0 p q f B W0 W1 : Rat} (h0 : W0 = S1 - S0) (h1 : W1 = W0 + (p - q)) (m1 : W0 * (1 - f) ≤ B * (1 - f)) (m2 : W1 * f ≤ B * f) : S1 + p * f - (S0 + q * f) ≤ B := by
  subst h0
  subst h1
  grind
/-- No piece of this length is worth more. -/
theorem dear_most {l : List (Int × Int)} (hok : Ok l) {s : Nat} {a : Rat} (h0 : 0 ≤ a) (h1 : a + ((s : Int) : Rat) ≤ (len l : Rat)) : worth l a (a + ((s : Int) : Rat)) ≤ (dear l (s : Int)).2 := by
  have hs0 : (0 : Rat) ≤ ((s : Int) : Rat) := by exact_mod_cast (show (0 : Int) ≤ (s : Int) by omega)
  have hul := units_length hok
  have hsl : (s : Int) ≤ len l := Rat.intCast_le_intCast.1 (by grind)
  rw [dear_int hok hsl]
  show _ ≤ ((dearI (units l) s ((units l).length - s)).2 : Rat)
  obtain ⟨k, hk⟩ : ∃ k : Nat, k = a.floor.toNat := ⟨_, rfl⟩
  have hf := floor_nonneg h0
  have f1 := Rat.floor_le a
  have f2 : a - 1 < (a.floor : Rat) := Rat.lt_floor
  have hk2 : a.floor = (k : Int) := by omega
  rw [worth_before hok h0 (by grind), before_add _ h0]
  unfold before
  rw [← hk, hk2]
  rw [hk2] at f1 f2
  obtain ⟨f, hfe⟩ : ∃ f, f = a - ((k : Int) : Rat) := ⟨_, rfl⟩
  rw [← hfe]
  have hf0 : 0 ≤ f := by grind
  have hf1 : f ≤ 1 := by grind
  have hw : (win (units l) k s : Rat) = (sumI ((units l).take (k + s)) : Rat) - (sumI ((units l).take k) : Rat) := by unfold win; rw [Rat.intCast_sub]
  have hw1 : (win (units l) (k + 1) s : Rat) = (win (units l) k s : Rat) + (((units l).getD (k + s) 0 : Rat) - ((units l).getD k 0 : Rat)) := by rw [win_next, Rat.intCast_add, Rat.intCast_sub]
  have hkn : k + s ≤ (units l).length := by
    have : (((k : Int) + (s : Int) : Int) : Rat) ≤ (len l : Rat) := by rw [Rat.intCast_add]; grind
    have := Rat.intCast_le_intCast.1 this
    omega
  have b0 : (win (units l) k s : Rat) ≤ ((dearI (units l) s ((units l).length - s)).2 : Rat) := Rat.intCast_le_intCast.2 (dearI_le _ _ (by omega))
  obtain ⟨B, hB⟩ : ∃ B : Rat, B = ((dearI (units l) s ((units l).length - s)).2 : Rat) := ⟨_, rfl⟩
  rw [← hB] at b0 ⊢
  obtain ⟨W0, hW0⟩ : ∃ B : Rat, B = (win (units l) k s : Rat) := ⟨_, rfl⟩
  obtain ⟨W1, hW1⟩ : ∃ B : Rat, B = (win (units l) (k + 1) s : Rat) := ⟨_, rfl⟩
  rw [← hW0] at b0 hw hw1
  rw [← hW1] at hw1
  by_cases hk1 : k + 1 + s ≤ (units l).length
  · have b1 : W1 ≤ B := by rw [hW1, hB]; exact Rat.intCast_le_intCast.2 (dearI_le _ _ (by omega))
    have m1 := Rat.mul_le_mul_of_nonneg_right b0 (show 0 ≤ 1 - f by grind)
    have m2 := Rat.mul_le_mul_of_nonneg_right b1 hf0
    exact mix_le hw hw1 m1 m2
  · have : (len l : Rat) = ((((k : Int) + (s : Int)) : Int) : Rat) := by
      rw [show (len l : Int) = (k : Int) + (s : Int) by omega]
    rw [this, Rat.intCast_add] at h1
    have hf3 : f = 0 := by grind
    rw [hf3]
    grind
end Fl
end Go.Proofs.Ytmajcccdbhbkfaa
