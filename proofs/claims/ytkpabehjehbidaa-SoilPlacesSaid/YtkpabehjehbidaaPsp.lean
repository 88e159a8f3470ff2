import Derived.Test.YtkpabehjehbidaaRch
namespace Go.Proofs.Ytkpabehjehbidaa
namespace Fl
theorem piece_tail {s zl v : Int} {a : Rat} (h1 : 1 ≤ zl) : piece (s, s + zl, v) a ((s + zl : Int) : Rat) = if ((s + zl : Int) : Rat) ≤ a then 0 else if (s : Rat) ≤ a then (((s + zl : Int) : Rat) - a) * (v : Rat) else (((s + zl : Int) : Rat) - (s : Rat)) * (v : Rat) := by
  have r2 : (1 : Rat) ≤ (zl : Rat) := Rat.intCast_le_intCast.2 h1
  have es : ((s + zl : Int) : Rat) = (s : Rat) + (zl : Rat) := Rat.intCast_add s zl
  unfold piece
  simp only [sooner_self, later_eq]
  by_cases hge : ((s + zl : Int) : Rat) ≤ a
  · rw [if_pos hge, if_pos (by grind)]
  · rw [if_neg hge]
    by_cases hsa : (s : Rat) ≤ a
    · rw [if_pos hsa, show max a (s : Rat) = a by grind, if_neg (by grind)]
    · rw [if_neg hsa, show max a (s : Rat) = (s : Rat) by grind, if_neg (by grind)]
theorem cum_zero {l : List (Int × Int)} (hok : Ok l) : cum l 0 = 0 := by
  cases l with
  | nil => rfl
  | cons z r =>
    have r2 : (1 : Rat) ≤ (z.1 : Rat) := Rat.intCast_le_intCast.2 hok.head.1
    simp only [cum]
    rw [if_pos (by grind)]
    grind
theorem placeF_spec {a : Rat} {l : List (Int × Int)} (hok : Ok l) : ∀ {s : Int} {w : Rat}, 0 < w → w ≤ rem a s l →
    (s : Rat) ≤ placeF s a l w ∧ a ≤ placeF s a l w ∧ placeF s a l w ≤ (s : Rat) + (len l : Rat) ∧ cum l (placeF s a l w - (s : Rat)) = (if (s : Rat) ≤ a then cum l (a - (s : Rat)) else 0) + w := by
  induction l with
  | nil =>
    intro s w hw hr
    unfold rem at hr
    simp only [tot, cum] at hr
    split at hr <;> grind
  | cons z r ih =>
    intro s w hw hr
    obtain ⟨zl, v⟩ := z
    have hz := hok.head
    simp only at hz
    have r1 : (0 : Rat) ≤ (v : Rat) := by exact_mod_cast hz.2.2.1
    have r2 : (1 : Rat) ≤ (zl : Rat) := Rat.intCast_le_intCast.2 hz.1
    have e : ((tot ((zl, v) :: r) : Int) : Rat) = (zl : Rat) * (v : Rat) + ((tot r : Int) : Rat) := by
      rw [← Rat.intCast_mul, ← Rat.intCast_add]; rfl
    have el : ((len ((zl, v) :: r) : Int) : Rat) = (zl : Rat) + ((len r : Int) : Rat) := by
      rw [← Rat.intCast_add]; rfl
    have hl0 : (0 : Rat) ≤ ((len r : Int) : Rat) := by exact_mod_cast (show (0 : Int) ≤ len r by have := (len_bound hok.tail).1; omega)
    have es : ((s + zl : Int) : Rat) = (s : Rat) + (zl : Rat) := Rat.intCast_add s zl
    have c0 := cum_zero hok.tail
    have hpt := piece_tail (s := s) (v := v) (a := a) hz.1
    simp only [placeF]
    by_cases hc : w ≤ piece (s, s + zl, v) a ((s + zl : Int) : Rat)
    · rw [if_pos hc]
      rw [hpt] at hc
      by_cases hge : ((s + zl : Int) : Rat) ≤ a
      · rw [if_pos hge] at hc; grind
      · rw [if_neg hge] at hc
        have hvr : (v : Rat) ≠ 0 := by
          intro h0; rw [h0] at hc; split at hc <;> grind
        have hi := Rat.mul_inv_cancel _ hvr
        have hvp : (0 : Rat) < (v : Rat) := by grind
        have hvi : 0 < (v : Rat)⁻¹ := Rat.inv_pos.2 hvp
        have m0 : 0 ≤ w * (v : Rat)⁻¹ := Rat.mul_nonneg (by grind) (by grind)
        have mw : w * (v : Rat)⁻¹ * (v : Rat) = w := by rw [Rat.mul_assoc, Rat.mul_comm (v : Rat)⁻¹, hi, Rat.mul_one]
        obtain ⟨m, hm⟩ : ∃ m, m = w * (v : Rat)⁻¹ := ⟨_, rfl⟩
        by_cases hsa : (s : Rat) ≤ a
        · rw [if_pos hsa] at hc
          rw [later_eq, show max a (s : Rat) = a by grind, Rat.div_def, ← hm, if_pos hsa]
          rw [← hm] at m0 mw
          have hle : m ≤ ((s + zl : Int) : Rat) - a := by
            refine Rat.not_lt.1 fun hgt => ?_
            have := Rat.mul_lt_mul_of_pos_right hgt hvp
            grind
          refine ⟨by grind, by grind, by rw [el]; grind, ?_⟩
          simp only [cum]
          rw [if_pos (c := a - (s : Rat) < (zl : Rat)) (by grind)]
          by_cases hlt : a + m - (s : Rat) < (zl : Rat)
          · rw [if_pos hlt]; grind
          · rw [if_neg hlt]
            have e0 : a + m - (s : Rat) - (zl : Rat) = 0 := by grind
            rw [e0, c0]
            grind
        · rw [if_neg hsa] at hc
          rw [later_eq, show max a (s : Rat) = (s : Rat) by grind, Rat.div_def, ← hm, if_neg hsa]
          rw [← hm] at m0 mw
          have hle : m ≤ ((s + zl : Int) : Rat) - (s : Rat) := by
            refine Rat.not_lt.1 fun hgt => ?_
            have := Rat.mul_lt_mul_of_pos_right hgt hvp
            grind
          refine ⟨by grind, by grind, by rw [el]; grind, ?_⟩
          simp only [cum]
          by_cases hlt : (s : Rat) + m - (s : Rat) < (zl : Rat)
          · rw [if_pos hlt]; grind
          · rw [if_neg hlt]
            have e0 : (s : Rat) + m - (s : Rat) - (zl : Rat) = 0 := by grind
            rw [e0, c0]
            grind
    · rw [if_neg hc]
      obtain ⟨P, hP⟩ : ∃ p, p = piece (s, s + zl, v) a ((s + zl : Int) : Rat) := ⟨_, rfl⟩
      rw [← hP] at hc hpt ⊢
      have hrem : w - P ≤ rem a (s + zl) r := by
        unfold rem at hr ⊢
        by_cases hge : ((s + zl : Int) : Rat) ≤ a
        · rw [if_pos hge] at hpt
          rw [if_pos (by grind)] at hr
          simp only [cum] at hr
          rw [if_neg (by grind)] at hr
          rw [if_pos hge, hpt]
          have ea : a - ((s + zl : Int) : Rat) = a - (s : Rat) - (zl : Rat) := by rw [es]; grind
          rw [ea]; grind
        · rw [if_neg hge] at hpt
          rw [if_neg hge]
          by_cases hsa : (s : Rat) ≤ a
          · rw [if_pos hsa] at hpt hr
            simp only [cum] at hr
            rw [if_pos (by grind)] at hr
            grind
          · rw [if_neg hsa] at hpt hr
            grind
      obtain ⟨h1, h2, h3, h4⟩ := ih hok.tail (s := s + zl) (w := w - P) (by grind) hrem
      obtain ⟨p, hp⟩ : ∃ p, p = placeF (s + zl) a r (w - P) := ⟨_, rfl⟩
      rw [← hp] at h1 h2 h3 h4 ⊢
      refine ⟨by grind, h2, by rw [el]; grind, ?_⟩
      simp only [cum]
      rw [if_neg (c := p - (s : Rat) < (zl : Rat)) (by grind)]
      have ep : p - (s : Rat) - (zl : Rat) = p - ((s + zl : Int) : Rat) := by rw [es]; grind
      rw [ep, h4]
      by_cases hge : ((s + zl : Int) : Rat) ≤ a
      · rw [if_pos hge] at hpt
        rw [if_pos hge, if_pos (c := (s : Rat) ≤ a) (by grind), if_neg (c := a - (s : Rat) < (zl : Rat)) (by grind)]
        have ea : a - ((s + zl : Int) : Rat) = a - (s : Rat) - (zl : Rat) := by rw [es]; grind
        rw [ea]; grind
      · rw [if_neg hge] at hpt
        rw [if_neg hge]
        by_cases hsa : (s : Rat) ≤ a
        · rw [if_pos hsa] at hpt
          rw [if_pos hsa, if_pos (c := a - (s : Rat) < (zl : Rat)) (by grind)]
          grind
        · rw [if_neg hsa] at hpt
          rw [if_neg hsa]
          grind
/-- Up to the place of a worth it is worth so much. -/
theorem place_spec {l : List (Int × Int)} (hok : Ok l) {a w : Rat} (h0 : 0 ≤ a) (h1 : a ≤ (len l : Rat)) (hw : 0 ≤ w) (hle : w ≤ worth l a (len l : Rat)) :
    a ≤ place l a w ∧ place l a w ≤ (len l : Rat) ∧ worth l a (place l a w) = w := by
  have e0 : ((0 : Int) : Rat) = 0 := rfl
  have es : ∀ x : Rat, x - ((0 : Int) : Rat) = x := fun x => by rw [e0]; grind
  unfold place
  by_cases hz : w = 0
  · rw [if_pos hz, hz]
    exact ⟨Rat.le_refl, h1, by rw [worth_before hok h0 Rat.le_refl]; grind⟩
  · rw [if_neg hz]
    have hr : rem a 0 l = worth l a (len l : Rat) := by
      unfold rem
      rw [if_pos (by rw [e0]; exact h0), es, worth_rest hok h0 h1, before_cum hok h0]
    obtain ⟨p1, p2, p3, p4⟩ := placeF_spec (a := a) hok (s := 0) (w := w) (by grind) (by rw [hr]; exact hle)
    rw [if_pos (by rw [e0]; exact h0), es, es] at p4
    refine ⟨p2, by rw [e0] at p3; grind, ?_⟩
    rw [worth_before hok h0 p2, before_cum hok h0, before_cum hok (Rat.le_trans h0 p2), p4]
    grind
end Fl
end Go.Proofs.Ytkpabehjehbidaa
