import Derived.Test.YtemlfklipkpacaaLj
/- Package knife: the search of the code and the one of the reference tell the same place. -/
namespace Go.Proofs.Ytemlfklipkpacaa
open Go.RowKit
namespace Fl
theorem rem_cons {a : Rat} {s zl v : Int} {r : List (Int × Int)} (h1 : 1 ≤ zl) : rem a s ((zl, v) :: r) = piece (s, s + zl, v) a ((s + zl : Int) : Rat) + rem a (s + zl) r := by
  have e : ((tot ((zl, v) :: r) : Int) : Rat) = (zl : Rat) * (v : Rat) + ((tot r : Int) : Rat) := by
    rw [← Rat.intCast_mul, ← Rat.intCast_add]; rfl
  have es : ((s + zl : Int) : Rat) = (s : Rat) + (zl : Rat) := Rat.intCast_add s zl
  have r2 : (1 : Rat) ≤ (zl : Rat) := Rat.intCast_le_intCast.2 h1
  rw [piece_tail h1]
  unfold rem
  rw [e]
  by_cases hs : (s : Rat) ≤ a
  · rw [if_pos hs]
    by_cases ht : ((s + zl : Int) : Rat) ≤ a
    · rw [if_pos ht, if_pos ht]
      have hn : ¬ a - (s : Rat) < (zl : Rat) := by grind
      have hc : cum ((zl, v) :: r) (a - (s : Rat)) = (zl : Rat) * (v : Rat) + cum r (a - (s : Rat) - (zl : Rat)) := by
        show (if a - (s : Rat) < (zl : Rat) then _ else _) = _
        rw [if_neg hn]
      rw [hc, show a - ((s + zl : Int) : Rat) = a - (s : Rat) - (zl : Rat) by grind]
      grind
    · rw [if_neg ht, if_neg ht, if_pos hs]
      have hn : a - (s : Rat) < (zl : Rat) := by grind
      have hc : cum ((zl, v) :: r) (a - (s : Rat)) = (a - (s : Rat)) * (v : Rat) := by
        show (if a - (s : Rat) < (zl : Rat) then _ else _) = _
        rw [if_pos hn]
      rw [hc]
      grind
  · rw [if_neg hs]
    have ht : ¬ ((s + zl : Int) : Rat) ≤ a := by grind
    rw [if_neg ht, if_neg ht, if_neg hs]
    grind
theorem placeO_eq {a : Rat} {l : List (Int × Int)} (hok : Ok l) : ∀ {s : Int} {w : Rat}, 0 < w → placeO s a l w = if w ≤ rem a s l then some (placeF s a l w) else none := by
  induction l with
  | nil =>
    intro s w hw
    have : ¬ w ≤ rem a s [] := by
      unfold rem
      simp only [tot, cum]
      split <;> grind
    rw [if_neg this]
    rfl
  | cons z r ih =>
    intro s w hw
    obtain ⟨zl, v⟩ := z
    have hz := hok.head
    have hr := rem_cons (a := a) (s := s) (v := v) (r := r) hz.1
    have ht : 0 ≤ rem a (s + zl) r := by
      unfold rem
      have h0 : (0 : Rat) ≤ ((tot r : Int) : Rat) := by exact_mod_cast (tot_bound hok.tail).1
      split
      · have := (cum_bound hok.tail (show 0 ≤ a - ((s + zl : Int) : Rat) by grind)).2
        grind
      · exact h0
    obtain ⟨P, hP⟩ : ∃ p, p = piece (s, s + zl, v) a ((s + zl : Int) : Rat) := ⟨_, rfl⟩
    rw [← hP] at hr
    unfold placeO placeF
    rw [← hP]
    by_cases hle : w ≤ P
    · rw [if_pos hle, if_pos hle, if_pos (by grind)]
    · rw [if_neg hle, if_neg hle, ih hok.tail (by grind)]
      by_cases h2 : w - P ≤ rem a (s + zl) r
      · rw [if_pos h2, if_pos (by grind)]
      · rw [if_neg h2, if_neg (by grind)]
end Fl
theorem placeK_reach {l : List (Int × Int)} (hok : Fl.Ok l) {a w : Rat} (h0 : 0 ≤ a) (h1 : a ≤ (Fl.len l : Rat)) (hw : 0 ≤ w) : Fl.placeK l a w = Fl.reachR (Fl.units l) a w := by
  rw [reachR_eq hok h0 h1 hw]
  have e0 : ((0 : Int) : Rat) = 0 := rfl
  have hW : Fl.worth l a (Fl.len l : Rat) = Fl.rem a 0 l := by
    rw [Fl.worth_rest hok h0 h1, Fl.before_cum hok h0]
    unfold Fl.rem
    rw [if_pos (by rw [e0]; exact h0), show a - ((0 : Int) : Rat) = a by rw [e0]; grind]
  have hW0 : 0 ≤ Fl.worth l a (Fl.len l : Rat) := by
    rw [Fl.worth_rest hok h0 h1, Fl.before_cum hok h0]
    have := (Fl.cum_bound hok h0).2
    grind
  unfold Fl.placeK Fl.place
  by_cases hz : w = 0
  · rw [if_pos hz, if_pos hz, if_neg (by grind)]
  · rw [if_neg hz, if_neg hz, Fl.placeO_eq hok (by grind), ← hW]
    by_cases h2 : w ≤ Fl.worth l a (Fl.len l : Rat)
    · rw [if_pos h2, if_neg (by grind)]
    · rw [if_neg h2, if_pos (by grind)]
end Go.Proofs.Ytemlfklipkpacaa
