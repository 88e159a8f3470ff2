import Derived.Test.YtifhkagngjinfaaVc
namespace Go.Proofs.Ytifhkagngjinfaa
open Go.RowKit
namespace Cl
theorem srt_spec (L : List Int) : (srt L).Perm L ∧ Sorted (srt L) (srt L).length := by
  have hP := List.mergeSort_perm L (fun a b : Int => decide (a ≤ b))
  have hS := List.pairwise_mergeSort (le := fun a b : Int => decide (a ≤ b)) (by intro a b c h1 h2; simp only [decide_eq_true_eq] at h1 h2 ⊢; omega) (by intro a b; simp only [Bool.or_eq_true, decide_eq_true_eq]; omega) L
  have hs : Sorted (L.mergeSort (fun a b : Int => decide (a ≤ b))) (L.mergeSort (fun a b : Int => decide (a ≤ b))).length := by
    intro p q hpq hq
    have := (List.pairwise_iff_getElem.1 hS) p q (by omega) hq hpq
    rw [List.getD_eq_getElem?_getD, List.getD_eq_getElem?_getD, List.getElem?_eq_getElem hq, List.getElem?_eq_getElem (by omega)]
    simpa using this
  have := srt_eq hP hs
  rw [← this]
  exact ⟨hP, hs⟩
theorem srt_mul (L : List Int) {c : Int} (hc : 0 ≤ c) : srt (L.map (· * c)) = (srt L).map (· * c) := by
  obtain ⟨hP, hS⟩ := srt_spec L
  refine (srt_eq (hP.map _) ?_).symm
  rw [List.length_map]
  intro p q hpq hq
  have := Int.mul_le_mul_of_nonneg_right (hS p q hpq hq) hc
  rw [List.getD_eq_getElem?_getD, List.getD_eq_getElem?_getD, List.getElem?_eq_getElem hq, List.getElem?_eq_getElem (show p < (srt L).length by omega)] at this
  rw [List.getD_eq_getElem?_getD, List.getD_eq_getElem?_getD, List.getElem?_map, List.getElem?_map, List.getElem?_eq_getElem hq, List.getElem?_eq_getElem (show p < (srt L).length by omega)]
  exact this
theorem sum_mulr (L : List Int) (c : Int) : Fl.sumI (L.map (· * c)) = Fl.sumI L * c := by
  induction L with
  | nil => simp [Fl.sumI]
  | cons x r ih => rw [List.map_cons, Fl.sumI_cons, Fl.sumI_cons, ih, Int.add_mul]
theorem ovL_mul {A : List (Int × Int)} {D c : Int} (h : ∀ x ∈ A, x.2 ∣ D) : ovL A (D * c) = (ovL A D).map (· * c) := by
  unfold ovL
  rw [List.map_map]
  refine List.map_congr_left fun x hx => ?_
  simp only [Function.comp]
  rw [Int.mul_ediv_assoc' c (h x hx), Int.mul_assoc]
theorem com_mult {A : List (Int × Int)} (h : com A ≠ 0) : ∀ x ∈ A, x.2 ∣ (com A : Int) := by
  intro x hx
  have hr := rtOk_iff.1 (com_all h x hx)
  have := (comF_mult h).2 x hx
  have e : x.2 = ((x.2.toNat : Nat) : Int) := by omega
  rw [e]
  exact Int.natCast_dvd_natCast.2 this
theorem aX_srt {x y : List (Int × Int)} (h : meOk x y) : srt (aX x y) = (srt (ovL x (com x))).map (· * (com y : Int)) := by
  unfold aX
  rw [ovL_mul (com_mult h.2.2.1), srt_mul _ (by omega)]
theorem bY_srt {x y : List (Int × Int)} (h : meOk x y) : srt (bY x y) = (srt (ovL y (com y))).map (· * (com x : Int)) := by
  unfold bY
  rw [Int.mul_comm, ovL_mul (com_mult h.2.2.2), srt_mul _ (by omega)]
theorem fit_iff {x y : List (Int × Int)} (h : meOk x y) : meFit x y ↔ x.length = y.length ∧ Fl.sumI (srt (ovL x (com x))) * (com y : Int) = Fl.sumI (srt (ovL y (com y))) * (com x : Int) := by
  unfold meFit
  rw [← sum_perm (srt_spec (aX x y)).1, ← sum_perm (srt_spec (bY x y)).1, aX_srt h, bY_srt h, sum_mulr, sum_mulr]
theorem le_iff {x y : List (Int × Int)} (h : meOk x y) : meLe x y ↔ ∀ k, k < x.length → Fl.sumI ((srt (ovL y (com y))).take k) * (com x : Int) ≤ Fl.sumI ((srt (ovL x (com x))).take k) * (com y : Int) := by
  unfold meLe
  rw [aX_srt h, bY_srt h]
  have e : ∀ (L : List Int) (c : Int) (k : Nat), Fl.sumI ((L.map (· * c)).take k) = Fl.sumI (L.take k) * c := fun L c k => by rw [← List.map_take, sum_mulr]
  simp only [e]
end Cl
end Go.Proofs.Ytifhkagngjinfaa
