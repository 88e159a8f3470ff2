import Derived.Test.YtifhkagngjinfaaVd
import Derived.Test.YtifhkagngjinfaaSa
namespace Go.Proofs.Ytifhkagngjinfaa
open Go.RowKit
namespace Cl
def gap (t : Int) (Y : List Int) : Int := Fl.sumI (Y.map fun y => max 0 (t - y))
theorem gap_app (t : Int) (A B : List Int) : gap t (A ++ B) = gap t A + gap t B := by unfold gap; rw [List.map_append, Fl.sumI_app]
theorem gap_nn (t : Int) (A : List Int) : 0 ≤ gap t A := by
  induction A with
  | nil => simp [gap, Fl.sumI]
  | cons x r ih => unfold gap at ih ⊢; rw [List.map_cons, Fl.sumI_cons]; omega
theorem gap_ge (t : Int) (A : List Int) : (A.length : Int) * t - Fl.sumI A ≤ gap t A := by
  induction A with
  | nil => simp [gap, Fl.sumI]
  | cons x r ih =>
    unfold gap at ih ⊢
    rw [List.map_cons, Fl.sumI_cons, Fl.sumI_cons, List.length_cons]
    push_cast
    rw [Int.add_mul]
    omega
theorem gap_eq {t : Int} {A : List Int} (h : ∀ x ∈ A, x ≤ t) : gap t A = (A.length : Int) * t - Fl.sumI A := by
  induction A with
  | nil => simp [gap, Fl.sumI]
  | cons x r ih =>
    have h1 := ih fun z hz => h z (List.mem_cons_of_mem _ hz)
    have h2 := h x (List.mem_cons_self ..)
    unfold gap at h1 ⊢
    rw [List.map_cons, Fl.sumI_cons, Fl.sumI_cons, List.length_cons]
    push_cast
    rw [Int.add_mul]
    omega
theorem gap_zero {t : Int} {A : List Int} (h : ∀ x ∈ A, t ≤ x) : gap t A = 0 := by
  induction A with
  | nil => simp [gap, Fl.sumI]
  | cons x r ih =>
    have h1 := ih fun z hz => h z (List.mem_cons_of_mem _ hz)
    have h2 := h x (List.mem_cons_self ..)
    unfold gap at h1 ⊢
    rw [List.map_cons, Fl.sumI_cons]
    omega
theorem gap_srt (t : Int) (Y : List Int) : gap t (srt Y) = gap t Y := sum_perm ((srt_spec Y).1.map _)
theorem low_ge {Y : List Int} {k : Nat} (hk : k ≤ Y.length) (t : Int) : (k : Int) * t - gap t Y ≤ Fl.sumI ((srt Y).take k) := by
  rw [← gap_srt]
  have hl : (srt Y).length = Y.length := (srt_spec Y).1.length_eq
  have e : gap t (srt Y) = gap t ((srt Y).take k) + gap t ((srt Y).drop k) := by rw [← gap_app, List.take_append_drop]
  have h1 := gap_ge t ((srt Y).take k)
  have h2 := gap_nn t ((srt Y).drop k)
  rw [List.length_take, hl, Nat.min_eq_left hk] at h1
  omega
theorem low_eq {Y : List Int} {k : Nat} (hk : k < Y.length) (h1 : 1 ≤ k) : ∃ t, Fl.sumI ((srt Y).take k) = (k : Int) * t - gap t Y := by
  have hl : (srt Y).length = Y.length := (srt_spec Y).1.length_eq
  have hS := (srt_spec Y).2
  refine ⟨(srt Y).getD (k - 1) 0, ?_⟩
  rw [← gap_srt]
  generalize srt Y = S at hl hS ⊢
  have e : gap (S.getD (k - 1) 0) S = gap (S.getD (k - 1) 0) (S.take k) + gap (S.getD (k - 1) 0) (S.drop k) := by rw [← gap_app, List.take_append_drop]
  have e1 : gap (S.getD (k - 1) 0) (S.take k) = ((S.take k).length : Int) * S.getD (k - 1) 0 - Fl.sumI (S.take k) := gap_eq fun x hx => by
    obtain ⟨i, hi, rfl⟩ := List.getElem_of_mem hx
    rw [List.length_take] at hi
    rw [List.getElem_take, ← gd (by omega)]
    rcases Nat.lt_or_ge i (k - 1) with h | h
    · exact hS i (k - 1) h (by omega)
    · rw [show i = k - 1 by omega]; exact Int.le_refl _
  have e2 : gap (S.getD (k - 1) 0) (S.drop k) = 0 := gap_zero fun x hx => by
    obtain ⟨i, hi, rfl⟩ := List.getElem_of_mem hx
    rw [List.length_drop] at hi
    rw [List.getElem_drop, ← gd (by omega)]
    exact hS (k - 1) (k + i) (by omega) (by omega)
  rw [List.length_take, hl, Nat.min_eq_left (by omega)] at e1
  omega
theorem sum_le_get {A B : List Int} (hl : A.length = B.length) (h : ∀ i, i < A.length → A.getD i 0 ≤ B.getD i 0) : Fl.sumI A ≤ Fl.sumI B := by
  induction A generalizing B with
  | nil => cases B with
    | nil => exact Int.le_refl _
    | cons y s => simp at hl
  | cons x r ih => cases B with
    | nil => simp at hl
    | cons y s =>
      rw [Fl.sumI_cons, Fl.sumI_cons]
      have h0 := h 0 (by simp)
      have h1 := ih (B := s) (by simpa using hl) fun i hi => by have := h (i + 1) (by simpa using hi); simpa using this
      simp at h0
      omega
theorem gap_le {v y L : List Int} {P D N : Int} (hD : 1 ≤ D) (hlv : v.length = L.length) (hly : y.length = L.length)
    (hv : ∀ i, i < L.length → v.getD i 0 * D = min (L.getD i 0 * D) N * P) (hP : 0 ≤ P) (hy : ∀ i, i < L.length → y.getD i 0 ≤ L.getD i 0 * P) (hs : Fl.sumI v = Fl.sumI y) (t : Int) : gap t v ≤ gap t y := by
  by_cases ht : t * D ≤ N * P
  · unfold gap
    refine sum_le_get (by simp [hlv, hly]) fun i hi => ?_
    rw [List.length_map] at hi
    rw [gd (by simpa using hi), gd (by rw [List.length_map]; omega), List.getElem_map, List.getElem_map, ← gd hi, ← gd (by omega)]
    have a1 := hv i (by omega)
    have a2 := hy i (by omega)
    generalize v.getD i 0 = a at a1 ⊢
    generalize y.getD i 0 = b at a2 ⊢
    generalize L.getD i 0 = c at a1 a2
    by_cases h : t ≤ a
    · omega
    · have h3 : a * D < t * D := Int.mul_lt_mul_of_pos_right (by omega) (by omega)
      by_cases h4 : c * D ≤ N
      · rw [Int.min_eq_left h4] at a1
        have h5 : a * D = c * P * D := by rw [a1, Int.mul_assoc, Int.mul_comm D, Int.mul_assoc]
        have h6 : a = c * P := Int.eq_of_mul_eq_mul_right (by omega) h5
        omega
      · rw [Int.min_eq_right (by omega)] at a1
        omega
  · have h1 : ∀ x ∈ v, x ≤ t := by
      intro x hx
      obtain ⟨i, hi, rfl⟩ := List.getElem_of_mem hx
      have a1 := hv i (by omega)
      rw [gd hi] at a1
      have a2 : min (L.getD i 0 * D) N * P ≤ N * P := Int.mul_le_mul_of_nonneg_right (Int.min_le_right _ _) hP
      have a3 : v[i] * D < t * D := by omega
      have := Int.lt_of_mul_lt_mul_right a3 (by omega)
      omega
    have h2 := gap_ge t y
    rw [gap_eq h1, hs, hlv]
    rw [hly] at h2
    exact h2
theorem maj {v y L : List Int} {P D N : Int} (hD : 1 ≤ D) (hlv : v.length = L.length) (hly : y.length = L.length)
    (hv : ∀ i, i < L.length → v.getD i 0 * D = min (L.getD i 0 * D) N * P) (hP : 0 ≤ P) (hy : ∀ i, i < L.length → y.getD i 0 ≤ L.getD i 0 * P) (hs : Fl.sumI v = Fl.sumI y) {k : Nat} (hk : k < L.length) :
    Fl.sumI ((srt y).take k) ≤ Fl.sumI ((srt v).take k) := by
  by_cases h0 : 1 ≤ k
  · obtain ⟨t, ht⟩ := low_eq (Y := y) (by omega) h0
    have h1 := low_ge (Y := v) (k := k) (by omega) t
    have h2 := gap_le hD hlv hly hv hP hy hs t
    omega
  · rw [show k = 0 by omega]
    simp [Fl.sumI]
end Cl
end Go.Proofs.Ytifhkagngjinfaa
