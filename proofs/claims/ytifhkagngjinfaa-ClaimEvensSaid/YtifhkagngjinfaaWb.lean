import Derived.Test.YtifhkagngjinfaaWa
namespace Go.Proofs.Ytifhkagngjinfaa
open Go.RowKit
namespace Cl
/-- What Check says of a list, for any common denominator. -/
def Sh (L : List Int) (E : Int) (A : List (Int × Int)) : Prop := A.length = L.length ∧ com A ≠ 0 ∧ (∀ i, i < L.length → ∀ h : i < A.length, A[i].1 ≤ L.getD i 0 * A[i].2) ∧ ∃ M : Int, 1 ≤ M ∧ (∀ x ∈ A, x.2 ∣ M) ∧ Fl.sumI (ovL A M) = E * M
theorem ratio_ov {A : List (Int × Int)} {M P : Int} (h1 : ∀ x ∈ A, x.2 ∣ M) (h2 : ∀ x ∈ A, x.2 ∣ P) : Fl.sumI (ovL A M) * P = Fl.sumI (ovL A P) * M := by
  rw [← sum_mulr, ← sum_mulr, ← ovL_mul h1, ← ovL_mul h2, Int.mul_comm]
theorem sh_ch {L : List Int} {E : Int} {A : List (Int × Int)} (h : chC L E A = 0) : Sh L E A := by
  obtain ⟨h0, h1, h2, h3, h4⟩ := ch_ok h
  refine ⟨h1, h2, fun i hi hA => ?_, com A, by omega, com_mult h2, h4⟩
  rw [gd hi]
  exact (ch_each h hi hA).2
theorem even_core {L : List Int} {E : Int} (hc : caseC L E = 0) {A : List (Int × Int)} (h : Sh L E A) : meB ((awL L E).map pr) A = true ∧ meC ((awL L E).map pr) A = 0 := by
  obtain ⟨hl, hcom, hle, M, hM, hMd, hs⟩ := h
  obtain ⟨a1, a2, a3⟩ := caseC_ok.1 hc
  have hC := okC_iff.1 a1
  obtain ⟨q1, q2, q3, q4⟩ := lvl_ok a1 a2 a3
  have hdp := (lvl L E).den_pos
  unfold awL
  generalize (lvl L E).num = N at *
  generalize (lvl L E).den = D at *
  have hbel : Fl.sumI (L.map fun c => min (c * (D : Int)) N) = E * D := q4.2.2.1
  clear q4
  have hf : ∀ c ∈ L, 0 ≤ min (c * (D : Int)) N ∧ min (c * (D : Int)) N ≤ 10000000 := fun c hcL => by
    have p1 : 0 ≤ c * (D : Int) := Int.mul_nonneg (hC.2.2 c hcL).1 (by omega)
    omega
  obtain ⟨f1, f2, g, f3, f4⟩ := fit_list (f := fun c => min (c * (D : Int)) N) ⟨hdp, by omega⟩ hf
  have hal : ((L.map fun c => mkRat (min (c * (D : Int)) N) D).map pr).length = L.length := by simp
  generalize (L.map fun c => mkRat (min (c * (D : Int)) N) D).map pr = a at *
  have hok : meOk a A := ⟨by omega, by omega, f1, hcom⟩
  have hP : 1 ≤ (com a : Int) * (com A : Int) := by
    have := Int.mul_pos (show (0 : Int) < com a by omega) (show (0 : Int) < com A by omega); omega
  have hv : aX a A = L.map fun c => g c * (com A : Int) := by
    unfold aX
    rw [ovL_mul (com_mult f1), f3, List.map_map]
    rfl
  have hPd : ∀ x ∈ A, x.2 ∣ (com a : Int) * (com A : Int) := fun x hx => Int.dvd_trans (com_mult hcom x hx) (Int.dvd_mul_left _ _)
  have hgP : ∀ c ∈ L, g c * (com A : Int) * D = min (c * (D : Int)) N * ((com a : Int) * (com A : Int)) := fun c hcL => by
    have := f4 c hcL
    rw [Int.mul_right_comm, this, Int.mul_assoc]
  have hsv : Fl.sumI (aX a A) = E * ((com a : Int) * (com A : Int)) := by
    rw [hv]
    have e := sum_scale (L := L) (g := fun c => g c * (com A : Int)) (f := fun c => min (c * (D : Int)) N) (D := D) (C := (com a : Int) * (com A : Int)) hgP
    rw [hbel] at e
    refine Int.eq_of_mul_eq_mul_right (show (D : Int) ≠ 0 by omega) ?_
    rw [e, Int.mul_assoc, Int.mul_comm (D : Int), ← Int.mul_assoc]
  have hsy : Fl.sumI (bY a A) = E * ((com a : Int) * (com A : Int)) := by
    unfold bY
    have e := ratio_ov hMd hPd
    rw [hs] at e
    refine Int.eq_of_mul_eq_mul_right (show M ≠ 0 by omega) ?_
    rw [← e, Int.mul_assoc, Int.mul_comm M, ← Int.mul_assoc]
  have hss : Fl.sumI (aX a A) = Fl.sumI (bY a A) := by rw [hsv, hsy]
  refine me_yes hok ⟨by omega, hss⟩ fun k hk => ?_
  refine maj (L := L) (P := (com a : Int) * (com A : Int)) (D := D) (N := N) (by omega) ?_ ?_ ?_ (by omega) ?_ hss (by omega)
  · rw [hv]; simp
  · unfold bY; rw [ovL_len]; exact hl
  · intro i hi
    rw [hv, gd (by simpa using hi), gd hi, List.getElem_map]
    exact hgP _ (List.getElem_mem hi)
  · intro i hi
    unfold bY ovL
    have hiA : i < A.length := by omega
    rw [gd (by simpa using hiA), List.getElem_map]
    have e1 := hle i hi hiA
    have e2 := hPd _ (List.getElem_mem hiA)
    have hr := rtOk_iff.1 (com_all hcom _ (List.getElem_mem hiA))
    generalize A[i] = x at *
    generalize L.getD i 0 = c at *
    generalize (com a : Int) * (com A : Int) = P at *
    obtain ⟨t, rfl⟩ := e2
    rw [Int.mul_ediv_cancel_left _ (by omega)]
    have ht : 0 ≤ t := by
      by_cases h : 0 ≤ t
      · exact h
      · have := Int.mul_lt_mul_of_pos_left (show t < 0 by omega) (show 0 < x.2 by omega)
        omega
    have := Int.mul_le_mul_of_nonneg_right e1 ht
    rw [← Int.mul_assoc]
    exact this
theorem lsF_num {c : Int} {x : Int × Int} (hx : 1 ≤ x.2) {M : Int} (hM : x.2 ∣ M) : (pr (lsF c x)).2 ∣ M ∧ (pr (lsF c x)).1 * (M / (pr (lsF c x)).2) = c * M - x.1 * (M / x.2) := by
  obtain ⟨x1, x2⟩ := x
  simp only at hx hM ⊢
  obtain ⟨d, rfl⟩ := Int.eq_ofNat_of_zero_le (show 0 ≤ x2 by omega)
  unfold lsF pr
  simp only [Int.toNat_natCast]
  have hn := num_mul (c * (d : Int) - x1) d (by omega)
  have hd := den_dvd (c * (d : Int) - x1) d (by omega)
  have hp := (mkRat (c * (d : Int) - x1) d).den_pos
  generalize (mkRat (c * (d : Int) - x1) d).num = n at *
  generalize (mkRat (c * (d : Int) - x1) d).den = e at *
  obtain ⟨m, rfl⟩ := hM
  obtain ⟨s, rfl⟩ := hd
  refine ⟨Int.dvd_trans ⟨(s : Int), by rw [Int.natCast_mul]⟩ (Int.dvd_mul_right _ _), ?_⟩
  rw [Int.mul_ediv_cancel_left _ (by omega), Int.natCast_mul, Int.mul_assoc, Int.mul_ediv_cancel_left _ (by omega)]
  rw [Int.natCast_mul] at hn
  have h1 : n * ((s : Int)) = c * ((e : Int) * (s : Int)) - x1 := by
    refine Int.eq_of_mul_eq_mul_right (show (e : Int) ≠ 0 by omega) ?_
    rw [← hn, Int.mul_assoc, Int.mul_comm (s : Int)]
  rw [← Int.mul_assoc n, h1, Int.sub_mul, Int.mul_assoc, Int.mul_assoc]
end Cl
end Go.Proofs.Ytifhkagngjinfaa
