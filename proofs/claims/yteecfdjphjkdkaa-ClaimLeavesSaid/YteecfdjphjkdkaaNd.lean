import Derived.Test.YteecfdjphjkdkaaNc
namespace Go.Proofs.Yteecfdjphjkdkaa
open Go.RowKit
namespace Cl
theorem den_dvd (n : Int) (D : Nat) (hD : 0 < D) : (mkRat n D).den ∣ D := by
  rw [Rat.den_mkRat, if_neg (by omega)]
  exact Nat.div_dvd_of_dvd (Nat.gcd_dvd_left _ _)
theorem num_mul (n : Int) (D : Nat) (hD : 0 < D) : (mkRat n D).num * (D : Int) = n * ((mkRat n D).den : Int) := by
  have h := Rat.mkRat_self (mkRat n D)
  rwa [Rat.mkRat_eq_iff (mkRat n D).den_nz (by omega)] at h
theorem num_bound {n : Int} {D : Nat} (hD : 0 < D) (hn : 0 ≤ n) : 0 ≤ (mkRat n D).num ∧ (mkRat n D).num ≤ n := by
  obtain ⟨m, rfl⟩ := Int.eq_ofNat_of_zero_le hn
  have h := (low_eq m D hD).1
  rw [← h]
  exact ⟨Int.ediv_nonneg (by omega) (by omega), Int.ediv_le_self _ (by omega)⟩
theorem comF_dvd {a D : Nat} {A : List (Int × Int)} (ha : a ∣ D) (ha1 : 1 ≤ a) (hD : 1 ≤ D ∧ D ≤ 10000) (h : ∀ x ∈ A, rtOk x = true ∧ x.2.toNat ∣ D) : comF a A ≠ 0 ∧ comF a A ∣ D := by
  induction A generalizing a with
  | nil => exact ⟨by simp only [comF]; omega, ha⟩
  | cons x r ih =>
    obtain ⟨h1, h2⟩ := h x (by simp)
    have hl : Nat.lcm a x.2.toNat ∣ D := Nat.lcm_dvd ha h2
    have hx := (rtOk_iff.1 h1).2.2.1
    rw [comF_ok h1 (Nat.le_trans (Nat.le_of_dvd (by omega) hl) hD.2)]
    exact ih hl (Nat.lcm_pos (by omega) (by omega)) fun y hy => h y (List.mem_cons_of_mem _ hy)
theorem comF_mult {a : Nat} {A : List (Int × Int)} (h : comF a A ≠ 0) : a ∣ comF a A ∧ ∀ x ∈ A, x.2.toNat ∣ comF a A := by
  induction A generalizing a with
  | nil => exact ⟨Nat.dvd_refl _, fun x hx => by cases hx⟩
  | cons y r ih =>
    by_cases hh : rtOk y = true ∧ Nat.lcm a y.2.toNat ≤ 10000
    · rw [comF_ok hh.1 hh.2] at h ⊢
      obtain ⟨h1, h2⟩ := ih h
      refine ⟨Nat.dvd_trans (Nat.dvd_lcm_left _ _) h1, fun x hx => ?_⟩
      rcases List.mem_cons.1 hx with rfl | hx
      · exact Nat.dvd_trans (Nat.dvd_lcm_right _ _) h1
      · exact h2 x hx
    · exact absurd (if_neg hh) h
theorem rt_mk {n : Int} {D : Nat} (hD : 1 ≤ D ∧ D ≤ 10000) (hn : 0 ≤ n ∧ n ≤ 10000000) : rtOk (pr (mkRat n D)) = true := by
  have h1 := num_bound (D := D) (by omega) hn.1
  have h2 := Nat.le_of_dvd (by omega) (den_dvd n D (by omega))
  have h3 := (mkRat n D).den_pos
  have h4 := (mkRat n D).reduced
  rw [rtOk_iff]
  unfold pr
  simp only
  refine ⟨by omega, by omega, by omega, by omega, ?_⟩
  have e : (mkRat n D).num.toNat = (mkRat n D).num.natAbs := by omega
  rw [e, Int.toNat_natCast]
  exact h4
theorem sum_scale {L : List Int} {g f : Int → Int} {D C : Int} (h : ∀ c ∈ L, g c * D = f c * C) : Fl.sumI (L.map g) * D = Fl.sumI (L.map f) * C := by
  induction L with
  | nil => simp [Fl.sumI]
  | cons c r ih =>
    rw [List.map_cons, List.map_cons, Fl.sumI_cons, Fl.sumI_cons, Int.add_mul, Int.add_mul, h c (by simp), ih fun x hx => h x (by simp [hx])]
/-- Fractions of one denominator, their common one, and what they are over it. -/
theorem fit_list {L : List Int} {f : Int → Int} {D : Nat} (hD : 1 ≤ D ∧ D ≤ 10000) (hf : ∀ c ∈ L, 0 ≤ f c ∧ f c ≤ 10000000) :
    com ((L.map fun c => mkRat (f c) D).map pr) ≠ 0 ∧ com ((L.map fun c => mkRat (f c) D).map pr) ∣ D ∧
      ∃ g : Int → Int, ovL ((L.map fun c => mkRat (f c) D).map pr) (com ((L.map fun c => mkRat (f c) D).map pr)) = L.map g ∧ ∀ c ∈ L, g c * (D : Int) = f c * (com ((L.map fun c => mkRat (f c) D).map pr) : Int) := by
  have hA : ∀ x ∈ (L.map fun c => mkRat (f c) D).map pr, rtOk x = true ∧ x.2.toNat ∣ D := by
    intro x hx
    rw [List.map_map] at hx
    obtain ⟨c, hc, rfl⟩ := List.mem_map.1 hx
    refine ⟨rt_mk hD (hf c hc), ?_⟩
    simp only [Function.comp, pr, Int.toNat_natCast]
    exact den_dvd _ _ (by omega)
  obtain ⟨h1, h2⟩ := comF_dvd (Nat.one_dvd D) (Nat.le_refl 1) hD hA
  have h3 := (comF_mult h1).2
  refine ⟨h1, h2, fun c => (mkRat (f c) D).num * ((comF 1 ((L.map fun c => mkRat (f c) D).map pr) : Int) / ((mkRat (f c) D).den : Int)), ?_, ?_⟩
  · unfold ovL com
    rw [List.map_map, List.map_map]
    rfl
  · intro c hc
    have hd : (mkRat (f c) D).den ∣ comF 1 ((L.map fun c => mkRat (f c) D).map pr) := by
      have := h3 (pr (mkRat (f c) D)) (by rw [List.map_map]; exact List.mem_map.2 ⟨c, hc, rfl⟩)
      simpa [pr] using this
    unfold com
    show (mkRat (f c) D).num * ((comF 1 ((L.map fun c => mkRat (f c) D).map pr) : Int) / ((mkRat (f c) D).den : Int)) * (D : Int) = f c * ((comF 1 ((L.map fun c => mkRat (f c) D).map pr) : Nat) : Int)
    generalize comF 1 ((L.map fun c => mkRat (f c) D).map pr) = C at hd
    obtain ⟨t, rfl⟩ := hd
    have hdp := (mkRat (f c) D).den_pos
    have hn := num_mul (f c) D (by omega)
    generalize (mkRat (f c) D).num = N at hn
    generalize (mkRat (f c) D).den = d at hn hdp
    show N * (((d * t : Nat) : Int) / (d : Int)) * (D : Int) = f c * ((d * t : Nat) : Int)
    rw [Int.natCast_mul, Int.mul_ediv_cancel_left _ (by omega), Int.mul_assoc, Int.mul_comm (t : Int), ← Int.mul_assoc, hn, Int.mul_assoc]
theorem ch_list {L : List Int} {E : Int} (hc : caseC L E = 0) {f : Int → Int} {D : Nat} (hD : 1 ≤ D ∧ D ≤ 10000) (hf : ∀ c ∈ L, 0 ≤ f c ∧ f c ≤ c * D) (hs : Fl.sumI (L.map f) = E * D) :
    chC L E ((L.map fun c => mkRat (f c) D).map pr) = 0 := by
  obtain ⟨a1, a2, a3⟩ := caseC_ok.1 hc
  have hC := okC_iff.1 a1
  have hf2 : ∀ c ∈ L, 0 ≤ f c ∧ f c ≤ 10000000 := fun c h => by
    have h1 := hf c h
    have h2 := hC.2.2 c h
    have p2 : c * (D : Int) ≤ 1000 * 10000 := Int.mul_le_mul h2.2 (by omega) (by omega) (by omega)
    omega
  obtain ⟨h1, h2, g, h3, h4⟩ := fit_list hD hf2
  have hlen : ((L.map fun c => mkRat (f c) D).map pr).length = L.length := by simp
  have hgood : chGood L ((L.map fun c => mkRat (f c) D).map pr) := by
    intro i hi
    rw [h3, gd (by simpa using hi), gd hi, List.getElem_map]
    have e := h4 _ (List.getElem_mem hi)
    have b := (hf _ (List.getElem_mem hi)).2
    generalize com ((L.map fun c => mkRat (f c) D).map pr) = C at e
    generalize L[i] = c at e b
    have m := Int.mul_le_mul_of_nonneg_right b (show 0 ≤ (C : Int) by omega)
    rw [← e] at m
    have m2 : g c * (D : Int) ≤ c * (C : Int) * (D : Int) := by rw [Int.mul_assoc c, Int.mul_comm (C : Int), ← Int.mul_assoc]; exact m
    exact Int.le_of_mul_le_mul_right m2 (by omega)
  rw [ch_sum hc ⟨hlen, h1⟩ hgood, h3]
  have e := sum_scale h4
  rw [hs] at e
  generalize com ((L.map fun c => mkRat (f c) D).map pr) = C at e ⊢
  have e2 : Fl.sumI (L.map g) * (D : Int) = E * (C : Int) * (D : Int) := by rw [e, Int.mul_assoc, Int.mul_comm (D : Int), ← Int.mul_assoc]
  rw [if_pos (Int.eq_of_mul_eq_mul_right (by omega) e2)]
theorem map_mul_sum (L : List Int) (k : Int) : Fl.sumI (L.map fun c => c * k) = Fl.sumI L * k := by
  induction L with
  | nil => simp [Fl.sumI]
  | cons c r ih => rw [List.map_cons, Fl.sumI_cons, Fl.sumI_cons, ih, Int.add_mul]
theorem max_below (L : List Int) (d a : Int) : Fl.sumI (L.map fun c => max 0 (c * d - a)) = Fl.sumI L * d - below L a d := by
  induction L with
  | nil => simp [Fl.sumI, below]
  | cons c r ih => rw [List.map_cons, Fl.sumI_cons, Fl.sumI_cons, below_cons, ih, Int.add_mul]; omega
theorem hi_below (L : List Int) (d a : Int) : Fl.sumI (L.map fun c => c * d + max 0 (c * d - a)) = 2 * (Fl.sumI L * d) - below L a d := by
  induction L with
  | nil => simp [Fl.sumI, below]
  | cons c r ih => rw [List.map_cons, Fl.sumI_cons, Fl.sumI_cons, below_cons, ih, Int.add_mul]; omega
theorem orR_ch {L : List Int} {E : Int} {X : List Rat} (h : caseC L E = 0 → chC L E (X.map pr) = 0) : chC L E ((orR L E X).map pr) = caseC L E := by
  rcases case_01 L E with hc | hc
  · rw [orR_ok hc, h hc, hc]
  · rw [ch_case (by rw [hc]; decide), hc]
theorem ch_pa (L : List Int) (E : Int) : chC L E ((orR L E (paL L E)).map pr) = caseC L E := orR_ch fun hc => by
  obtain ⟨a1, a2, a3⟩ := caseC_ok.1 hc
  have hC := okC_iff.1 a1
  have h8 := Cl.sum_small (B := 1000) (by omega) (l := L) (fun x hx => by have := hC.2.2 x hx; omega)
  refine ch_list hc (by omega) (fun c h => ?_) ?_
  · have h2 := hC.2.2 c h
    exact ⟨Int.mul_nonneg h2.1 a2, Int.mul_le_mul_of_nonneg_left (by omega) h2.1⟩
  · rw [map_mul_sum]
    by_cases h1 : 1 ≤ Fl.sumI L
    · rw [Int.max_eq_right h1, Int.toNat_of_nonneg (by omega), Int.mul_comm]
    · rw [show E = 0 by omega]; simp
theorem ch_aw (L : List Int) (E : Int) : chC L E ((orR L E (awL L E)).map pr) = caseC L E := orR_ch fun hc => by
  obtain ⟨a1, a2, a3⟩ := caseC_ok.1 hc
  have hC := okC_iff.1 a1
  have hq := lvl_ok a1 a2 a3
  have hd := (lvl L E).den_pos
  refine ch_list hc (by omega) (fun c h => ?_) hq.2.2.2.2.2.1
  have h2 := hC.2.2 c h
  have p1 : 0 ≤ c * ((lvl L E).den : Int) := Int.mul_nonneg h2.1 (by omega)
  omega
theorem ch_lo (L : List Int) (E : Int) : chC L E ((orR L E (loL L E)).map pr) = caseC L E := orR_ch fun hc => by
  obtain ⟨a1, a2, a3⟩ := caseC_ok.1 hc
  have hC := okC_iff.1 a1
  have hq := lvl_ok a1 (E := Fl.sumI L - E) (by omega) (by omega)
  have hd := (lvl L (Fl.sumI L - E)).den_pos
  refine ch_list hc (by omega) (fun c h => ?_) ?_
  · have h2 := hC.2.2 c h
    have p1 : 0 ≤ c * ((lvl L (Fl.sumI L - E)).den : Int) := Int.mul_nonneg h2.1 (by omega)
    omega
  · rw [max_below, hq.2.2.2.2.2.1, ← Int.sub_mul]; congr 1; omega
theorem ch_co (L : List Int) (E : Int) : chC L E ((orR L E (coL L E)).map pr) = caseC L E := orR_ch fun hc => by
  obtain ⟨a1, a2, a3⟩ := caseC_ok.1 hc
  have hC := okC_iff.1 a1
  by_cases h2 : 2 * E ≤ Fl.sumI L
  · rw [show coL L E = coLo L E from if_pos h2]
    have hq := lvl_ok a1 (E := 2 * E) (by omega) (by omega)
    have hd := (lvl L (2 * E)).den_pos
    refine ch_list hc (by omega) (fun c h => ?_) ?_
    · have h2 := hC.2.2 c h
      have p1 : 0 ≤ c * ((lvl L (2 * E)).den : Int) := Int.mul_nonneg h2.1 (by omega)
      have p2 : c * ((2 * (lvl L (2 * E)).den : Nat) : Int) = 2 * (c * ((lvl L (2 * E)).den : Int)) := by rw [Int.natCast_mul, ← Int.mul_assoc, Int.mul_comm c, Int.mul_assoc]; rfl
      omega
    · have e := hq.2.2.2.2.2.1
      unfold below at e
      rw [e, Int.natCast_mul, ← Int.mul_assoc, Int.mul_comm E]; rfl
  · rw [show coL L E = coHi L E from if_neg h2]
    have hq := lvl_ok a1 (E := 2 * Fl.sumI L - 2 * E) (by omega) (by omega)
    have hd := (lvl L (2 * Fl.sumI L - 2 * E)).den_pos
    refine ch_list hc (by omega) (fun c h => ?_) ?_
    · have h2 := hC.2.2 c h
      have p1 : 0 ≤ c * ((lvl L (2 * Fl.sumI L - 2 * E)).den : Int) := Int.mul_nonneg h2.1 (by omega)
      have p2 : c * ((2 * (lvl L (2 * Fl.sumI L - 2 * E)).den : Nat) : Int) = 2 * (c * ((lvl L (2 * Fl.sumI L - 2 * E)).den : Int)) := by rw [Int.natCast_mul, ← Int.mul_assoc, Int.mul_comm c, Int.mul_assoc]; rfl
      omega
    · rw [hi_below, hq.2.2.2.2.2.1, Int.natCast_mul]
      generalize ((lvl L (2 * Fl.sumI L - 2 * E)).den : Int) = d
      have e1 : (2 * Fl.sumI L - 2 * E) * d = 2 * (Fl.sumI L * d) - 2 * (E * d) := by rw [Int.sub_mul, Int.mul_assoc, Int.mul_assoc]
      have e2 : E * (((2 : Nat) : Int) * d) = 2 * (E * d) := by rw [← Int.mul_assoc, Int.mul_comm E, Int.mul_assoc]; rfl
      omega
end Cl
end Go.Proofs.Yteecfdjphjkdkaa
