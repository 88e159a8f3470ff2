import Derived.Test.YteecfdjphjkdkaaUc
namespace Go.Proofs.Yteecfdjphjkdkaa
open Go.RowKit
namespace Cl
theorem wk_map {α : Type} (L : List Int) (k : Nat) (f : Int → α) : (L.map f).take k ++ (L.map f).drop (k + 1) = (wk L k).map f := by
  unfold wk; rw [List.map_append, List.map_take, List.map_drop]
theorem left_num {E x : Int} {D : Nat} (hD : 0 < D) (h : (lsF E (pr (mkRat x D))).den = 1) : (lsF E (pr (mkRat x D))).num * (D : Int) = E * D - x := by
  rw [lsF_mk _ _ _ hD] at h ⊢
  have e := num_mul (E * D - x) D hD
  rw [h] at e
  simpa using e
theorem rest_aw {L : List Int} {E E' : Int} {k : Nat} (hc : caseC L E = 0) (hk : k < L.length) (h2 : 2 ≤ L.length)
    (hE : E' * ((lvl L E).den : Int) = E * ((lvl L E).den : Int) - min (L[k] * ((lvl L E).den : Int)) (lvl L E).num) : caseC (wk L k) E' = 0 ∧ awL (wk L k) E' = (awL L E).take k ++ (awL L E).drop (k + 1) := by
  obtain ⟨a1, a2, a3⟩ := caseC_ok.1 hc
  obtain ⟨t0, t1, hm⟩ := lev_rest a1 a2 a3 hk h2 hE
  refine ⟨caseC_ok.2 ⟨wk_ok hk h2 a1, t0, t1⟩, ?_⟩
  unfold awL
  rw [wk_map]
  apply List.map_congr_left
  intro c hcm
  rw [Rat.mkRat_eq_iff (lvl (wk L k) E').den_nz (lvl L E).den_nz]
  exact hm c hcm
theorem rest_lo {L : List Int} {E E' : Int} {k : Nat} (hc : caseC L E = 0) (hk : k < L.length) (h2 : 2 ≤ L.length)
    (hE : E' * ((lvl L (Fl.sumI L - E)).den : Int) = E * ((lvl L (Fl.sumI L - E)).den : Int) - max 0 (L[k] * ((lvl L (Fl.sumI L - E)).den : Int) - (lvl L (Fl.sumI L - E)).num)) : caseC (wk L k) E' = 0 ∧ loL (wk L k) E' = (loL L E).take k ++ (loL L E).drop (k + 1) := by
  obtain ⟨a1, a2, a3⟩ := caseC_ok.1 hc
  have hs := wk_sum0 hk
  obtain ⟨t0, t1, hm⟩ := lev_rest (T := Fl.sumI L - E) (T' := Fl.sumI (wk L k) - E') a1 (by omega) (by omega) hk h2 (by
    rw [show Fl.sumI (wk L k) - E' = (Fl.sumI L - E) - L[k] + (E - E') by omega, Int.add_mul, Int.sub_mul _ L[k], Int.sub_mul E E']
    omega)
  refine ⟨caseC_ok.2 ⟨wk_ok hk h2 a1, by omega, by omega⟩, ?_⟩
  unfold loL
  rw [wk_map]
  apply List.map_congr_left
  intro c hcm
  rw [Rat.mkRat_eq_iff (lvl (wk L k) _).den_nz (lvl L _).den_nz]
  have e := hm c hcm
  have f : ∀ (D N : Int), max 0 (c * D - N) = c * D - min (c * D) N := fun D N => by omega
  rw [f, f, Int.sub_mul, Int.sub_mul, e, Int.mul_assoc, Int.mul_assoc, Int.mul_comm ((lvl (wk L k) (Fl.sumI (wk L k) - E')).den : Int)]
theorem rest_co {L : List Int} {E E' : Int} {k : Nat} (hc : caseC L E = 0) (hk : k < L.length) (h2 : 2 ≤ L.length)
    (hlo : 2 * E ≤ Fl.sumI L → E' * ((2 * (lvl L (2 * E)).den : Nat) : Int) = E * ((2 * (lvl L (2 * E)).den : Nat) : Int) - min (L[k] * ((lvl L (2 * E)).den : Int)) (lvl L (2 * E)).num)
    (hhi : ¬ 2 * E ≤ Fl.sumI L → E' * ((2 * (lvl L (2 * Fl.sumI L - 2 * E)).den : Nat) : Int) = E * ((2 * (lvl L (2 * Fl.sumI L - 2 * E)).den : Nat) : Int) - (L[k] * ((lvl L (2 * Fl.sumI L - 2 * E)).den : Int) + max 0 (L[k] * ((lvl L (2 * Fl.sumI L - 2 * E)).den : Int) - (lvl L (2 * Fl.sumI L - 2 * E)).num))) :
    caseC (wk L k) E' = 0 ∧ coL (wk L k) E' = (coL L E).take k ++ (coL L E).drop (k + 1) := by
  obtain ⟨a1, a2, a3⟩ := caseC_ok.1 hc
  have hs := wk_sum0 hk
  have dd : ∀ (x : Int) (D : Nat), x * ((2 * D : Nat) : Int) = 2 * x * (D : Int) := fun x D => by push_cast; rw [← Int.mul_assoc, Int.mul_comm x 2]
  by_cases hb : 2 * E ≤ Fl.sumI L
  · have hE := hlo hb
    rw [dd, dd] at hE
    obtain ⟨t0, t1, hm⟩ := lev_rest (T := 2 * E) (T' := 2 * E') a1 (by omega) hb hk h2 hE
    refine ⟨caseC_ok.2 ⟨wk_ok hk h2 a1, by omega, by omega⟩, ?_⟩
    unfold coL
    rw [if_pos hb, if_pos t1]
    unfold coLo
    rw [wk_map]
    apply List.map_congr_left
    intro c hcm
    have n1 := (lvl (wk L k) (2 * E')).den_pos
    have n2 := (lvl L (2 * E)).den_pos
    rw [Rat.mkRat_eq_iff (by omega) (by omega), dd, dd, Int.mul_assoc, Int.mul_assoc, hm c hcm]
  · have hE := hhi hb
    rw [dd, dd] at hE
    obtain ⟨t0, t1, hm⟩ := lev_rest (T := 2 * Fl.sumI L - 2 * E) (T' := 2 * Fl.sumI (wk L k) - 2 * E') a1 (by omega) (by omega) hk h2 (by
      rw [show 2 * Fl.sumI (wk L k) - 2 * E' = (2 * Fl.sumI L - 2 * E) - 2 * L[k] + (2 * E - 2 * E') by omega, Int.add_mul, Int.sub_mul _ (2 * L[k]), Int.sub_mul (2 * E) (2 * E'), Int.mul_assoc 2 L[k]]
      omega)
    have hcs : caseC (wk L k) E' = 0 := caseC_ok.2 ⟨wk_ok hk h2 a1, by omega, by omega⟩
    refine ⟨hcs, ?_⟩
    unfold coL
    rw [if_neg hb]
    by_cases hb2 : 2 * E' ≤ Fl.sumI (wk L k)
    · rw [if_pos hb2]
      unfold coLo coHi
      rw [wk_map]
      apply List.map_congr_left
      intro c hcm
      have e0 : 2 * Fl.sumI (wk L k) - 2 * E' = 2 * E' := by omega
      have e1 : 2 * E' = Fl.sumI (wk L k) := by omega
      have hm2 := hm c hcm
      rw [e0] at hm2
      obtain ⟨q1, q2, q3, q4⟩ := lvl_ok (L := wk L k) (E := 2 * E') (wk_ok hk h2 a1) (by omega) (by omega)
      have hfull := full_level (L := wk L k) (d := ((lvl (wk L k) (2 * E')).den : Int)) (a := (lvl (wk L k) (2 * E')).num) (by rw [q4.2.2.1]; rw [e1]) c hcm
      have n1 := (lvl (wk L k) (2 * E')).den_pos
      have n2 := (lvl L (2 * Fl.sumI L - 2 * E)).den_pos
      rw [Rat.mkRat_eq_iff (by omega) (by omega), dd, dd]
      generalize (lvl (wk L k) (2 * E')).den = D' at *
      generalize (lvl (wk L k) (2 * E')).num = N' at *
      generalize (lvl L (2 * Fl.sumI L - 2 * E)).den = D at *
      generalize (lvl L (2 * Fl.sumI L - 2 * E)).num = N at *
      rw [Int.min_eq_left hfull] at hm2 ⊢
      have e2 : c * (D : Int) = min (c * (D : Int)) N := by
        refine Int.eq_of_mul_eq_mul_right (show (D' : Int) ≠ 0 by omega) ?_
        rw [← hm2, Int.mul_assoc, Int.mul_assoc, Int.mul_comm (D : Int)]
      rw [show max 0 (c * (D : Int) - N) = 0 by omega, Int.add_zero, Int.mul_assoc, Int.mul_assoc, Int.mul_assoc, Int.mul_assoc, Int.mul_comm (D : Int)]
    · rw [if_neg hb2]
      unfold coHi
      rw [wk_map]
      apply List.map_congr_left
      intro c hcm
      have n1 := (lvl (wk L k) (2 * Fl.sumI (wk L k) - 2 * E')).den_pos
      have n2 := (lvl L (2 * Fl.sumI L - 2 * E)).den_pos
      have e := hm c hcm
      rw [Rat.mkRat_eq_iff (by omega) (by omega), dd, dd]
      generalize (lvl (wk L k) (2 * Fl.sumI (wk L k) - 2 * E')).den = D' at *
      generalize (lvl (wk L k) (2 * Fl.sumI (wk L k) - 2 * E')).num = N' at *
      generalize (lvl L (2 * Fl.sumI L - 2 * E)).den = D at *
      generalize (lvl L (2 * Fl.sumI L - 2 * E)).num = N at *
      rw [show c * (D' : Int) + max 0 (c * (D' : Int) - N') = 2 * (c * (D' : Int)) - min (c * (D' : Int)) N' by omega, show c * (D : Int) + max 0 (c * (D : Int) - N) = 2 * (c * (D : Int)) - min (c * (D : Int)) N by omega]
      rw [Int.mul_assoc 2, Int.mul_assoc 2, Int.sub_mul, Int.sub_mul, e, Int.mul_assoc 2, Int.mul_assoc 2, Int.mul_assoc c, Int.mul_assoc c, Int.mul_comm (D : Int)]
theorem rest_pa {L : List Int} {E E' : Int} {k : Nat} (hc : caseC L E = 0) (hk : k < L.length) (h2 : 2 ≤ L.length)
    (hE : E' * (((max 1 (Fl.sumI L)).toNat : Nat) : Int) = E * (((max 1 (Fl.sumI L)).toNat : Nat) : Int) - L[k] * E) : caseC (wk L k) E' = 0 ∧ paL (wk L k) E' = (paL L E).take k ++ (paL L E).drop (k + 1) := by
  obtain ⟨a1, a2, a3⟩ := caseC_ok.1 hc
  have hs := wk_sum0 hk
  have hpos := (okC_iff.1 a1).2.2
  have hw0 : 0 ≤ Fl.sumI (wk L k) := by
    have h := sum_map_le (L := wk L k) (f := fun _ => 0) (g := fun c => c) (fun c hcm => (hpos c (wk_mem hcm)).1)
    have e := sum_map_mulr (wk L k) (fun _ => 0) 0
    simp only [Int.mul_zero] at e
    rw [e] at h
    simpa using h
  have hk0 := (hpos _ (List.getElem_mem hk)).1
  by_cases h1 : 1 ≤ Fl.sumI L
  · have hm : (((max 1 (Fl.sumI L)).toNat : Nat) : Int) = Fl.sumI L := by omega
    rw [hm] at hE
    have hE2 : E' * Fl.sumI L = E * Fl.sumI (wk L k) := by
      rw [hE, Int.mul_comm L[k], ← Int.mul_sub]; congr 1; omega
    have b0 : 0 ≤ E * Fl.sumI (wk L k) := Int.mul_nonneg a2 hw0
    have b1 : E * Fl.sumI (wk L k) ≤ Fl.sumI (wk L k) * Fl.sumI L := by
      rw [Int.mul_comm (Fl.sumI (wk L k))]; exact Int.mul_le_mul_of_nonneg_right a3 hw0
    have t0 : 0 ≤ E' := by
      by_cases h : 0 ≤ E'
      · exact h
      · have := Int.mul_lt_mul_of_pos_right (show E' < 0 by omega) (show (0 : Int) < Fl.sumI L by omega)
        omega
    have t1 : E' ≤ Fl.sumI (wk L k) := Int.le_of_mul_le_mul_right (by rw [hE2]; exact b1) (show (0 : Int) < Fl.sumI L by omega)
    refine ⟨caseC_ok.2 ⟨wk_ok hk h2 a1, t0, t1⟩, ?_⟩
    unfold paL
    rw [wk_map]
    apply List.map_congr_left
    intro c hcm
    rw [Rat.mkRat_eq_iff (by omega) (by omega), hm]
    by_cases h3 : 1 ≤ Fl.sumI (wk L k)
    · have hm2 : (((max 1 (Fl.sumI (wk L k))).toNat : Nat) : Int) = Fl.sumI (wk L k) := by omega
      rw [hm2, Int.mul_assoc, hE2, Int.mul_assoc]
    · have hz := sum_zero (L := wk L k) (fun x hx => (hpos x (wk_mem hx)).1) (by omega) c hcm
      rw [hz]; simp
  · have hz := sum_zero (L := L) (fun x hx => (hpos x hx).1) (by omega)
    have hz2 : L[k] = 0 := hz _ (List.getElem_mem hk)
    have hE0 : E = 0 := by omega
    have hm : (((max 1 (Fl.sumI L)).toNat : Nat) : Int) = 1 := by omega
    rw [hm, hz2, hE0] at hE
    have hE' : E' = 0 := by omega
    refine ⟨caseC_ok.2 ⟨wk_ok hk h2 a1, by omega, by omega⟩, ?_⟩
    unfold paL
    rw [wk_map]
    apply List.map_congr_left
    intro c hcm
    rw [hz c (wk_mem hcm)]
    simp
end Cl
end Go.Proofs.Yteecfdjphjkdkaa
