import Derived.Test.YtifhkagngjinfaaWb
namespace Go.Proofs.Ytifhkagngjinfaa
open Go.RowKit
namespace Cl
theorem ov_ls {M : Int} {L : List Int} {A : List (Int × Int)} (hl : A.length = L.length) (h : ∀ x ∈ A, 1 ≤ x.2 ∧ x.2 ∣ M) : Fl.sumI (ovL ((lsL L A).map pr) M) = Fl.sumI L * M - Fl.sumI (ovL A M) := by
  induction L generalizing A with
  | nil => cases A with
    | nil => simp [lsL, ovL, Fl.sumI]
    | cons y s => simp at hl
  | cons c r ih => cases A with
    | nil => simp at hl
    | cons x s =>
      have h1 := ih (A := s) (by simpa using hl) fun z hz => h z (List.mem_cons_of_mem _ hz)
      have h2 := h x (List.mem_cons_self ..)
      have h3 := (lsF_num (c := c) h2.1 h2.2).2
      unfold ovL lsL at h1 ⊢
      rw [List.zipWith_cons_cons, List.map_cons, List.map_cons, List.map_cons, Fl.sumI_cons, Fl.sumI_cons, Fl.sumI_cons, h1, h3, Int.add_mul]
      omega
theorem sh_ls {L : List Int} {E : Int} {A : List (Int × Int)} (h : chC L E A = 0) : Sh L (Fl.sumI L - E) ((lsL L A).map pr) := by
  obtain ⟨h0, h1, h2, h3, h4⟩ := ch_ok h
  have hC := okC_iff.1 (caseC_ok.1 h0).1
  have hlen : ((lsL L A).map pr).length = L.length := by unfold lsL; simp [List.length_zipWith, h1]
  have hget : ∀ i (hi : i < L.length) (hA : i < A.length) (hB : i < ((lsL L A).map pr).length), ((lsL L A).map pr)[i] = pr (lsF L[i] A[i]) := by
    intro i hi hA hB
    unfold lsL
    simp [List.getElem_zipWith]
  have hA1 : ∀ x ∈ A, 1 ≤ x.2 ∧ x.2 ∣ (com A : Int) := fun x hx => ⟨(rtOk_iff.1 (com_all h2 x hx)).2.2.1, com_mult h2 x hx⟩
  have hrt : ∀ x ∈ (lsL L A).map pr, rtOk x = true ∧ x.2 ∣ (com A : Int) := by
    intro x hx
    obtain ⟨i, hi, rfl⟩ := List.getElem_of_mem hx
    have hiL : i < L.length := by omega
    have hiA : i < A.length := by omega
    rw [hget i hiL hiA hi]
    have e := ch_each h hiL hiA
    have hr := rtOk_iff.1 e.1
    have b := hC.2.2 _ (List.getElem_mem hiL)
    have d := hA1 _ (List.getElem_mem hiA)
    refine ⟨?_, (lsF_num (by omega) d.2).1⟩
    have e2 := e.2
    clear e
    generalize A[i] = y at *
    generalize L[i] = c at *
    have p : c * y.2 ≤ 1000 * 10000 := Int.mul_le_mul b.2 (by omega) (by omega) (by omega)
    unfold lsF
    exact rt_mk ⟨by omega, by omega⟩ ⟨by omega, by omega⟩
  have hcom : com ((lsL L A).map pr) ≠ 0 := by
    unfold com
    refine (comF_dvd (D := com A) (Nat.one_dvd _) (Nat.le_refl 1) ⟨by omega, com_le A⟩ (fun x hx => ⟨(hrt x hx).1, ?_⟩)).1
    have e := (hrt x hx).2
    have r := rtOk_iff.1 (hrt x hx).1
    rw [show x.2 = ((x.2.toNat : Nat) : Int) by omega] at e
    exact Int.natCast_dvd_natCast.1 e
  refine ⟨hlen, hcom, fun i hi hB => ?_, com A, by omega, fun x hx => (hrt x hx).2, ?_⟩
  · have hiA : i < A.length := by omega
    rw [hget i hi hiA hB, gd hi]
    have hr := rtOk_iff.1 (ch_each h hi hiA).1
    generalize A[i] = y at *
    generalize L[i] = c at *
    obtain ⟨x1, x2⟩ := y
    simp only at hr
    obtain ⟨d, rfl⟩ := Int.eq_ofNat_of_zero_le (show 0 ≤ x2 by omega)
    unfold lsF pr
    simp only [Int.toNat_natCast]
    have hn := num_mul (c * (d : Int) - x1) d (by omega)
    generalize (mkRat (c * (d : Int) - x1) d).num = n at *
    generalize (mkRat (c * (d : Int) - x1) d).den = e at *
    have m : (c * (d : Int) - x1) * (e : Int) ≤ c * (d : Int) * (e : Int) := Int.mul_le_mul_of_nonneg_right (by omega) (by omega)
    rw [← hn, Int.mul_assoc, Int.mul_comm (d : Int), ← Int.mul_assoc] at m
    exact Int.le_of_mul_le_mul_right m (by omega)
  · rw [ov_ls h1 hA1, h4, Int.sub_mul]
theorem turn_lo {L : List Int} {E : Int} : lsL L ((loL L E).map pr) = awL L (Fl.sumI L - E) := by
  unfold awL loL
  rw [lsL_map _ _ _ (lvl L (Fl.sumI L - E)).den_pos]
  apply List.map_congr_left
  intro c _
  congr 1
  omega
theorem even_aw {L : List Int} {E : Int} {A : List (Int × Int)} (h : chC L E A = 0) : meB ((awL L E).map pr) A = true ∧ meC ((awL L E).map pr) A = 0 := even_core (ch_ok h).1 (sh_ch h)
theorem even_lo {L : List Int} {E : Int} {A : List (Int × Int)} (h : chC L E A = 0) : meB ((lsL L ((loL L E).map pr)).map pr) ((lsL L A).map pr) = true ∧ meC ((lsL L ((loL L E).map pr)).map pr) ((lsL L A).map pr) = 0 := by
  rw [turn_lo]
  exact even_core (lack_ok (ch_ok h).1) (sh_ls h)
end Cl
end Go.Proofs.Ytifhkagngjinfaa
