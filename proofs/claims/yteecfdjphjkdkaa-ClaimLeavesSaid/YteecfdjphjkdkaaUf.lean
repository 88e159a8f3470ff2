import Derived.Test.YteecfdjphjkdkaaUe
import Derived.Test.YteecfdjphjkdkaaNd
namespace Go.Proofs.Yteecfdjphjkdkaa
open Go.RowKit
namespace Cl
theorem ch_rl {L : List Int} {E : Int} (hc : caseC L E = 0) (r : Nat) : chC L E ((ruleL r L E).map pr) = 0 := by
  have h1 := ch_pa L E
  have h2 := ch_aw L E
  have h3 := ch_lo L E
  have h4 := ch_co L E
  rw [orR_ok hc, hc] at h1 h2 h3 h4
  unfold ruleL
  split
  · exact h1
  · split
    · exact h2
    · split
      · exact h3
      · exact h4
theorem rl_len (r : Nat) (L : List Int) (E : Int) : (ruleL r L E).length = L.length := by
  unfold ruleL
  split
  · simp [paL]
  · split
    · simp [awL]
    · split
      · simp [loL]
      · unfold coL; split <;> simp [coLo, coHi]
theorem map_gd {L : List Int} {k : Nat} (hk : k < L.length) (f : Int → Rat) : ((L.map f).map pr).getD k (0, 0) = pr (f L[k]) := by
  rw [List.getD_eq_getElem?_getD, List.getElem?_map, List.getElem?_map, List.getElem?_eq_getElem hk]
  rfl
theorem rl_rest {L : List Int} {E : Int} {k : Nat} (hc : caseC L E = 0) (hk : k < L.length) (h2 : 2 ≤ L.length) (r : Nat)
    (hd : (lsF E (((ruleL r L E).map pr).getD k (0, 0))).den = 1) :
    caseC (wk L k) (lsF E (((ruleL r L E).map pr).getD k (0, 0))).num = 0 ∧ ruleL r (wk L k) (lsF E (((ruleL r L E).map pr).getD k (0, 0))).num = (ruleL r L E).take k ++ (ruleL r L E).drop (k + 1) := by
  unfold ruleL at hd ⊢
  by_cases r0 : r = 0
  · simp only [if_pos r0] at hd ⊢
    have e : ((paL L E).map pr).getD k (0, 0) = pr (mkRat (L[k] * E) (max 1 (Fl.sumI L)).toNat) := by unfold paL; exact map_gd hk _
    rw [e] at hd ⊢
    exact rest_pa hc hk h2 (left_num (by omega) hd)
  · by_cases r1 : r = 1
    · simp only [if_neg r0, if_pos r1] at hd ⊢
      have e : ((awL L E).map pr).getD k (0, 0) = pr (mkRat (min (L[k] * (lvl L E).den) (lvl L E).num) (lvl L E).den) := by unfold awL; exact map_gd hk _
      rw [e] at hd ⊢
      exact rest_aw hc hk h2 (left_num (lvl L E).den_pos hd)
    · by_cases r2 : r = 2
      · simp only [if_neg r0, if_neg r1, if_pos r2] at hd ⊢
        have e : ((loL L E).map pr).getD k (0, 0) = pr (mkRat (max 0 (L[k] * (lvl L (Fl.sumI L - E)).den - (lvl L (Fl.sumI L - E)).num)) (lvl L (Fl.sumI L - E)).den) := by unfold loL; exact map_gd hk _
        rw [e] at hd ⊢
        exact rest_lo hc hk h2 (left_num (lvl L _).den_pos hd)
      · simp only [if_neg r0, if_neg r1, if_neg r2] at hd ⊢
        refine rest_co hc hk h2 (fun hb => ?_) (fun hb => ?_)
        · have n2 := (lvl L (2 * E)).den_pos
          have e : ((coL L E).map pr).getD k (0, 0) = pr (mkRat (min (L[k] * (lvl L (2 * E)).den) (lvl L (2 * E)).num) (2 * (lvl L (2 * E)).den)) := by
            unfold coL; rw [if_pos hb]; unfold coLo; exact map_gd hk _
          rw [e] at hd ⊢
          exact left_num (by omega) hd
        · have n2 := (lvl L (2 * Fl.sumI L - 2 * E)).den_pos
          have e : ((coL L E).map pr).getD k (0, 0) = pr (mkRat (L[k] * (lvl L (2 * Fl.sumI L - 2 * E)).den + max 0 (L[k] * (lvl L (2 * Fl.sumI L - 2 * E)).den - (lvl L (2 * Fl.sumI L - 2 * E)).num)) (2 * (lvl L (2 * Fl.sumI L - 2 * E)).den)) := by
            unfold coL; rw [if_neg hb]; unfold coHi; exact map_gd hk _
          rw [e] at hd ⊢
          exact left_num (by omega) hd
theorem lvQ_agg (L : List Int) (E : Int) (A : List (Int × Int)) (i : Int) : ∃ x y, lvQ L E A i = .agg #[.int .i64 x, .int .i64 y] := by
  unfold lvQ
  split
  · exact ⟨_, _, rfl⟩
  · exact ⟨0, 0, rfl⟩
theorem lvL_len (L : List Int) (E : Int) (A : List (Int × Int)) (i : Int) : (lvL L E A i).length ≤ L.length := by
  unfold lvL
  split
  · exact List.length_eraseIdx_le _ _
  · simp
end Cl
end Go.Proofs.Yteecfdjphjkdkaa
