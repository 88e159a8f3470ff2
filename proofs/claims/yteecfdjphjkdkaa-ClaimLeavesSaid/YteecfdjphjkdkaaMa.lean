import Derived.Test.YteecfdjphjkdkaaLb
import Derived.Test.YteecfdjphjkdkaaFo
namespace Go.Proofs.Yteecfdjphjkdkaa
open Go.RowKit
namespace Cl
open Classical in
/-- The level of claims and an estate. -/
noncomputable def lvl (L : List Int) (E : Int) : Rat := if h : ∃ q : Rat, ∃ a d, LevS L E a d ∧ q = mkRat a d.toNat then h.choose else 0
theorem lvl_eq {L : List Int} {E a d : Int} (h : LevS L E a d) : mkRat a d.toNat = lvl L E := by
  have hex : ∃ q : Rat, ∃ a d, LevS L E a d ∧ q = mkRat a d.toNat := ⟨_, a, d, h, rfl⟩
  unfold lvl
  rw [dif_pos hex]
  obtain ⟨b, e, h2, hq⟩ := hex.choose_spec
  rw [hq]
  exact levS_unique h h2
theorem lvl_ok {L : List Int} {E : Int} (hC : okC L = true) (h0 : 0 ≤ E) (h1 : E ≤ Fl.sumI L) : 0 ≤ (lvl L E).num ∧ (lvl L E).num ≤ 8000 ∧ (lvl L E).den ≤ 8 ∧ Lev L E (lvl L E).num ((lvl L E).den : Int) := by
  obtain ⟨c, hc, hp⟩ := pass_exists hC h0 h1
  have h := pass_lev hC h1 hc hp
  rw [← lvl_eq h]
  exact levS_q h
noncomputable def paL (L : List Int) (E : Int) : List Rat := L.map fun c => mkRat (c * E) (max 1 (Fl.sumI L)).toNat
noncomputable def awL (L : List Int) (E : Int) : List Rat := L.map fun c => mkRat (min (c * (lvl L E).den) (lvl L E).num) (lvl L E).den
noncomputable def loL (L : List Int) (E : Int) : List Rat := L.map fun c => mkRat (max 0 (c * (lvl L (Fl.sumI L - E)).den - (lvl L (Fl.sumI L - E)).num)) (lvl L (Fl.sumI L - E)).den
noncomputable def coLo (L : List Int) (E : Int) : List Rat := L.map fun c => mkRat (min (c * (lvl L (2 * E)).den) (lvl L (2 * E)).num) (2 * (lvl L (2 * E)).den)
noncomputable def coHi (L : List Int) (E : Int) : List Rat := L.map fun c => mkRat (c * (lvl L (2 * Fl.sumI L - 2 * E)).den + max 0 (c * (lvl L (2 * Fl.sumI L - 2 * E)).den - (lvl L (2 * Fl.sumI L - 2 * E)).num)) (2 * (lvl L (2 * Fl.sumI L - 2 * E)).den)
noncomputable def coL (L : List Int) (E : Int) : List Rat := if 2 * E ≤ Fl.sumI L then coLo L E else coHi L E
/-- What a function hands back: the list, or nothing where there is an error. -/
noncomputable def orR (L : List Int) (E : Int) (X : List Rat) : List Rat := if caseC L E = 0 then X else []
theorem orR_ok {L : List Int} {E : Int} (h : caseC L E = 0) (X : List Rat) : orR L E X = X := if_pos h
theorem orR_no {L : List Int} {E : Int} (h : caseC L E ≠ 0) (X : List Rat) : orR L E X = [] := if_neg h
theorem part_eq (c E : Int) (m : Nat) (hm : 0 < m) : mkRat (c * (mkRat E m).num) (mkRat E m).den = mkRat (c * E) m := by
  have h := Rat.mkRat_self (mkRat E m)
  rw [Rat.mkRat_eq_iff (mkRat E m).den_nz (by omega)] at h
  rw [Rat.mkRat_eq_iff (mkRat E m).den_nz (by omega), Int.mul_assoc, h, Int.mul_assoc]
end Cl
set_option maxRecDepth 100000 in
set_option maxHeartbeats 1000000 in
theorem byPartsU (L : List Int) (E : Int) (ao : Option Addr) (n cap : Nat) (w : World) (hI : Ints w ao L) (hln : n = L.length) (hn : n ≤ 100000) :
    Calls Try.prog 17 #[.slice ao n cap, .int .i64 E] w fun e w' => ∃ ao2 cap2, e = .returned (.tuple #[.slice ao2 (Cl.orR L E (Cl.paL L E)).length cap2, .int .i64 (Cl.caseC L E)]) ∧ Pts w' ao2 ((Cl.orR L E (Cl.paL L E)).map pr) ∧ Below w.heap.size w w' := by
  by_cases hc : Cl.caseC L E = 0
  · obtain ⟨a1, a2, a3⟩ := Cl.caseC_ok.1 hc
    have hl : n = (Cl.paL L E).length := by unfold Cl.paL; simp [hln]
    refine (byParts_any L E ao n cap w hI hln a1 a2 a3).mono ?_
    rintro e w1 ⟨q, v, hq, rfl, hov, hb⟩
    have he : (L.map fun c => mkRat (c * q.num) q.den) = Cl.paL L E := by
      unfold Cl.paL
      rw [hq]
      exact List.map_congr_left fun c _ => Cl.part_eq c E _ (by omega)
    rw [he] at hov
    obtain ⟨ao2, cap2, rfl, -, hI2⟩ := own_pts2 hov (by rw [List.length_map]; exact hl)
    rw [Cl.orR_ok hc, hc]
    exact ⟨ao2, cap2, by rw [← hl], hI2, hb⟩
  · have hc1 : Cl.caseC L E = 1 := by unfold Cl.caseC at hc ⊢; split at hc <;> simp_all
    rw [Cl.orR_no hc, hc1]
    refine (byPartsBad_any L E ao n cap w hI hln hn hc1).mono ?_
    rintro e w1 ⟨rfl, hb⟩
    exact ⟨none, 0, rfl, ⟨fun h => by cases h⟩, hb⟩
set_option maxRecDepth 100000 in
set_option maxHeartbeats 1000000 in
theorem byAwardsU (L : List Int) (E : Int) (ao : Option Addr) (n cap : Nat) (w : World) (hI : Ints w ao L) (hln : n = L.length) (hn : n ≤ 100000) :
    Calls Try.prog 23 #[.slice ao n cap, .int .i64 E] w fun e w' => ∃ ao2 cap2, e = .returned (.tuple #[.slice ao2 (Cl.orR L E (Cl.awL L E)).length cap2, .int .i64 (Cl.caseC L E)]) ∧ Pts w' ao2 ((Cl.orR L E (Cl.awL L E)).map pr) ∧ Below w.heap.size w w' := by
  by_cases hc : Cl.caseC L E = 0
  · obtain ⟨a1, a2, a3⟩ := Cl.caseC_ok.1 hc
    have hl : n = (Cl.awL L E).length := by unfold Cl.awL; simp [hln]
    refine (byAwards_any L E ao n cap w hI hln a1 a2 a3).mono ?_
    rintro e w1 ⟨q, v, ⟨a, d, hL, hq⟩, rfl, hov, hb⟩
    have he : (L.map fun c => mkRat (min (c * q.den) q.num) q.den) = Cl.awL L E := by
      unfold Cl.awL
      rw [hq, Cl.lvl_eq hL]
    rw [he] at hov
    obtain ⟨ao2, cap2, rfl, -, hI2⟩ := own_pts2 hov (by rw [List.length_map]; exact hl)
    rw [Cl.orR_ok hc, hc]
    exact ⟨ao2, cap2, by rw [← hl], hI2, hb⟩
  · have hc1 : Cl.caseC L E = 1 := by unfold Cl.caseC at hc ⊢; split at hc <;> simp_all
    rw [Cl.orR_no hc, hc1]
    refine (byAwardsBad_any L E ao n cap w hI hln hn hc1).mono ?_
    rintro e w1 ⟨rfl, hb⟩
    exact ⟨none, 0, rfl, ⟨fun h => by cases h⟩, hb⟩
set_option maxRecDepth 100000 in
set_option maxHeartbeats 1000000 in
theorem byLossesU (L : List Int) (E : Int) (ao : Option Addr) (n cap : Nat) (w : World) (hI : Ints w ao L) (hln : n = L.length) (hn : n ≤ 100000) :
    Calls Try.prog 25 #[.slice ao n cap, .int .i64 E] w fun e w' => ∃ ao2 cap2, e = .returned (.tuple #[.slice ao2 (Cl.orR L E (Cl.loL L E)).length cap2, .int .i64 (Cl.caseC L E)]) ∧ Pts w' ao2 ((Cl.orR L E (Cl.loL L E)).map pr) ∧ Below w.heap.size w w' := by
  by_cases hc : Cl.caseC L E = 0
  · obtain ⟨a1, a2, a3⟩ := Cl.caseC_ok.1 hc
    have hl : n = (Cl.loL L E).length := by unfold Cl.loL; simp [hln]
    refine (byLosses_any L E ao n cap w hI hln a1 a2 a3).mono ?_
    rintro e w1 ⟨q, v, ⟨a, d, hL, hq⟩, rfl, hov, hb⟩
    have he : (L.map fun c => mkRat (max 0 (c * q.den - q.num)) q.den) = Cl.loL L E := by
      unfold Cl.loL
      rw [hq, Cl.lvl_eq hL]
    rw [he] at hov
    obtain ⟨ao2, cap2, rfl, -, hI2⟩ := own_pts2 hov (by rw [List.length_map]; exact hl)
    rw [Cl.orR_ok hc, hc]
    exact ⟨ao2, cap2, by rw [← hl], hI2, hb⟩
  · have hc1 : Cl.caseC L E = 1 := by unfold Cl.caseC at hc ⊢; split at hc <;> simp_all
    rw [Cl.orR_no hc, hc1]
    refine (byLossesBad_any L E ao n cap w hI hln hn hc1).mono ?_
    rintro e w1 ⟨rfl, hb⟩
    exact ⟨none, 0, rfl, ⟨fun h => by cases h⟩, hb⟩
set_option maxRecDepth 100000 in
set_option maxHeartbeats 1000000 in
theorem byCourtU (L : List Int) (E : Int) (ao : Option Addr) (n cap : Nat) (w : World) (hI : Ints w ao L) (hln : n = L.length) (hn : n ≤ 100000) :
    Calls Try.prog 31 #[.slice ao n cap, .int .i64 E] w fun e w' => ∃ ao2 cap2, e = .returned (.tuple #[.slice ao2 (Cl.orR L E (Cl.coL L E)).length cap2, .int .i64 (Cl.caseC L E)]) ∧ Pts w' ao2 ((Cl.orR L E (Cl.coL L E)).map pr) ∧ Below w.heap.size w w' := by
  by_cases hc : Cl.caseC L E = 0
  · obtain ⟨a1, a2, a3⟩ := Cl.caseC_ok.1 hc
    have hl : n = (Cl.coL L E).length := by unfold Cl.coL; split <;> simp [Cl.coLo, Cl.coHi, hln]
    by_cases h2 : 2 * E ≤ Fl.sumI L
    · have hs : Cl.coL L E = Cl.coLo L E := if_pos h2
      rw [hs] at hl ⊢
      refine (byCourtLo_any L E ao n cap w hI hln a1 a2 h2).mono ?_
      rintro e w1 ⟨q, v, ⟨a, d, hL, hq⟩, rfl, hov, hb⟩
      have he : (L.map fun c => mkRat (min (c * q.den) q.num) (2 * q.den)) = Cl.coLo L E := by
        unfold Cl.coLo
        rw [hq, Cl.lvl_eq hL]
      rw [he] at hov
      obtain ⟨ao2, cap2, rfl, -, hI2⟩ := own_pts2 hov (by rw [List.length_map]; exact hl)
      rw [Cl.orR_ok hc, hc]
      exact ⟨ao2, cap2, by rw [← hl], hI2, hb⟩
    · have hs : Cl.coL L E = Cl.coHi L E := if_neg h2
      rw [hs] at hl ⊢
      refine (byCourtHi_any L E ao n cap w hI hln a1 (by omega) a3 (by omega)).mono ?_
      rintro e w1 ⟨q, v, ⟨a, d, hL, hq⟩, rfl, hov, hb⟩
      have he : (L.map fun c => mkRat (c * q.den + max 0 (c * q.den - q.num)) (2 * q.den)) = Cl.coHi L E := by
        unfold Cl.coHi
        rw [show Fl.sumI L - (2 * E - Fl.sumI L) = 2 * Fl.sumI L - 2 * E by omega] at hL
        rw [hq, Cl.lvl_eq hL]
      rw [he] at hov
      obtain ⟨ao2, cap2, rfl, -, hI2⟩ := own_pts2 hov (by rw [List.length_map]; exact hl)
      rw [Cl.orR_ok hc, hc]
      exact ⟨ao2, cap2, by rw [← hl], hI2, hb⟩
  · have hc1 : Cl.caseC L E = 1 := by unfold Cl.caseC at hc ⊢; split at hc <;> simp_all
    rw [Cl.orR_no hc, hc1]
    refine (byCourtBad_any L E ao n cap w hI hln hn hc1).mono ?_
    rintro e w1 ⟨rfl, hb⟩
    exact ⟨none, 0, rfl, ⟨fun h => by cases h⟩, hb⟩
end Go.Proofs.Yteecfdjphjkdkaa
