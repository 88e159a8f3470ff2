import Derived.Test.YteecfdjphjkdkaaUd
namespace Go.Proofs.Yteecfdjphjkdkaa
open Go.RowKit
namespace Cl
noncomputable def ruleL (r : Nat) (L : List Int) (E : Int) : List Rat := if r = 0 then paL L E else if r = 1 then awL L E else if r = 2 then loL L E else coL L E
end Cl
set_option maxRecDepth 100000 in
set_option maxHeartbeats 1000000 in
theorem byPartsC (L : List Int) (E : Int) (ao : Option Addr) (n cap : Nat) (w : World) (hI : Ints w ao L) (hln : n = L.length) (hc : Cl.caseC L E = 0) :
    Calls Try.prog 17 #[.slice ao n cap, .int .i64 E] w fun e w' => ∃ ao2 cap2, e = .returned (.tuple #[.slice ao2 n cap2, .int .i64 0]) ∧ n ≤ cap2 ∧ Pts w' ao2 ((Cl.paL L E).map pr) ∧ Below w.heap.size w w' := by
  obtain ⟨a1, a2, a3⟩ := Cl.caseC_ok.1 hc
  have hl : n = (Cl.paL L E).length := by unfold Cl.paL; simp [hln]
  refine (byParts_any L E ao n cap w hI hln a1 a2 a3).mono ?_
  rintro e w1 ⟨q, v, hq, rfl, hov, hb⟩
  have he : (L.map fun c => mkRat (c * q.num) q.den) = Cl.paL L E := by
    unfold Cl.paL
    rw [hq]
    exact List.map_congr_left fun c _ => Cl.part_eq c E _ (by omega)
  rw [he] at hov
  obtain ⟨ao2, cap2, rfl, hcp, hI2⟩ := own_pts2 hov (by rw [List.length_map]; exact hl)
  exact ⟨ao2, cap2, rfl, hcp, hI2, hb⟩
set_option maxRecDepth 100000 in
set_option maxHeartbeats 1000000 in
theorem byAwardsC (L : List Int) (E : Int) (ao : Option Addr) (n cap : Nat) (w : World) (hI : Ints w ao L) (hln : n = L.length) (hc : Cl.caseC L E = 0) :
    Calls Try.prog 23 #[.slice ao n cap, .int .i64 E] w fun e w' => ∃ ao2 cap2, e = .returned (.tuple #[.slice ao2 n cap2, .int .i64 0]) ∧ n ≤ cap2 ∧ Pts w' ao2 ((Cl.awL L E).map pr) ∧ Below w.heap.size w w' := by
  obtain ⟨a1, a2, a3⟩ := Cl.caseC_ok.1 hc
  have hl : n = (Cl.awL L E).length := by unfold Cl.awL; simp [hln]
  refine (byAwards_any L E ao n cap w hI hln a1 a2 a3).mono ?_
  rintro e w1 ⟨q, v, ⟨a, d, hL, hq⟩, rfl, hov, hb⟩
  have he : (L.map fun c => mkRat (min (c * q.den) q.num) q.den) = Cl.awL L E := by
    unfold Cl.awL
    rw [hq, Cl.lvl_eq hL]
  rw [he] at hov
  obtain ⟨ao2, cap2, rfl, hcp, hI2⟩ := own_pts2 hov (by rw [List.length_map]; exact hl)
  exact ⟨ao2, cap2, rfl, hcp, hI2, hb⟩
set_option maxRecDepth 100000 in
set_option maxHeartbeats 1000000 in
theorem byLossesC (L : List Int) (E : Int) (ao : Option Addr) (n cap : Nat) (w : World) (hI : Ints w ao L) (hln : n = L.length) (hc : Cl.caseC L E = 0) :
    Calls Try.prog 25 #[.slice ao n cap, .int .i64 E] w fun e w' => ∃ ao2 cap2, e = .returned (.tuple #[.slice ao2 n cap2, .int .i64 0]) ∧ n ≤ cap2 ∧ Pts w' ao2 ((Cl.loL L E).map pr) ∧ Below w.heap.size w w' := by
  obtain ⟨a1, a2, a3⟩ := Cl.caseC_ok.1 hc
  have hl : n = (Cl.loL L E).length := by unfold Cl.loL; simp [hln]
  refine (byLosses_any L E ao n cap w hI hln a1 a2 a3).mono ?_
  rintro e w1 ⟨q, v, ⟨a, d, hL, hq⟩, rfl, hov, hb⟩
  have he : (L.map fun c => mkRat (max 0 (c * q.den - q.num)) q.den) = Cl.loL L E := by
    unfold Cl.loL
    rw [hq, Cl.lvl_eq hL]
  rw [he] at hov
  obtain ⟨ao2, cap2, rfl, hcp, hI2⟩ := own_pts2 hov (by rw [List.length_map]; exact hl)
  exact ⟨ao2, cap2, rfl, hcp, hI2, hb⟩
set_option maxRecDepth 100000 in
set_option maxHeartbeats 1000000 in
theorem byCourtC (L : List Int) (E : Int) (ao : Option Addr) (n cap : Nat) (w : World) (hI : Ints w ao L) (hln : n = L.length) (hc : Cl.caseC L E = 0) :
    Calls Try.prog 31 #[.slice ao n cap, .int .i64 E] w fun e w' => ∃ ao2 cap2, e = .returned (.tuple #[.slice ao2 n cap2, .int .i64 0]) ∧ n ≤ cap2 ∧ Pts w' ao2 ((Cl.coL L E).map pr) ∧ Below w.heap.size w w' := by
  obtain ⟨a1, a2, a3⟩ := Cl.caseC_ok.1 hc
  have hl : n = (Cl.coL L E).length := by unfold Cl.coL; split <;> simp [Cl.coLo, Cl.coHi, hln]
  by_cases h2 : 2 * E ≤ Fl.sumI L
  · have hs : Cl.coL L E = Cl.coLo L E := if_pos h2
    rw [hs] at hl ⊢
    refine (byCourtLo_any L E ao n cap w hI hln a1 a2 h2).mono ?_
    rintro e w1 ⟨q, v, ⟨a, d, hL, hq⟩, rfl, hov, hb⟩
    have he : (L.map fun c => mkRat (min (c * q.den) q.num) (2 * q.den)) = Cl.coLo L E := by
      unfold Cl.coLo
      rw [hq, Cl.lvl_eq hL]
    rw [he] at hov
    obtain ⟨ao2, cap2, rfl, hcp, hI2⟩ := own_pts2 hov (by rw [List.length_map]; exact hl)
    exact ⟨ao2, cap2, rfl, hcp, hI2, hb⟩
  · have hs : Cl.coL L E = Cl.coHi L E := if_neg h2
    rw [hs] at hl ⊢
    refine (byCourtHi_any L E ao n cap w hI hln a1 (by omega) a3 (by omega)).mono ?_
    rintro e w1 ⟨q, v, ⟨a, d, hL, hq⟩, rfl, hov, hb⟩
    have he : (L.map fun c => mkRat (c * q.den + max 0 (c * q.den - q.num)) (2 * q.den)) = Cl.coHi L E := by
      unfold Cl.coHi
      rw [show Fl.sumI L - (2 * E - Fl.sumI L) = 2 * Fl.sumI L - 2 * E by omega] at hL
      rw [hq, Cl.lvl_eq hL]
    rw [he] at hov
    obtain ⟨ao2, cap2, rfl, hcp, hI2⟩ := own_pts2 hov (by rw [List.length_map]; exact hl)
    exact ⟨ao2, cap2, rfl, hcp, hI2, hb⟩
set_option maxRecDepth 100000 in
set_option maxHeartbeats 4000000 in
theorem by_any (r : Nat) (hr : r < 4) (L : List Int) (E : Int) (ao : Option Addr) (n cap : Nat) (w : World) (hI : Ints w ao L) (hln : n = L.length) (hc : Cl.caseC L E = 0) :
    Calls Try.prog 52 #[.int .i64 r, .slice ao n cap, .int .i64 E] w fun e w' => ∃ ao2 cap2, e = .returned (.tuple #[.slice ao2 n cap2, .int .i64 0]) ∧ n ≤ cap2 ∧ Pts w' ao2 ((Cl.ruleL r L E).map pr) ∧ Below w.heap.size w w' := by
  have Hn := Lib.hid hln
  have HC := Lib.hid hc
  have hway : r = 0 ∨ r = 1 ∨ r = 2 ∨ r = 3 := by omega
  clear hln hc hr
  go_enter Try.func52, Try.ntmps52
  rcases hway with rfl | rfl | rfl | rfl
  · go_wp2_with fail
    refine (byPartsC L E ao n cap w hI Hn.out HC.out).mono ?_
    rintro e w1 ⟨ao2, cap2, rfl, h1, h2, h3⟩
    go_wp2_with fail
    go_ret2
    exact ⟨ao2, cap2, rfl, h1, h2, h3⟩
  · go_wp2_with fail
    refine (byAwardsC L E ao n cap w hI Hn.out HC.out).mono ?_
    rintro e w1 ⟨ao2, cap2, rfl, h1, h2, h3⟩
    go_wp2_with fail
    go_ret2
    exact ⟨ao2, cap2, rfl, h1, h2, h3⟩
  · go_wp2_with fail
    refine (byLossesC L E ao n cap w hI Hn.out HC.out).mono ?_
    rintro e w1 ⟨ao2, cap2, rfl, h1, h2, h3⟩
    go_wp2_with fail
    go_ret2
    exact ⟨ao2, cap2, rfl, h1, h2, h3⟩
  · go_wp2_with fail
    refine (byCourtC L E ao n cap w hI Hn.out HC.out).mono ?_
    rintro e w1 ⟨ao2, cap2, rfl, h1, h2, h3⟩
    go_wp2_with fail
    go_ret2
    exact ⟨ao2, cap2, rfl, h1, h2, h3⟩
end Go.Proofs.Yteecfdjphjkdkaa
