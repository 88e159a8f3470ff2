import Derived.Test.YtifhkagngjinfaaHd
import Derived.Test.YtifhkagngjinfaaPc
namespace Go.Proofs.Ytifhkagngjinfaa
open Go.RowKit
namespace Cl
theorem wIt_marks {L : List Int} {E : Int} (hC : okC L = true) (h0 : 0 ≤ E) (h1 : E ≤ Fl.sumI L) (k : Nat) (hk : k ≤ wLeft L E) (i : Nat) :
    ((wIt (wDown L E, wRest L E) k).1.getD i 0 = (wDown L E).getD i 0 ∧ (wIt (wDown L E, wRest L E) k).2.getD i 0 = (wRest L E).getD i 0) ∨
    ((wIt (wDown L E, wRest L E) k).1.getD i 0 = (wDown L E).getD i 0 + 1 ∧ 1 ≤ (wRest L E).getD i 0 ∧ (wIt (wDown L E, wRest L E) k).2.getD i 0 = 0) := by
  have hl1 : 0 < L.length := (okC_iff.1 hC).1
  induction k with
  | zero => exact .inl ⟨rfl, rfl⟩
  | succ k ih =>
    have ih := ih (by omega)
    obtain ⟨i1, i2, i3⟩ := wIt_inv hC h0 h1 k (by omega)
    have hlen := wIt_len (wDown L E, wRest L E) k
    have hd1 : (wDown L E).length = L.length := by unfold wDown; simp
    have hd2 : (wRest L E).length = L.length := by unfold wRest; simp
    have hun : wIt (wDown L E, wRest L E) (k + 1) = wStep (wIt (wDown L E, wRest L E) k) := rfl
    rw [hun]
    unfold wStep
    generalize wIt (wDown L E, wRest L E) k = s at *
    obtain ⟨A, R⟩ := s
    simp only at *
    have ht := topI_spec (R := R) (by omega)
    have hpos : 0 < R.getD (topI R) 0 := by
      have : 0 < max 1 (Fl.sumI L) * ((wLeft L E : Int) - (k : Int)) := Int.mul_pos (by omega) (by omega)
      obtain ⟨x, hx, hp⟩ := pos_of_sum (R := R) (by omega)
      have := ht.2.1 x hx
      omega
    rw [gd_set _ (by omega), gd_set _ (by omega)]
    by_cases h : i = topI R
    · rw [if_pos h, if_pos h]
      rw [h] at ih ⊢
      rcases ih with ⟨h1, h2⟩ | ⟨h1, h2, h3⟩
      · exact .inr ⟨by omega, by omega, rfl⟩
      · omega
    · rw [if_neg h, if_neg h]; exact ih
theorem whole_len (L : List Int) (E : Int) : (whole L E).length = L.length := by
  unfold whole
  rw [(wIt_len _ _).1]
  unfold wDown; simp
theorem whole_good {L : List Int} {E : Int} (hC : okC L = true) (h0 : 0 ≤ E) (h1 : E ≤ Fl.sumI L) : wGood L (whole L E) E := by
  intro i hi
  have h := wIt_marks hC h0 h1 _ (Nat.le_refl _) i
  have hb := down_bounds hC h0 h1 i
  unfold whole
  omega
theorem ceil_le {c E M : Int} (hc : 0 ≤ c) (hM : 1 ≤ M) (hEM : E ≤ M) : (c * E + M - 1) / M ≤ c := by
  have p1 : c * E ≤ c * M := Int.mul_le_mul_of_nonneg_left hEM hc
  have p2 : (c * E + M - 1) / M ≤ (M - 1 + M * c) / M := Int.ediv_le_ediv (by omega) (by rw [Int.mul_comm M c]; omega)
  rw [Int.add_mul_ediv_left (M - 1) c (show M ≠ 0 by omega), Int.ediv_eq_zero_of_lt (show 0 ≤ M - 1 by omega) (show M - 1 < M by omega)] at p2
  omega
theorem whole_ok {L : List Int} {E : Int} (hC : okC L = true) (h0 : 0 ≤ E) (h1 : E ≤ Fl.sumI L) : okL 1000 (whole L E) = true := by
  rw [okL_iff]
  intro x hx
  obtain ⟨i, hi, rfl⟩ := List.mem_iff_getElem.1 hx
  have hiL : i < L.length := by rw [whole_len] at hi; exact hi
  have hg := whole_good hC h0 h1 i hiL
  have hb := down_bounds hC h0 h1 i
  have hc := (okC_iff.1 hC).2.2 _ (List.getElem_mem hiL)
  have hd := down_at (E := E) hiL
  rw [gd hi] at hg
  rw [hd.1, hd.2, ← ceil_eq _ _ (by omega)] at hg
  rw [hd.1] at hb
  refine ⟨by omega, ?_⟩
  have := ceil_le (c := L[i]) (E := E) (M := max 1 (Fl.sumI L)) hc.1 (by omega) (by omega)
  omega
def wR (L : List Int) (E : Int) : List Int := if caseC L E = 0 then whole L E else []
theorem wR_ok {L : List Int} {E : Int} (h : caseC L E = 0) : wR L E = whole L E := if_pos h
theorem wR_no {L : List Int} {E : Int} (h : caseC L E ≠ 0) : wR L E = [] := if_neg h
theorem cw_whole (L : List Int) (E : Int) : cwC L E (wR L E) = caseC L E := by
  rcases case_01 L E with h | h
  · obtain ⟨a1, a2, a3⟩ := caseC_ok.1 h
    rw [wR_ok h, cw_sum h ⟨whole_len L E, whole_ok a1 a2 a3⟩ (whole_good a1 a2 a3), if_pos (whole_sum a1 a2 a3), h]
  · rw [cw_case (by rw [h]; decide), h]
end Cl
set_option maxRecDepth 100000 in
set_option maxHeartbeats 1000000 in
theorem wholeU_any (L : List Int) (E : Int) (ao : Option Addr) (n cap : Nat) (w : World) (hI : Ints w ao L) (hln : n = L.length) (hn : n ≤ 100000) :
    Calls Try.prog 43 #[.slice ao n cap, .int .i64 E] w fun e w' => ∃ ao2 cap2, e = .returned (.tuple #[.slice ao2 (Cl.wR L E).length cap2, .int .i64 (Cl.caseC L E)]) ∧ Ints w' ao2 (Cl.wR L E) ∧ Below w.heap.size w w' := by
  rcases Cl.case_01 L E with hc | hc
  · obtain ⟨a1, a2, a3⟩ := Cl.caseC_ok.1 hc
    refine (whole_any L E ao n cap w hI hln a1 a2 a3).mono ?_
    rintro e w1 ⟨v, rfl, hov, hb⟩
    have hl : n = (Cl.whole L E).length := by rw [Cl.whole_len, hln]
    obtain ⟨ao2, cap2, rfl, -, hI2⟩ := own_ints hov hl
    rw [Cl.wR_ok hc, hc]
    exact ⟨ao2, cap2, by rw [hl], hI2, hb⟩
  · have HR : Cl.wR L E = [] := Cl.wR_no (by rw [hc]; decide)
    rw [HR, hc]
    have Hn := Lib.hid hln
    have Hc := Lib.hid hc
    clear hln hc HR
    go_enter Try.func43, Try.ntmps43
    go_wp2_with fail
    refine (validate_any L E ao n cap w hI Hn.out hn).mono ?_
    rintro e w1 ⟨rfl, hb1⟩
    rw [Hc.out]
    go_wp2_with fail
    go_ret2
    exact ⟨none, 0, rfl, ⟨fun h => by cases h⟩, hb1⟩
set_option maxRecDepth 100000 in
set_option maxHeartbeats 1000000 in
theorem rwholeU_any (L : List Int) (E : Int) (ao : Option Addr) (n cap : Nat) (w : World) (hI : Ints w ao L) (hln : n = L.length) (hn : n ≤ 100000) :
    Calls Try.prog 44 #[.slice ao n cap, .int .i64 E] w fun e w' => ∃ ao2 cap2, e = .returned (.tuple #[.slice ao2 (Cl.wR L E).length cap2, .int .i64 (Cl.caseC L E)]) ∧ Ints w' ao2 (Cl.wR L E) ∧ Below w.heap.size w w' := by
  rcases Cl.case_01 L E with hc | hc
  · obtain ⟨a1, a2, a3⟩ := Cl.caseC_ok.1 hc
    refine (rwhole_any L E ao n cap w hI hln a1 a2 a3).mono ?_
    rintro e w1 ⟨v, rfl, hov, hb⟩
    have hl : n = (Cl.whole L E).length := by rw [Cl.whole_len, hln]
    obtain ⟨ao2, cap2, rfl, -, hI2⟩ := own_ints hov hl
    rw [Cl.wR_ok hc, hc]
    exact ⟨ao2, cap2, by rw [hl], hI2, hb⟩
  · have HR : Cl.wR L E = [] := Cl.wR_no (by rw [hc]; decide)
    rw [HR, hc]
    have Hn := Lib.hid hln
    have Hc := Lib.hid hc
    have hB := Below.refl w.heap.size w
    clear hln hc HR
    go_enter Try.func44, Try.ntmps44
    go_wp2_with fail
    refine (rvalidate_any L E ao n cap w hI Hn.out hn).mono ?_
    rintro e w1 ⟨rfl, hw0⟩; obtain rfl := hw0.symm
    rw [Hc.out]
    go_wp2_with fail
    go_ret2
    exact ⟨none, 0, rfl, ⟨fun h => by cases h⟩, hB⟩
end Go.Proofs.Ytifhkagngjinfaa
