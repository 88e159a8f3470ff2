import Derived.Test.YteecfdjphjkdkaaRb
namespace Go.Proofs.Yteecfdjphjkdkaa
open Go.RowKit
namespace Cl
theorem lsF_mk (c x : Int) (D : Nat) (hD : 0 < D) : lsF c (pr (mkRat x D)) = mkRat (c * D - x) D := by
  unfold lsF pr
  simp only [Int.toNat_natCast]
  rw [Rat.mkRat_eq_iff (mkRat x D).den_nz (by omega), Int.sub_mul, Int.sub_mul, num_mul x D hD, Int.mul_assoc, Int.mul_assoc, Int.mul_comm ((mkRat x D).den : Int) (D : Int)]
theorem lsL_map (L : List Int) (f : Int → Int) (D : Nat) (hD : 0 < D) : lsL L ((L.map fun c => mkRat (f c) D).map pr) = L.map fun c => mkRat (c * D - f c) D := by
  unfold lsL
  rw [List.map_map, List.zipWith_map_right, List.zipWith_self]
  exact List.map_congr_left fun c _ => lsF_mk c (f c) D hD
theorem lack_ok {L : List Int} {E : Int} (h : caseC L E = 0) : caseC L (Fl.sumI L - E) = 0 := by
  obtain ⟨a1, a2, a3⟩ := caseC_ok.1 h
  exact caseC_ok.2 ⟨a1, by omega, by omega⟩
theorem turn_aw {L : List Int} {E : Int} : lsL L ((awL L E).map pr) = loL L (Fl.sumI L - E) := by
  unfold awL loL
  rw [lsL_map _ _ _ (lvl L E).den_pos, show Fl.sumI L - (Fl.sumI L - E) = E by omega]
  apply List.map_congr_left
  intro c _
  congr 1
  omega
theorem sum_zero {L : List Int} (hp : ∀ c ∈ L, 0 ≤ c) (h : Fl.sumI L ≤ 0) : ∀ c ∈ L, c = 0 := by
  induction L with
  | nil => intro c hc; cases hc
  | cons x r ih =>
    have h1 := hp x (by simp)
    have h2 := sum_nonneg fun y hy => hp y (List.mem_cons_of_mem x hy)
    rw [Fl.sumI_cons] at h
    intro c hc
    rcases List.mem_cons.1 hc with rfl | hc
    · omega
    · exact ih (fun y hy => hp y (List.mem_cons_of_mem x hy)) (by omega) c hc
theorem turn_pa {L : List Int} {E : Int} (h : caseC L E = 0) : lsL L ((paL L E).map pr) = paL L (Fl.sumI L - E) := by
  obtain ⟨a1, a2, a3⟩ := caseC_ok.1 h
  have hC := okC_iff.1 a1
  unfold paL
  rw [lsL_map _ _ _ (by omega)]
  apply List.map_congr_left
  intro c hc
  congr 1
  by_cases h1 : 1 ≤ Fl.sumI L
  · rw [Int.max_eq_right h1, Int.toNat_of_nonneg (by omega), Int.mul_sub]
  · rw [sum_zero (fun c hc => (hC.2.2 c hc).1) (by omega) c hc]; simp
theorem full_level {L : List Int} {d a : Int} (h : below L a d = Fl.sumI L * d) : ∀ c ∈ L, c * d ≤ a := by
  induction L with
  | nil => intro c hc; cases hc
  | cons x r ih =>
    rw [below_cons, Fl.sumI_cons, Int.add_mul] at h
    have hm : below r a d ≤ Fl.sumI r * d := by
      clear ih h
      induction r with
      | nil => simp [below, Fl.sumI]
      | cons y t ih => rw [below_cons, Fl.sumI_cons, Int.add_mul]; omega
    intro c hc
    rcases List.mem_cons.1 hc with rfl | hc
    · omega
    · exact ih (by omega) c hc
theorem turn_co {L : List Int} {E : Int} (h : caseC L E = 0) : lsL L ((coL L E).map pr) = coL L (Fl.sumI L - E) := by
  obtain ⟨a1, a2, a3⟩ := caseC_ok.1 h
  by_cases h2 : 2 * E ≤ Fl.sumI L
  · rw [show coL L E = coLo L E from if_pos h2]
    unfold coLo
    have hd := (lvl L (2 * E)).den_pos
    rw [lsL_map _ _ _ (by omega)]
    by_cases h3 : 2 * (Fl.sumI L - E) ≤ Fl.sumI L
    · rw [show coL L (Fl.sumI L - E) = coLo L (Fl.sumI L - E) from if_pos h3]
      unfold coLo
      have e : 2 * (Fl.sumI L - E) = 2 * E := by omega
      rw [e]
      have hq := lvl_ok a1 (E := 2 * E) (by omega) (by omega)
      have hb := hq.2.2.2.2.2.1
      rw [show 2 * E = Fl.sumI L by omega] at hb
      have hf := full_level hb
      rw [show Fl.sumI L = 2 * E by omega] at hf
      apply List.map_congr_left
      intro c hc
      have := hf c hc
      congr 1
      rw [Int.min_eq_left this, Int.natCast_mul, ← Int.mul_assoc, Int.mul_comm c, Int.mul_assoc]
      show 2 * (c * ((lvl L (2 * E)).den : Int)) - _ = _
      omega
    · rw [show coL L (Fl.sumI L - E) = coHi L (Fl.sumI L - E) from if_neg h3]
      unfold coHi
      rw [show 2 * Fl.sumI L - 2 * (Fl.sumI L - E) = 2 * E by omega]
      apply List.map_congr_left
      intro c hc
      congr 1
      rw [Int.natCast_mul, ← Int.mul_assoc, Int.mul_comm c, Int.mul_assoc]
      show 2 * (c * ((lvl L (2 * E)).den : Int)) - _ = _
      omega
  · rw [show coL L E = coHi L E from if_neg h2, show coL L (Fl.sumI L - E) = coLo L (Fl.sumI L - E) from if_pos (by omega)]
    unfold coHi coLo
    have hd := (lvl L (2 * Fl.sumI L - 2 * E)).den_pos
    rw [lsL_map _ _ _ (by omega), show 2 * (Fl.sumI L - E) = 2 * Fl.sumI L - 2 * E by omega]
    apply List.map_congr_left
    intro c hc
    congr 1
    rw [Int.natCast_mul, ← Int.mul_assoc, Int.mul_comm c, Int.mul_assoc]
    show 2 * (c * ((lvl L (2 * Fl.sumI L - 2 * E)).den : Int)) - _ = _
    omega
end Cl
theorem byPartsK (L : List Int) (E : Int) (ao : Option Addr) (n cap : Nat) (w : World) (hI : Ints w ao L) (hln : n = L.length) (hn : n ≤ 100000) (hc : Cl.caseC L E = 0) :
    Calls Try.prog 17 #[.slice ao n cap, .int .i64 E] w fun e w' => ∃ ao2 cap2, e = .returned (.tuple #[.slice ao2 n cap2, .int .i64 0]) ∧ Pts w' ao2 ((Cl.paL L E).map pr) ∧ Below w.heap.size w w' := by
  have h := byPartsU L E ao n cap w hI hln hn
  have hl : (Cl.paL L E).length = n := by simp [Cl.paL, hln]
  rw [Cl.orR_ok hc, hc, hl] at h
  exact h
theorem byAwardsK (L : List Int) (E : Int) (ao : Option Addr) (n cap : Nat) (w : World) (hI : Ints w ao L) (hln : n = L.length) (hn : n ≤ 100000) (hc : Cl.caseC L E = 0) :
    Calls Try.prog 23 #[.slice ao n cap, .int .i64 E] w fun e w' => ∃ ao2 cap2, e = .returned (.tuple #[.slice ao2 n cap2, .int .i64 0]) ∧ Pts w' ao2 ((Cl.awL L E).map pr) ∧ Below w.heap.size w w' := by
  have h := byAwardsU L E ao n cap w hI hln hn
  have hl : (Cl.awL L E).length = n := by simp [Cl.awL, hln]
  rw [Cl.orR_ok hc, hc, hl] at h
  exact h
theorem byLossesK (L : List Int) (E : Int) (ao : Option Addr) (n cap : Nat) (w : World) (hI : Ints w ao L) (hln : n = L.length) (hn : n ≤ 100000) (hc : Cl.caseC L E = 0) :
    Calls Try.prog 25 #[.slice ao n cap, .int .i64 E] w fun e w' => ∃ ao2 cap2, e = .returned (.tuple #[.slice ao2 n cap2, .int .i64 0]) ∧ Pts w' ao2 ((Cl.loL L E).map pr) ∧ Below w.heap.size w w' := by
  have h := byLossesU L E ao n cap w hI hln hn
  have hl : (Cl.loL L E).length = n := by simp [Cl.loL, hln]
  rw [Cl.orR_ok hc, hc, hl] at h
  exact h
theorem byCourtK (L : List Int) (E : Int) (ao : Option Addr) (n cap : Nat) (w : World) (hI : Ints w ao L) (hln : n = L.length) (hn : n ≤ 100000) (hc : Cl.caseC L E = 0) :
    Calls Try.prog 31 #[.slice ao n cap, .int .i64 E] w fun e w' => ∃ ao2 cap2, e = .returned (.tuple #[.slice ao2 n cap2, .int .i64 0]) ∧ Pts w' ao2 ((Cl.coL L E).map pr) ∧ Below w.heap.size w w' := by
  have h := byCourtU L E ao n cap w hI hln hn
  have hl : (Cl.coL L E).length = n := by unfold Cl.coL; split <;> simp [Cl.coLo, Cl.coHi, hln]
  rw [Cl.orR_ok hc, hc, hl] at h
  exact h
theorem lossesK (L : List Int) (E : Int) (A : List (Int × Int)) (ao : Option Addr) (n cap : Nat) (aoA : Option Addr) (nA capA : Nat) (w : World) (hI : Ints w ao L) (hJ : Pts w aoA A) (hln : n = L.length) (hlA : nA = A.length) (hn : n ≤ 100000) (hnA : nA ≤ 100000) (hc : Cl.chC L E A = 0) :
    Calls Try.prog 33 #[.slice ao n cap, .int .i64 E, .slice aoA nA capA] w fun e w' => ∃ ao2 cap2, e = .returned (.tuple #[.slice ao2 n cap2, .int .i64 0]) ∧ Pts w' ao2 ((Cl.lsL L A).map pr) ∧ Below w.heap.size w w' := by
  have h := losses_any L E A ao n cap aoA nA capA w hI hJ hln hlA hn hnA
  have hl : (Cl.lsL L A).length = n := by unfold Cl.lsL; rw [List.length_zipWith, (Cl.ch_ok hc).2.1, Nat.min_self, hln]
  rw [Cl.lsR_ok hc, hc, hl] at h
  exact h
end Go.Proofs.Yteecfdjphjkdkaa
