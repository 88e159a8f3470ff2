import Derived.Test.YtifhkagngjinfaaNd
import Derived.Test.YtifhkagngjinfaaLg
namespace Go.Proofs.Ytifhkagngjinfaa
open Go.RowKit
theorem orR_len_paL (L : List Int) (E : Int) : (Cl.orR L E (Cl.paL L E)).length ≤ 8 := by
  by_cases hc : Cl.caseC L E = 0
  · rw [Cl.orR_ok hc]
    have h := (Cl.okC_iff.1 (Cl.caseC_ok.1 hc).1).2.1
    unfold Cl.paL
    simpa using h
  · rw [Cl.orR_no hc]; simp
theorem orR_len_awL (L : List Int) (E : Int) : (Cl.orR L E (Cl.awL L E)).length ≤ 8 := by
  by_cases hc : Cl.caseC L E = 0
  · rw [Cl.orR_ok hc]
    have h := (Cl.okC_iff.1 (Cl.caseC_ok.1 hc).1).2.1
    unfold Cl.awL
    simpa using h
  · rw [Cl.orR_no hc]; simp
theorem orR_len_loL (L : List Int) (E : Int) : (Cl.orR L E (Cl.loL L E)).length ≤ 8 := by
  by_cases hc : Cl.caseC L E = 0
  · rw [Cl.orR_ok hc]
    have h := (Cl.okC_iff.1 (Cl.caseC_ok.1 hc).1).2.1
    unfold Cl.loL
    simpa using h
  · rw [Cl.orR_no hc]; simp
theorem orR_len_coL (L : List Int) (E : Int) : (Cl.orR L E (Cl.coL L E)).length ≤ 8 := by
  by_cases hc : Cl.caseC L E = 0
  · rw [Cl.orR_ok hc]
    have h := (Cl.okC_iff.1 (Cl.caseC_ok.1 hc).1).2.1
    unfold Cl.coL
    split <;> simpa [Cl.coLo, Cl.coHi] using h
  · rw [Cl.orR_no hc]; simp
set_option maxRecDepth 100000 in
set_option maxHeartbeats 4000000 in
theorem claimCourts_any (L : List Int) (ao : Option Addr) (n cap : Nat) (E : Int) (w : World) (hI : Ints w ao L) (hln : n = L.length) (_ : ∀ x ∈ L, Rng x) (_ : Rng E) :
    Calls Try.prog 5 #[.agg #[.slice ao n cap, .int .i64 E]] w fun e w' => e = .returned (.bool true) ∧ Below w.heap.size w w' := by
  have Hn := Lib.hid hln
  have r0 := heap_alloc_new w (.cells #[.slice ao n cap, .int .i64 E] 24)
  have hB : Below w.heap.size w (w.alloc (.cells #[.slice ao n cap, .int .i64 E] 24)) := (Below.refl _ w).alloc (Nat.le_refl _) _
  replace hI := hI.below ((Below.refl _ w).alloc (Nat.le_refl _) (.cells #[.slice ao n cap, .int .i64 E] 24))
  clear hln
  go_enter Try.func5, Try.ntmps5
  go_upto_region 1 with fail
  generalize w.alloc (.cells #[.slice ao n cap, .int .i64 E] 24) = W at r0 hB hI ⊢
  obtain ⟨G, hG⟩ : ∃ G, G = w.heap.size := ⟨_, rfl⟩
  rw [← hG] at r0 ⊢
  clear hG
  obtain ⟨⟨c0, c1⟩, -, -⟩ := row_fr r0
  go_wp2_with fail
  refine ((long_any n cap ao E W)).mono ?_
  rintro e w1 ⟨rfl, hbb⟩
  replace hI := hI.below hbb
  replace r0 := heap_keep hbb r0
  replace hB := hB.trans (hbb.mono hB.size)
  clear hbb
  obtain ⟨⟨c0, c1⟩, -, -⟩ := row_fr r0
  by_cases h1 : 40 < n
  · have e1 : decide (40 < n) = true := by simp [h1]
    rw [e1]
    go_wp2_with fail
    refine ((known_any w1)).mono ?_
    rintro e w2 ⟨rfl, hbb⟩
    replace hI := hI.below hbb
    replace r0 := heap_keep hbb r0
    replace hB := hB.trans (hbb.mono hB.size)
    clear hbb
    go_wp2_with fail
    go_ret
    exact ⟨rfl, hB⟩
  · have e1 : decide (40 < n) = false := by simp [h1]
    rw [e1]
    clear e1
    have hn1 : n ≤ 100000 := by omega
    clear h1
    go_wp2_with fail
    refine ((byCourtU L E ao n cap w1 hI Hn.out hn1)).mono ?_
    rintro e w3 ⟨aoa, capa, rfl, hP1a, hbb⟩
    replace hI := hI.below hbb
    replace r0 := heap_keep hbb r0
    replace hB := hB.trans (hbb.mono hB.size)
    clear hbb
    obtain ⟨⟨c0, c1⟩, -, -⟩ := row_fr r0
    go_wp2_with fail
    refine ((rbyCourtU L E ao n cap w3 hI Hn.out hn1)).mono ?_
    rintro e w4 ⟨aob, capb, rfl, hP1b, hbb⟩
    replace hI := hI.below hbb
    replace r0 := heap_keep hbb r0
    replace hB := hB.trans (hbb.mono hB.size)
    replace hP1a := hP1a.below hbb
    clear hbb
    obtain ⟨⟨c0, c1⟩, -, -⟩ := row_fr r0
    have hrl1 : Hid ((Cl.orR L E (Cl.coL L E)).length ≤ 8) := Lib.hid (orR_len_coL L E)
    have hch1 := Lib.hid (Cl.ch_co L E)
    obtain ⟨R1, hR1⟩ : ∃ R, R = (Cl.orR L E (Cl.coL L E)).map pr := ⟨_, rfl⟩
    have hl1 : Hid ((Cl.orR L E (Cl.coL L E)).length = R1.length) := Lib.hid (by rw [hR1]; simp)
    obtain ⟨r1, hr1⟩ : ∃ r, r = (Cl.orR L E (Cl.coL L E)).length := ⟨_, rfl⟩
    rw [← hr1] at hrl1 hl1 ⊢
    rw [← hR1] at hch1 hP1a hP1b
    have hr81 : r1 ≤ 8 := hrl1.out
    clear hr1 hR1 hrl1
    obtain ⟨C, hC⟩ : ∃ C, C = Cl.caseC L E := ⟨_, rfl⟩
    rw [← hC] at hch1 ⊢
    clear hC
    go_wp2_with fail
    refine ((sameRats_any R1 R1 aoa r1 capa aob r1 capb w4 hP1a hP1b hl1.out hl1.out (by omega) (by omega))).mono ?_
    rintro e w5 ⟨rfl, hbb⟩
    replace hI := hI.below hbb
    replace r0 := heap_keep hbb r0
    replace hB := hB.trans (hbb.mono hB.size)
    replace hP1a := hP1a.below hbb
    clear hbb
    rw [show decide (R1 = R1) = true by simp]
    obtain ⟨⟨c0, c1⟩, -, -⟩ := row_fr r0
    go_wp2_with fail
    refine ((check_any L E R1 ao n cap aoa r1 capa w5 hI hP1a Hn.out hl1.out hn1 (by omega))).mono ?_
    rintro e w6 ⟨rfl, hbb⟩
    replace hI := hI.below hbb
    replace r0 := heap_keep hbb r0
    replace hB := hB.trans (hbb.mono hB.size)
    replace hP1a := hP1a.below hbb
    clear hbb
    rw [hch1.out]
    go_wp2_with fail
    refine ((known_any w6)).mono ?_
    rintro e w7 ⟨rfl, hbb⟩
    replace hI := hI.below hbb
    replace r0 := heap_keep hbb r0
    replace hB := hB.trans (hbb.mono hB.size)
    replace hP1a := hP1a.below hbb
    clear hbb
    go_wp2_with fail
    go_ret
    exact ⟨rfl, hB⟩
end Go.Proofs.Ytifhkagngjinfaa
