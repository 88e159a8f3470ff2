import Derived.Test.YtifhkagngjinfaaNd
import Derived.Test.YtifhkagngjinfaaLc
namespace Go.Proofs.Ytifhkagngjinfaa
open Go.RowKit
set_option maxRecDepth 100000 in
set_option maxHeartbeats 4000000 in
theorem claimLevels_any (L : List Int) (ao : Option Addr) (n cap : Nat) (E : Int) (w : World) (hI : Ints w ao L) (hln : n = L.length) (_ : ∀ x ∈ L, Rng x) (_ : Rng E) :
    Calls Try.prog 4 #[.agg #[.slice ao n cap, .int .i64 E]] w fun e w' => e = .returned (.bool true) ∧ Below w.heap.size w w' := by
  have Hn := Lib.hid hln
  have r0 := heap_alloc_new w (.cells #[.slice ao n cap, .int .i64 E] 24)
  have hB : Below w.heap.size w (w.alloc (.cells #[.slice ao n cap, .int .i64 E] 24)) := (Below.refl _ w).alloc (Nat.le_refl _) _
  replace hI := hI.below ((Below.refl _ w).alloc (Nat.le_refl _) (.cells #[.slice ao n cap, .int .i64 E] 24))
  clear hln
  go_enter Try.func4, Try.ntmps4
  go_upto_region 1 with fail
  generalize w.alloc (.cells #[.slice ao n cap, .int .i64 E] 24) = W at r0 hB hI ⊢
  obtain ⟨G, hG⟩ : ∃ G, G = w.heap.size := ⟨_, rfl⟩
  rw [← hG] at r0 ⊢
  clear hG
  obtain ⟨⟨c0, c1⟩, -, -⟩ := row_fr r0
  go_wp2_with fail
  refine ((long_any n cap ao E W)).mono ?_
  rintro e w1 ⟨rfl, hbb⟩
  replace hI := hI.below hbb
  replace r0 := heap_keep hbb r0
  replace hB := hB.trans (hbb.mono hB.size)
  clear hbb
  obtain ⟨⟨c0, c1⟩, -, -⟩ := row_fr r0
  by_cases h1 : 40 < n
  · have e1 : decide (40 < n) = true := by simp [h1]
    rw [e1]
    go_wp2_with fail
    refine ((known_any w1)).mono ?_
    rintro e w2 ⟨rfl, hbb⟩
    replace hI := hI.below hbb
    replace r0 := heap_keep hbb r0
    replace hB := hB.trans (hbb.mono hB.size)
    clear hbb
    go_wp2_with fail
    go_ret
    exact ⟨rfl, hB⟩
  · have e1 : decide (40 < n) = false := by simp [h1]
    rw [e1]
    clear e1
    have hn1 : n ≤ 100000 := by omega
    clear h1
    go_wp2_with fail
    refine ((byAwardsU L E ao n cap w1 hI Hn.out hn1)).mono ?_
    rintro e w3 ⟨aoa, capa, rfl, hP1a, hbb⟩
    replace hI := hI.below hbb
    replace r0 := heap_keep hbb r0
    replace hB := hB.trans (hbb.mono hB.size)
    clear hbb
    obtain ⟨⟨c0, c1⟩, -, -⟩ := row_fr r0
    go_wp2_with fail
    refine ((rbyAwardsU L E ao n cap w3 hI Hn.out hn1)).mono ?_
    rintro e w4 ⟨aob, capb, rfl, hP1b, hbb⟩
    replace hI := hI.below hbb
    replace r0 := heap_keep hbb r0
    replace hB := hB.trans (hbb.mono hB.size)
    replace hP1a := hP1a.below hbb
    clear hbb
    obtain ⟨⟨c0, c1⟩, -, -⟩ := row_fr r0
    go_wp2_with fail
    refine ((byLossesU L E ao n cap w4 hI Hn.out hn1)).mono ?_
    rintro e w5 ⟨aoc, capc, rfl, hP2a, hbb⟩
    replace hI := hI.below hbb
    replace r0 := heap_keep hbb r0
    replace hB := hB.trans (hbb.mono hB.size)
    replace hP1a := hP1a.below hbb
    replace hP1b := hP1b.below hbb
    clear hbb
    obtain ⟨⟨c0, c1⟩, -, -⟩ := row_fr r0
    go_wp2_with fail
    refine ((rbyLossesU L E ao n cap w5 hI Hn.out hn1)).mono ?_
    rintro e w6 ⟨aod, capd, rfl, hP2b, hbb⟩
    replace hI := hI.below hbb
    replace r0 := heap_keep hbb r0
    replace hB := hB.trans (hbb.mono hB.size)
    replace hP1a := hP1a.below hbb
    replace hP1b := hP1b.below hbb
    replace hP2a := hP2a.below hbb
    clear hbb
    obtain ⟨⟨c0, c1⟩, -, -⟩ := row_fr r0
    have hrl1 : Hid ((Cl.orR L E (Cl.awL L E)).length ≤ 8) := Lib.hid (orR_len_awL L E)
    have hch1 := Lib.hid (Cl.ch_aw L E)
    obtain ⟨R1, hR1⟩ : ∃ R, R = (Cl.orR L E (Cl.awL L E)).map pr := ⟨_, rfl⟩
    have hl1 : Hid ((Cl.orR L E (Cl.awL L E)).length = R1.length) := Lib.hid (by rw [hR1]; simp)
    obtain ⟨r1, hr1⟩ : ∃ r, r = (Cl.orR L E (Cl.awL L E)).length := ⟨_, rfl⟩
    rw [← hr1] at hrl1 hl1 ⊢
    rw [← hR1] at hch1 hP1a hP1b
    have hr81 : r1 ≤ 8 := hrl1.out
    clear hr1 hR1 hrl1
    have hrl2 : Hid ((Cl.orR L E (Cl.loL L E)).length ≤ 8) := Lib.hid (orR_len_loL L E)
    have hch2 := Lib.hid (Cl.ch_lo L E)
    obtain ⟨R2, hR2⟩ : ∃ R, R = (Cl.orR L E (Cl.loL L E)).map pr := ⟨_, rfl⟩
    have hl2 : Hid ((Cl.orR L E (Cl.loL L E)).length = R2.length) := Lib.hid (by rw [hR2]; simp)
    obtain ⟨r2, hr2⟩ : ∃ r, r = (Cl.orR L E (Cl.loL L E)).length := ⟨_, rfl⟩
    rw [← hr2] at hrl2 hl2 ⊢
    rw [← hR2] at hch2 hP2a hP2b
    have hr82 : r2 ≤ 8 := hrl2.out
    clear hr2 hR2 hrl2
    obtain ⟨C, hC⟩ : ∃ C, C = Cl.caseC L E := ⟨_, rfl⟩
    rw [← hC] at hch1 hch2 ⊢
    have HCC := Lib.hid hC
    clear hC
    obtain ⟨x1, y1, hxy1⟩ := frOr_pair C (Cl.lvl L E)
    obtain ⟨x2, y2, hxy2⟩ := frOr_pair C (Cl.lvl L (Fl.sumI L - E))
    have HX := Lib.hid (And.intro hxy1 hxy2)
    clear hxy1 hxy2
    go_wp2_with fail
    refine ((levelU L E ao n cap w6 hI Hn.out hn1)).mono ?_
    rintro e w7 ⟨rfl, hbb⟩
    replace hI := hI.below hbb
    replace r0 := heap_keep hbb r0
    replace hB := hB.trans (hbb.mono hB.size)
    replace hP1a := hP1a.below hbb
    replace hP1b := hP1b.below hbb
    replace hP2a := hP2a.below hbb
    replace hP2b := hP2b.below hbb
    clear hbb
    rw [← HCC.out, HX.out.1]
    obtain ⟨⟨c0, c1⟩, -, -⟩ := row_fr r0
    have q0 := heap_alloc_new w7 (.cells #[.int .i64 x1, .int .i64 y1] 35)
    have hbb := (Below.refl _ w7).alloc (Nat.le_refl _) (.cells #[.int .i64 x1, .int .i64 y1] 35)
    replace hI := hI.below hbb
    replace r0 := heap_keep hbb r0
    replace hB := hB.trans (hbb.mono hB.size)
    replace hP1a := hP1a.below hbb
    replace hP1b := hP1b.below hbb
    replace hP2a := hP2a.below hbb
    replace hP2b := hP2b.below hbb
    clear hbb
    go_upto_region 8 with fail
    generalize (w7.alloc (.cells #[.int .i64 x1, .int .i64 y1] 35)) = V0 at hI r0 hB hP1a hP1b hP2a hP2b q0 ⊢
    generalize w7.heap.size = J0 at q0 ⊢
    obtain ⟨⟨c0, c1⟩, -, -⟩ := row_fr r0
    go_wp2_with fail
    refine ((rlevelU L E ao n cap V0 hI Hn.out hn1)).mono ?_
    rintro e w8 ⟨rfl, hbb⟩
    replace hI := hI.below hbb
    replace r0 := heap_keep hbb r0
    replace hB := hB.trans (hbb.mono hB.size)
    replace hP1a := hP1a.below hbb
    replace hP1b := hP1b.below hbb
    replace hP2a := hP2a.below hbb
    replace hP2b := hP2b.below hbb
    replace q0 := heap_keep hbb q0
    clear hbb
    rw [← HCC.out, HX.out.1]
    obtain ⟨⟨c0, c1⟩, -, -⟩ := row_fr r0
    have q1 := heap_alloc_new w8 (.cells #[.int .i64 x1, .int .i64 y1] 35)
    have hbb := (Below.refl _ w8).alloc (Nat.le_refl _) (.cells #[.int .i64 x1, .int .i64 y1] 35)
    replace hI := hI.below hbb
    replace r0 := heap_keep hbb r0
    replace hB := hB.trans (hbb.mono hB.size)
    replace hP1a := hP1a.below hbb
    replace hP1b := hP1b.below hbb
    replace hP2a := hP2a.below hbb
    replace hP2b := hP2b.below hbb
    replace q0 := heap_keep hbb q0
    clear hbb
    go_upto_region 9 with fail
    generalize (w8.alloc (.cells #[.int .i64 x1, .int .i64 y1] 35)) = V1 at hI r0 hB hP1a hP1b hP2a hP2b q0 q1 ⊢
    generalize w8.heap.size = J1 at q1 ⊢
    obtain ⟨⟨c0, c1⟩, -, -⟩ := row_fr r0
    go_wp2_with fail
    refine ((lossU L E ao n cap V1 hI Hn.out hn1)).mono ?_
    rintro e w9 ⟨rfl, hbb⟩
    replace hI := hI.below hbb
    replace r0 := heap_keep hbb r0
    replace hB := hB.trans (hbb.mono hB.size)
    replace hP1a := hP1a.below hbb
    replace hP1b := hP1b.below hbb
    replace hP2a := hP2a.below hbb
    replace hP2b := hP2b.below hbb
    replace q0 := heap_keep hbb q0
    replace q1 := heap_keep hbb q1
    clear hbb
    rw [← HCC.out, HX.out.2]
    obtain ⟨⟨c0, c1⟩, -, -⟩ := row_fr r0
    have q2 := heap_alloc_new w9 (.cells #[.int .i64 x2, .int .i64 y2] 35)
    have hbb := (Below.refl _ w9).alloc (Nat.le_refl _) (.cells #[.int .i64 x2, .int .i64 y2] 35)
    replace hI := hI.below hbb
    replace r0 := heap_keep hbb r0
    replace hB := hB.trans (hbb.mono hB.size)
    replace hP1a := hP1a.below hbb
    replace hP1b := hP1b.below hbb
    replace hP2a := hP2a.below hbb
    replace hP2b := hP2b.below hbb
    replace q0 := heap_keep hbb q0
    replace q1 := heap_keep hbb q1
    clear hbb
    go_upto_region 10 with fail
    generalize (w9.alloc (.cells #[.int .i64 x2, .int .i64 y2] 35)) = V2 at hI r0 hB hP1a hP1b hP2a hP2b q0 q1 q2 ⊢
    generalize w9.heap.size = J2 at q2 ⊢
    obtain ⟨⟨c0, c1⟩, -, -⟩ := row_fr r0
    go_wp2_with fail
    refine ((rlossU L E ao n cap V2 hI Hn.out hn1)).mono ?_
    rintro e w10 ⟨rfl, hbb⟩
    replace hI := hI.below hbb
    replace r0 := heap_keep hbb r0
    replace hB := hB.trans (hbb.mono hB.size)
    replace hP1a := hP1a.below hbb
    replace hP1b := hP1b.below hbb
    replace hP2a := hP2a.below hbb
    replace hP2b := hP2b.below hbb
    replace q0 := heap_keep hbb q0
    replace q1 := heap_keep hbb q1
    replace q2 := heap_keep hbb q2
    clear hbb
    rw [← HCC.out, HX.out.2]
    obtain ⟨⟨c0, c1⟩, -, -⟩ := row_fr r0
    have q3 := heap_alloc_new w10 (.cells #[.int .i64 x2, .int .i64 y2] 35)
    have hbb := (Below.refl _ w10).alloc (Nat.le_refl _) (.cells #[.int .i64 x2, .int .i64 y2] 35)
    replace hI := hI.below hbb
    replace r0 := heap_keep hbb r0
    replace hB := hB.trans (hbb.mono hB.size)
    replace hP1a := hP1a.below hbb
    replace hP1b := hP1b.below hbb
    replace hP2a := hP2a.below hbb
    replace hP2b := hP2b.below hbb
    replace q0 := heap_keep hbb q0
    replace q1 := heap_keep hbb q1
    replace q2 := heap_keep hbb q2
    clear hbb
    go_upto_region 11 with fail
    generalize (w10.alloc (.cells #[.int .i64 x2, .int .i64 y2] 35)) = V3 at hI r0 hB hP1a hP1b hP2a hP2b q0 q1 q2 q3 ⊢
    generalize w10.heap.size = J3 at q3 ⊢
    obtain ⟨⟨c0, c1⟩, -, -⟩ := row_fr r0
    obtain ⟨⟨d0, d1⟩, -, -⟩ := row_fr q0
    obtain ⟨⟨d2, d3⟩, -, -⟩ := row_fr q1
    obtain ⟨⟨d4, d5⟩, -, -⟩ := row_fr q2
    obtain ⟨⟨d6, d7⟩, -, -⟩ := row_fr q3
    have heq1 := run_eq_rt x1 y1 x1 y1
    have heq2 := run_eq_rt x2 y2 x2 y2
    rw [decide_eq_true (rfl : (x1, y1) = (x1, y1))] at heq1
    rw [decide_eq_true (rfl : (x2, y2) = (x2, y2))] at heq2
    go_wp2_with fail
    refine ((sameRats_any R1 R1 aoa r1 capa aob r1 capb V3 hP1a hP1b hl1.out hl1.out (by omega) (by omega))).mono ?_
    rintro e w11 ⟨rfl, hbb⟩
    replace hI := hI.below hbb
    replace r0 := heap_keep hbb r0
    replace hB := hB.trans (hbb.mono hB.size)
    replace hP1a := hP1a.below hbb
    replace hP1b := hP1b.below hbb
    replace hP2a := hP2a.below hbb
    replace hP2b := hP2b.below hbb
    replace q0 := heap_keep hbb q0
    replace q1 := heap_keep hbb q1
    replace q2 := heap_keep hbb q2
    replace q3 := heap_keep hbb q3
    clear hbb
    rw [show decide (R1 = R1) = true by simp]
    obtain ⟨⟨c0, c1⟩, -, -⟩ := row_fr r0
    obtain ⟨⟨d0, d1⟩, -, -⟩ := row_fr q0
    obtain ⟨⟨d2, d3⟩, -, -⟩ := row_fr q1
    obtain ⟨⟨d4, d5⟩, -, -⟩ := row_fr q2
    obtain ⟨⟨d6, d7⟩, -, -⟩ := row_fr q3
    go_wp2_with fail
    refine ((sameRats_any R2 R2 aoc r2 capc aod r2 capd w11 hP2a hP2b hl2.out hl2.out (by omega) (by omega))).mono ?_
    rintro e w12 ⟨rfl, hbb⟩
    replace hI := hI.below hbb
    replace r0 := heap_keep hbb r0
    replace hB := hB.trans (hbb.mono hB.size)
    replace hP1a := hP1a.below hbb
    replace hP1b := hP1b.below hbb
    replace hP2a := hP2a.below hbb
    replace hP2b := hP2b.below hbb
    replace q0 := heap_keep hbb q0
    replace q1 := heap_keep hbb q1
    replace q2 := heap_keep hbb q2
    replace q3 := heap_keep hbb q3
    clear hbb
    rw [show decide (R2 = R2) = true by simp]
    obtain ⟨⟨c0, c1⟩, -, -⟩ := row_fr r0
    obtain ⟨⟨d0, d1⟩, -, -⟩ := row_fr q0
    obtain ⟨⟨d2, d3⟩, -, -⟩ := row_fr q1
    obtain ⟨⟨d4, d5⟩, -, -⟩ := row_fr q2
    obtain ⟨⟨d6, d7⟩, -, -⟩ := row_fr q3
    go_wp2_with fail
    refine ((check_any L E R1 ao n cap aoa r1 capa w12 hI hP1a Hn.out hl1.out hn1 (by omega))).mono ?_
    rintro e w13 ⟨rfl, hbb⟩
    replace hI := hI.below hbb
    replace r0 := heap_keep hbb r0
    replace hB := hB.trans (hbb.mono hB.size)
    replace hP1a := hP1a.below hbb
    replace hP1b := hP1b.below hbb
    replace hP2a := hP2a.below hbb
    replace hP2b := hP2b.below hbb
    replace q0 := heap_keep hbb q0
    replace q1 := heap_keep hbb q1
    replace q2 := heap_keep hbb q2
    replace q3 := heap_keep hbb q3
    clear hbb
    rw [hch1.out]
    obtain ⟨⟨c0, c1⟩, -, -⟩ := row_fr r0
    obtain ⟨⟨d0, d1⟩, -, -⟩ := row_fr q0
    obtain ⟨⟨d2, d3⟩, -, -⟩ := row_fr q1
    obtain ⟨⟨d4, d5⟩, -, -⟩ := row_fr q2
    obtain ⟨⟨d6, d7⟩, -, -⟩ := row_fr q3
    go_wp2_with fail
    refine ((check_any L E R2 ao n cap aoc r2 capc w13 hI hP2a Hn.out hl2.out hn1 (by omega))).mono ?_
    rintro e w14 ⟨rfl, hbb⟩
    replace hI := hI.below hbb
    replace r0 := heap_keep hbb r0
    replace hB := hB.trans (hbb.mono hB.size)
    replace hP1a := hP1a.below hbb
    replace hP1b := hP1b.below hbb
    replace hP2a := hP2a.below hbb
    replace hP2b := hP2b.below hbb
    replace q0 := heap_keep hbb q0
    replace q1 := heap_keep hbb q1
    replace q2 := heap_keep hbb q2
    replace q3 := heap_keep hbb q3
    clear hbb
    rw [hch2.out]
    go_wp2_with fail
    refine ((known_any w14)).mono ?_
    rintro e w15 ⟨rfl, hbb⟩
    replace hI := hI.below hbb
    replace r0 := heap_keep hbb r0
    replace hB := hB.trans (hbb.mono hB.size)
    replace hP1a := hP1a.below hbb
    replace hP1b := hP1b.below hbb
    replace hP2a := hP2a.below hbb
    replace hP2b := hP2b.below hbb
    replace q0 := heap_keep hbb q0
    replace q1 := heap_keep hbb q1
    replace q2 := heap_keep hbb q2
    replace q3 := heap_keep hbb q3
    clear hbb
    go_wp2_with fail
    go_ret
    exact ⟨rfl, hB⟩
end Go.Proofs.Ytifhkagngjinfaa
