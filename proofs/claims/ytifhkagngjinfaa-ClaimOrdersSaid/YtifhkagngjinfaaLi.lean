import Derived.Test.YtifhkagngjinfaaSb
import Derived.Test.YtifhkagngjinfaaLg
namespace Go.Proofs.Ytifhkagngjinfaa
open Go.RowKit
set_option maxRecDepth 100000 in
set_option maxHeartbeats 4000000 in
theorem claimOrders_any (L : List Int) (ao : Option Addr) (n cap : Nat) (E : Int) (w : World) (hI : Ints w ao L) (hln : n = L.length) (_ : ∀ x ∈ L, Rng x) (_ : Rng E) :
    Calls Try.prog 8 #[.agg #[.slice ao n cap, .int .i64 E]] w fun e w' => e = .returned (.bool true) ∧ Below w.heap.size w w' := by
  have Hn := Lib.hid hln
  have r0 := heap_alloc_new w (.cells #[.slice ao n cap, .int .i64 E] 24)
  have hB : Below w.heap.size w (w.alloc (.cells #[.slice ao n cap, .int .i64 E] 24)) := (Below.refl _ w).alloc (Nat.le_refl _) _
  replace hI := hI.below ((Below.refl _ w).alloc (Nat.le_refl _) (.cells #[.slice ao n cap, .int .i64 E] 24))
  clear hln
  go_enter Try.func8, Try.ntmps8
  go_upto_region 1 with fail
  generalize w.alloc (.cells #[.slice ao n cap, .int .i64 E] 24) = W at r0 hB hI ⊢
  obtain ⟨G, hG⟩ : ∃ G, G = w.heap.size := ⟨_, rfl⟩
  rw [← hG] at r0 ⊢
  clear hG
  obtain ⟨⟨c0, c1⟩, -, -⟩ := row_fr r0
  go_wp2_with fail
  refine ((long_any n cap ao E W)).mono ?_
  rintro e w1 ⟨rfl, hbb⟩
  replace hI := hI.below hbb
  replace r0 := heap_keep hbb r0
  replace hB := hB.trans (hbb.mono hB.size)
  clear hbb
  obtain ⟨⟨c0, c1⟩, -, -⟩ := row_fr r0
  by_cases h1 : 40 < n
  · have e1 : decide (40 < n) = true := by simp [h1]
    rw [e1]
    go_wp2_with fail
    refine ((known_any w1)).mono ?_
    rintro e w2 ⟨rfl, hbb⟩
    replace hI := hI.below hbb
    replace r0 := heap_keep hbb r0
    replace hB := hB.trans (hbb.mono hB.size)
    clear hbb
    go_wp2_with fail
    go_ret
    exact ⟨rfl, hB⟩
  · have e1 : decide (40 < n) = false := by simp [h1]
    rw [e1]
    clear e1
    have hn1 : n ≤ 100000 := by omega
    clear h1
    go_wp2_with fail
    refine ((validate_any L E ao n cap w1 hI Hn.out hn1)).mono ?_
    rintro e w3 ⟨rfl, hbb⟩
    replace hI := hI.below hbb
    replace r0 := heap_keep hbb r0
    replace hB := hB.trans (hbb.mono hB.size)
    clear hbb
    obtain ⟨⟨c0, c1⟩, -, -⟩ := row_fr r0
    by_cases hc : Cl.caseC L E = 0
    · have Hc := Lib.hid hc
      rw [hc]
      clear hc
      have HC := Lib.hid (Cl.okC_iff.1 (Cl.caseC_ok.1 Hc.out).1)
      have hn8 : n ≤ 8 := by have := HC.out; have := Hn.out; omega
      have hsE := (Cl.caseC_ok.1 Hc.out).2
      have hS8 : 0 ≤ Fl.sumI L ∧ Fl.sumI L ≤ 8000 := by
        have h := Cl.sum_small (B := 1000) (by omega) (l := L) (fun x hx => by have := HC.out.2.2 x hx; omega)
        have h2 := Cl.sum_nonneg (l := L) (fun x hx => by have := HC.out.2.2 x hx; omega)
        have := HC.out; omega
      go_wp2_with fail
      refine ((byPartsK L E ao n cap w3 hI Hn.out hn1 Hc.out)).mono ?_
      rintro e w4 ⟨aoa, capa, rfl, hPa, hbb⟩
      replace hI := hI.below hbb
      replace r0 := heap_keep hbb r0
      replace hB := hB.trans (hbb.mono hB.size)
      clear hbb
      obtain ⟨⟨c0, c1⟩, -, -⟩ := row_fr r0
      go_wp2_with fail
      refine ((byAwardsK L E ao n cap w4 hI Hn.out hn1 Hc.out)).mono ?_
      rintro e w5 ⟨aob, capb, rfl, hPb, hbb⟩
      replace hI := hI.below hbb
      replace r0 := heap_keep hbb r0
      replace hB := hB.trans (hbb.mono hB.size)
      replace hPa := hPa.below hbb
      clear hbb
      obtain ⟨⟨c0, c1⟩, -, -⟩ := row_fr r0
      go_wp2_with fail
      refine ((byLossesK L E ao n cap w5 hI Hn.out hn1 Hc.out)).mono ?_
      rintro e w6 ⟨aox, capx, rfl, hPx, hbb⟩
      replace hI := hI.below hbb
      replace r0 := heap_keep hbb r0
      replace hB := hB.trans (hbb.mono hB.size)
      replace hPa := hPa.below hbb
      replace hPb := hPb.below hbb
      clear hbb
      obtain ⟨⟨c0, c1⟩, -, -⟩ := row_fr r0
      go_wp2_with fail
      refine ((byCourtK L E ao n cap w6 hI Hn.out hn1 Hc.out)).mono ?_
      rintro e w7 ⟨aoy, capy, rfl, hPy, hbb⟩
      replace hI := hI.below hbb
      replace r0 := heap_keep hbb r0
      replace hB := hB.trans (hbb.mono hB.size)
      replace hPa := hPa.below hbb
      replace hPb := hPb.below hbb
      replace hPx := hPx.below hbb
      clear hbb
      obtain ⟨⟨c0, c1⟩, -, -⟩ := row_fr r0
      have hlna : Hid (n = ((Cl.paL L E).map pr).length) := Lib.hid (by rw [List.length_map]; simp [Cl.paL, Hn.out])
      have hcma : Hid (Cl.com ((Cl.paL L E).map pr) ≠ 0) := Lib.hid (by have h := Cl.ch_pa L E; rw [Cl.orR_ok Hc.out, Hc.out] at h; exact (Cl.ch_ok h).2.2.1)
      have hlnb : Hid (n = ((Cl.awL L E).map pr).length) := Lib.hid (by rw [List.length_map]; simp [Cl.awL, Hn.out])
      have hcmb : Hid (Cl.com ((Cl.awL L E).map pr) ≠ 0) := Lib.hid (by have h := Cl.ch_aw L E; rw [Cl.orR_ok Hc.out, Hc.out] at h; exact (Cl.ch_ok h).2.2.1)
      have hlnx : Hid (n = ((Cl.loL L E).map pr).length) := Lib.hid (by rw [List.length_map]; simp [Cl.loL, Hn.out])
      have hcmx : Hid (Cl.com ((Cl.loL L E).map pr) ≠ 0) := Lib.hid (by have h := Cl.ch_lo L E; rw [Cl.orR_ok Hc.out, Hc.out] at h; exact (Cl.ch_ok h).2.2.1)
      have hlny : Hid (n = ((Cl.coL L E).map pr).length) := Lib.hid (by rw [List.length_map]; unfold Cl.coL; split <;> simp [Cl.coLo, Cl.coHi, Hn.out])
      have hcmy : Hid (Cl.com ((Cl.coL L E).map pr) ≠ 0) := Lib.hid (by have h := Cl.ch_co L E; rw [Cl.orR_ok Hc.out, Hc.out] at h; exact (Cl.ch_ok h).2.2.1)
      go_wp2_with fail
      refine ((ordered_any L _ ao n cap aoa capa w7 hI hPa Hn.out hlna.out (Cl.caseC_ok.1 Hc.out).1 hcma.out (Cl.ord_pa Hc.out))).mono ?_
      rintro e w8 ⟨rfl, hbb⟩
      replace hI := hI.below hbb
      replace r0 := heap_keep hbb r0
      replace hB := hB.trans (hbb.mono hB.size)
      replace hPa := hPa.below hbb
      replace hPb := hPb.below hbb
      replace hPx := hPx.below hbb
      replace hPy := hPy.below hbb
      clear hbb
      obtain ⟨⟨c0, c1⟩, -, -⟩ := row_fr r0
      go_wp2_with fail
      refine ((ordered_any L _ ao n cap aob capb w8 hI hPb Hn.out hlnb.out (Cl.caseC_ok.1 Hc.out).1 hcmb.out (Cl.ord_aw L E))).mono ?_
      rintro e w9 ⟨rfl, hbb⟩
      replace hI := hI.below hbb
      replace r0 := heap_keep hbb r0
      replace hB := hB.trans (hbb.mono hB.size)
      replace hPa := hPa.below hbb
      replace hPb := hPb.below hbb
      replace hPx := hPx.below hbb
      replace hPy := hPy.below hbb
      clear hbb
      obtain ⟨⟨c0, c1⟩, -, -⟩ := row_fr r0
      go_wp2_with fail
      refine ((ordered_any L _ ao n cap aox capx w9 hI hPx Hn.out hlnx.out (Cl.caseC_ok.1 Hc.out).1 hcmx.out (Cl.ord_lo L E))).mono ?_
      rintro e w10 ⟨rfl, hbb⟩
      replace hI := hI.below hbb
      replace r0 := heap_keep hbb r0
      replace hB := hB.trans (hbb.mono hB.size)
      replace hPa := hPa.below hbb
      replace hPb := hPb.below hbb
      replace hPx := hPx.below hbb
      replace hPy := hPy.below hbb
      clear hbb
      obtain ⟨⟨c0, c1⟩, -, -⟩ := row_fr r0
      go_wp2_with fail
      refine ((ordered_any L _ ao n cap aoy capy w10 hI hPy Hn.out hlny.out (Cl.caseC_ok.1 Hc.out).1 hcmy.out (Cl.ord_co L E))).mono ?_
      rintro e w11 ⟨rfl, hbb⟩
      replace hI := hI.below hbb
      replace r0 := heap_keep hbb r0
      replace hB := hB.trans (hbb.mono hB.size)
      replace hPa := hPa.below hbb
      replace hPb := hPb.below hbb
      replace hPx := hPx.below hbb
      replace hPy := hPy.below hbb
      clear hbb
      obtain ⟨⟨c0, c1⟩, -, -⟩ := row_fr r0
      go_wp2_with fail
      refine ((known_any w11)).mono ?_
      rintro e w12 ⟨rfl, hbb⟩
      replace hI := hI.below hbb
      replace r0 := heap_keep hbb r0
      replace hB := hB.trans (hbb.mono hB.size)
      replace hPa := hPa.below hbb
      replace hPb := hPb.below hbb
      replace hPx := hPx.below hbb
      replace hPy := hPy.below hbb
      clear hbb
      go_wp2_with fail
      go_ret
      exact ⟨rfl, hB⟩
    · have hcn : (Cl.caseC L E != 0) = true := by simpa using hc
      generalize Cl.caseC L E = C at hcn ⊢
      clear hc
      go_wp2_with fail
      refine ((known_any w3)).mono ?_
      rintro e w13 ⟨rfl, hbb⟩
      replace hI := hI.below hbb
      replace r0 := heap_keep hbb r0
      replace hB := hB.trans (hbb.mono hB.size)
      clear hbb
      go_wp2_with fail
      go_ret
      exact ⟨rfl, hB⟩
end Go.Proofs.Ytifhkagngjinfaa
