import Derived.Test.YtifhkagngjinfaaSa
import Derived.Test.YtifhkagngjinfaaLg
namespace Go.Proofs.Ytifhkagngjinfaa
open Go.RowKit
set_option maxRecDepth 100000 in
set_option maxHeartbeats 4000000 in
theorem claimTurned_any (L : List Int) (ao : Option Addr) (n cap : Nat) (E : Int) (w : World) (hI : Ints w ao L) (hln : n = L.length) (_ : ∀ x ∈ L, Rng x) (_ : Rng E) :
    Calls Try.prog 7 #[.agg #[.slice ao n cap, .int .i64 E]] w fun e w' => e = .returned (.bool true) ∧ Below w.heap.size w w' := by
  have Hn := Lib.hid hln
  have r0 := heap_alloc_new w (.cells #[.slice ao n cap, .int .i64 E] 24)
  have hB : Below w.heap.size w (w.alloc (.cells #[.slice ao n cap, .int .i64 E] 24)) := (Below.refl _ w).alloc (Nat.le_refl _) _
  replace hI := hI.below ((Below.refl _ w).alloc (Nat.le_refl _) (.cells #[.slice ao n cap, .int .i64 E] 24))
  clear hln
  go_enter Try.func7, Try.ntmps7
  go_upto_region 1 with fail
  generalize w.alloc (.cells #[.slice ao n cap, .int .i64 E] 24) = W at r0 hB hI ⊢
  obtain ⟨G, hG⟩ : ∃ G, G = w.heap.size := ⟨_, rfl⟩
  rw [← hG] at r0 ⊢
  clear hG
  obtain ⟨⟨c0, c1⟩, -, -⟩ := row_fr r0
  go_wp2_with fail
  refine ((long_any n cap ao E W)).mono ?_
  rintro e w1 ⟨rfl, hbb⟩
  replace hI := hI.below hbb
  replace r0 := heap_keep hbb r0
  replace hB := hB.trans (hbb.mono hB.size)
  clear hbb
  obtain ⟨⟨c0, c1⟩, -, -⟩ := row_fr r0
  by_cases h1 : 40 < n
  · have e1 : decide (40 < n) = true := by simp [h1]
    rw [e1]
    go_wp2_with fail
    refine ((known_any w1)).mono ?_
    rintro e w2 ⟨rfl, hbb⟩
    replace hI := hI.below hbb
    replace r0 := heap_keep hbb r0
    replace hB := hB.trans (hbb.mono hB.size)
    clear hbb
    go_wp2_with fail
    go_ret
    exact ⟨rfl, hB⟩
  · have e1 : decide (40 < n) = false := by simp [h1]
    rw [e1]
    clear e1
    have hn1 : n ≤ 100000 := by omega
    clear h1
    go_wp2_with fail
    refine ((validate_any L E ao n cap w1 hI Hn.out hn1)).mono ?_
    rintro e w3 ⟨rfl, hbb⟩
    replace hI := hI.below hbb
    replace r0 := heap_keep hbb r0
    replace hB := hB.trans (hbb.mono hB.size)
    clear hbb
    obtain ⟨⟨c0, c1⟩, -, -⟩ := row_fr r0
    by_cases hc : Cl.caseC L E = 0
    · have Hc := Lib.hid hc
      rw [hc]
      clear hc
      have HC := Lib.hid (Cl.okC_iff.1 (Cl.caseC_ok.1 Hc.out).1)
      have hn8 : n ≤ 8 := by have := HC.out; have := Hn.out; omega
      have hsE := (Cl.caseC_ok.1 Hc.out).2
      have hS8 : 0 ≤ Fl.sumI L ∧ Fl.sumI L ≤ 8000 := by
        have h := Cl.sum_small (B := 1000) (by omega) (l := L) (fun x hx => by have := HC.out.2.2 x hx; omega)
        have h2 := Cl.sum_nonneg (l := L) (fun x hx => by have := HC.out.2.2 x hx; omega)
        have := HC.out; omega
      have e1 : IntKind.i64.wrap (Fl.sumI L - E) = Fl.sumI L - E := IntWalk.i64_in _ (by omega)
      go_upto_region 3 with fail
      go_region_held3 (fun w' => w'.cell? ⟨G, 0, none⟩ = some (.slice ao n cap) ∧ w'.cell? ⟨G, 1, none⟩ = some (.int .i64 E))
        (exact ⟨c0, c1⟩)
        ((go_at_call 36; refine (rSum_any L ao n cap _ (hI.below (below_drewN (Below.refl _ w3) 1)) Hn.out (by omega) (fun x hx => by have := HC.out.2.2 x hx; omega)).mono ?_; rintro e w8 ⟨rfl, hw0⟩; obtain rfl := hw0.symm; clear hw0))
      have hbq := below_drewN (Below.refl w3.heap.size w3) 1
      replace hI := hI.below hbq
      replace r0 := heap_keep hbq r0
      replace hB := hB.trans (hbq.mono hB.size)
      clear hbq e1 hsE hS8
      obtain ⟨T, hT⟩ : ∃ T, T = Fl.sumI L - E := ⟨_, rfl⟩
      have HcT : Hid (Cl.caseC L T = 0) := Lib.hid (by rw [hT]; exact Cl.lack_ok Hc.out)
      have HT := Lib.hid hT
      rw [← hT]
      clear hT
      obtain ⟨⟨c0, c1⟩, -, -⟩ := row_fr r0
      go_wp2_with fail
      refine ((byAwardsK L E ao n cap _ hI Hn.out hn1 Hc.out)).mono ?_
      rintro e w4 ⟨aoa, capa, rfl, hPa, hbb⟩
      replace hI := hI.below hbb
      replace r0 := heap_keep hbb r0
      replace hB := hB.trans (hbb.mono hB.size)
      clear hbb
      obtain ⟨⟨c0, c1⟩, -, -⟩ := row_fr r0
      go_wp2_with fail
      refine ((byLossesK L T ao n cap w4 hI Hn.out hn1 HcT.out)).mono ?_
      rintro e w5 ⟨aob, capb, rfl, hPb, hbb⟩
      replace hI := hI.below hbb
      replace r0 := heap_keep hbb r0
      replace hB := hB.trans (hbb.mono hB.size)
      replace hPa := hPa.below hbb
      clear hbb
      obtain ⟨⟨c0, c1⟩, -, -⟩ := row_fr r0
      have hlna : Hid (n = ((Cl.awL L E).map pr).length) := Lib.hid (by rw [List.length_map]; simp [Cl.awL, Hn.out])
      have hcha : Hid (Cl.chC L E ((Cl.awL L E).map pr) = 0) := Lib.hid (by have h := Cl.ch_aw L E; rwa [Cl.orR_ok Hc.out, Hc.out] at h)
      go_wp2_with fail
      refine ((lossesK L E _ ao n cap aoa n capa w5 hI hPa Hn.out hlna.out hn1 hn1 hcha.out)).mono ?_
      rintro e w6 ⟨aox, capx, rfl, hPx, hbb⟩
      replace hI := hI.below hbb
      replace r0 := heap_keep hbb r0
      replace hB := hB.trans (hbb.mono hB.size)
      replace hPa := hPa.below hbb
      replace hPb := hPb.below hbb
      clear hbb
      obtain ⟨⟨c0, c1⟩, -, -⟩ := row_fr r0
      go_wp2_with fail
      refine ((byPartsK L E ao n cap w6 hI Hn.out hn1 Hc.out)).mono ?_
      rintro e w7 ⟨aop, capp, rfl, hPp, hbb⟩
      replace hI := hI.below hbb
      replace r0 := heap_keep hbb r0
      replace hB := hB.trans (hbb.mono hB.size)
      replace hPa := hPa.below hbb
      replace hPb := hPb.below hbb
      replace hPx := hPx.below hbb
      clear hbb
      obtain ⟨⟨c0, c1⟩, -, -⟩ := row_fr r0
      go_wp2_with fail
      refine ((byPartsK L T ao n cap w7 hI Hn.out hn1 HcT.out)).mono ?_
      rintro e w8 ⟨aoq, capq, rfl, hPq, hbb⟩
      replace hI := hI.below hbb
      replace r0 := heap_keep hbb r0
      replace hB := hB.trans (hbb.mono hB.size)
      replace hPa := hPa.below hbb
      replace hPb := hPb.below hbb
      replace hPx := hPx.below hbb
      replace hPp := hPp.below hbb
      clear hbb
      obtain ⟨⟨c0, c1⟩, -, -⟩ := row_fr r0
      have hlnp : Hid (n = ((Cl.paL L E).map pr).length) := Lib.hid (by rw [List.length_map]; simp [Cl.paL, Hn.out])
      have hchp : Hid (Cl.chC L E ((Cl.paL L E).map pr) = 0) := Lib.hid (by have h := Cl.ch_pa L E; rwa [Cl.orR_ok Hc.out, Hc.out] at h)
      go_wp2_with fail
      refine ((lossesK L E _ ao n cap aop n capp w8 hI hPp Hn.out hlnp.out hn1 hn1 hchp.out)).mono ?_
      rintro e w9 ⟨aoy, capy, rfl, hPy, hbb⟩
      replace hI := hI.below hbb
      replace r0 := heap_keep hbb r0
      replace hB := hB.trans (hbb.mono hB.size)
      replace hPa := hPa.below hbb
      replace hPb := hPb.below hbb
      replace hPx := hPx.below hbb
      replace hPp := hPp.below hbb
      replace hPq := hPq.below hbb
      clear hbb
      obtain ⟨⟨c0, c1⟩, -, -⟩ := row_fr r0
      go_wp2_with fail
      refine ((byCourtK L E ao n cap w9 hI Hn.out hn1 Hc.out)).mono ?_
      rintro e w10 ⟨aor, capr, rfl, hPr, hbb⟩
      replace hI := hI.below hbb
      replace r0 := heap_keep hbb r0
      replace hB := hB.trans (hbb.mono hB.size)
      replace hPa := hPa.below hbb
      replace hPb := hPb.below hbb
      replace hPx := hPx.below hbb
      replace hPp := hPp.below hbb
      replace hPq := hPq.below hbb
      replace hPy := hPy.below hbb
      clear hbb
      obtain ⟨⟨c0, c1⟩, -, -⟩ := row_fr r0
      go_wp2_with fail
      refine ((byCourtK L T ao n cap w10 hI Hn.out hn1 HcT.out)).mono ?_
      rintro e w11 ⟨aos, caps, rfl, hPs, hbb⟩
      replace hI := hI.below hbb
      replace r0 := heap_keep hbb r0
      replace hB := hB.trans (hbb.mono hB.size)
      replace hPa := hPa.below hbb
      replace hPb := hPb.below hbb
      replace hPx := hPx.below hbb
      replace hPp := hPp.below hbb
      replace hPq := hPq.below hbb
      replace hPy := hPy.below hbb
      replace hPr := hPr.below hbb
      clear hbb
      obtain ⟨⟨c0, c1⟩, -, -⟩ := row_fr r0
      have hlnr : Hid (n = ((Cl.coL L E).map pr).length) := Lib.hid (by rw [List.length_map]; unfold Cl.coL; split <;> simp [Cl.coLo, Cl.coHi, Hn.out])
      have hchr : Hid (Cl.chC L E ((Cl.coL L E).map pr) = 0) := Lib.hid (by have h := Cl.ch_co L E; rwa [Cl.orR_ok Hc.out, Hc.out] at h)
      go_wp2_with fail
      refine ((lossesK L E _ ao n cap aor n capr w11 hI hPr Hn.out hlnr.out hn1 hn1 hchr.out)).mono ?_
      rintro e w12 ⟨aoz, capz, rfl, hPz, hbb⟩
      replace hI := hI.below hbb
      replace r0 := heap_keep hbb r0
      replace hB := hB.trans (hbb.mono hB.size)
      replace hPa := hPa.below hbb
      replace hPb := hPb.below hbb
      replace hPx := hPx.below hbb
      replace hPp := hPp.below hbb
      replace hPq := hPq.below hbb
      replace hPy := hPy.below hbb
      replace hPr := hPr.below hbb
      replace hPs := hPs.below hbb
      clear hbb
      obtain ⟨⟨c0, c1⟩, -, -⟩ := row_fr r0
      rw [Cl.turn_aw, ← HT.out] at hPx
      rw [Cl.turn_pa Hc.out, ← HT.out] at hPy
      rw [Cl.turn_co Hc.out, ← HT.out] at hPz
      have hlx : Hid (n = ((Cl.loL L T).map pr).length) := Lib.hid (by rw [List.length_map]; simp [Cl.loL, Hn.out])
      have hly : Hid (n = ((Cl.paL L T).map pr).length) := Lib.hid (by rw [List.length_map]; simp [Cl.paL, Hn.out])
      have hlz : Hid (n = ((Cl.coL L T).map pr).length) := Lib.hid (by rw [List.length_map]; unfold Cl.coL; split <;> simp [Cl.coLo, Cl.coHi, Hn.out])
      go_wp2_with fail
      refine ((sameRats_any _ _ aox n capx aob n capb w12 hPx hPb hlx.out hlx.out hn1 hn1)).mono ?_
      rintro e w13 ⟨rfl, hbb⟩
      replace hI := hI.below hbb
      replace r0 := heap_keep hbb r0
      replace hB := hB.trans (hbb.mono hB.size)
      replace hPa := hPa.below hbb
      replace hPb := hPb.below hbb
      replace hPx := hPx.below hbb
      replace hPp := hPp.below hbb
      replace hPq := hPq.below hbb
      replace hPy := hPy.below hbb
      replace hPr := hPr.below hbb
      replace hPs := hPs.below hbb
      replace hPz := hPz.below hbb
      clear hbb
      rw [decide_eq_true rfl]
      go_wp2_with fail
      refine ((sameRats_any _ _ aoy n capy aoq n capq w13 hPy hPq hly.out hly.out hn1 hn1)).mono ?_
      rintro e w14 ⟨rfl, hbb⟩
      replace hI := hI.below hbb
      replace r0 := heap_keep hbb r0
      replace hB := hB.trans (hbb.mono hB.size)
      replace hPa := hPa.below hbb
      replace hPb := hPb.below hbb
      replace hPx := hPx.below hbb
      replace hPp := hPp.below hbb
      replace hPq := hPq.below hbb
      replace hPy := hPy.below hbb
      replace hPr := hPr.below hbb
      replace hPs := hPs.below hbb
      replace hPz := hPz.below hbb
      clear hbb
      rw [decide_eq_true rfl]
      go_wp2_with fail
      refine ((sameRats_any _ _ aoz n capz aos n caps w14 hPz hPs hlz.out hlz.out hn1 hn1)).mono ?_
      rintro e w15 ⟨rfl, hbb⟩
      replace hI := hI.below hbb
      replace r0 := heap_keep hbb r0
      replace hB := hB.trans (hbb.mono hB.size)
      replace hPa := hPa.below hbb
      replace hPb := hPb.below hbb
      replace hPx := hPx.below hbb
      replace hPp := hPp.below hbb
      replace hPq := hPq.below hbb
      replace hPy := hPy.below hbb
      replace hPr := hPr.below hbb
      replace hPs := hPs.below hbb
      replace hPz := hPz.below hbb
      clear hbb
      rw [decide_eq_true rfl]
      go_wp2_with fail
      refine ((known_any w15)).mono ?_
      rintro e w16 ⟨rfl, hbb⟩
      replace hI := hI.below hbb
      replace r0 := heap_keep hbb r0
      replace hB := hB.trans (hbb.mono hB.size)
      replace hPa := hPa.below hbb
      replace hPb := hPb.below hbb
      replace hPx := hPx.below hbb
      replace hPp := hPp.below hbb
      replace hPq := hPq.below hbb
      replace hPy := hPy.below hbb
      replace hPr := hPr.below hbb
      replace hPs := hPs.below hbb
      replace hPz := hPz.below hbb
      clear hbb
      go_wp2_with fail
      go_ret
      exact ⟨rfl, hB⟩
    · have hcn : (Cl.caseC L E != 0) = true := by simpa using hc
      generalize Cl.caseC L E = C at hcn ⊢
      clear hc
      go_wp2_with fail
      refine ((known_any w3)).mono ?_
      rintro e w17 ⟨rfl, hbb⟩
      replace hI := hI.below hbb
      replace r0 := heap_keep hbb r0
      replace hB := hB.trans (hbb.mono hB.size)
      clear hbb
      go_wp2_with fail
      go_ret
      exact ⟨rfl, hB⟩
end Go.Proofs.Ytifhkagngjinfaa
