import Derived.Test.YtifhkagngjinfaaWc
import Derived.Test.YtifhkagngjinfaaLg
namespace Go.Proofs.Ytifhkagngjinfaa
open Go.RowKit
set_option maxRecDepth 100000 in
set_option maxHeartbeats 20000000 in
theorem claimEvens_any (L : List Int) (ao : Option Addr) (n cap : Nat) (E : Int) (A : List (Int × Int)) (aoA : Option Addr) (nA capA : Nat) (w : World) (hI : Ints w ao L) (hln : n = L.length) (_ : ∀ x ∈ L, Rng x) (_ : Rng E) (hJ : Pts w aoA A) (hlA : nA = A.length) (_ : ∀ z ∈ A, Rng z.1 ∧ Rng z.2) :
    Calls Try.prog 11 #[.agg #[.slice ao n cap, .int .i64 E], .slice aoA nA capA] w fun e w' => e = .returned (.bool true) ∧ Below w.heap.size w w' := by
  have Hn := Lib.hid hln
  have r0 := heap_alloc_new w (.cells #[.slice ao n cap, .int .i64 E] 24)
  have hB : Below w.heap.size w (w.alloc (.cells #[.slice ao n cap, .int .i64 E] 24)) := (Below.refl _ w).alloc (Nat.le_refl _) _
  replace hI := hI.below ((Below.refl _ w).alloc (Nat.le_refl _) (.cells #[.slice ao n cap, .int .i64 E] 24))
  replace hJ := hJ.below ((Below.refl _ w).alloc (Nat.le_refl _) (.cells #[.slice ao n cap, .int .i64 E] 24))
  have HA := Lib.hid hlA
  clear hln hlA
  go_enter Try.func11, Try.ntmps11
  go_upto_region 1 with fail
  generalize w.alloc (.cells #[.slice ao n cap, .int .i64 E] 24) = W at r0 hB hI hJ ⊢
  obtain ⟨G, hG⟩ : ∃ G, G = w.heap.size := ⟨_, rfl⟩
  rw [← hG] at r0 ⊢
  clear hG
  obtain ⟨⟨c0, c1⟩, -, -⟩ := row_fr r0
  go_wp2_with fail
  refine ((long_any n cap ao E W)).mono ?_
  rintro e w1 ⟨rfl, hbb⟩
  replace hI := hI.below hbb
  replace hJ := hJ.below hbb
  replace r0 := heap_keep hbb r0
  replace hB := hB.trans (hbb.mono hB.size)
  clear hbb
  obtain ⟨⟨c0, c1⟩, -, -⟩ := row_fr r0
  by_cases h1 : 40 < n
  · have e1 : decide (40 < n) = true := by simp [h1]
    rw [e1]
    go_wp2_with fail
    refine ((known_any w1)).mono ?_
    rintro e w2 ⟨rfl, hbb⟩
    replace hI := hI.below hbb
    replace hJ := hJ.below hbb
    replace r0 := heap_keep hbb r0
    replace hB := hB.trans (hbb.mono hB.size)
    clear hbb
    go_wp2_with fail
    go_ret
    exact ⟨rfl, hB⟩
  · have e1 : decide (40 < n) = false := by simp [h1]
    rw [e1]
    clear e1
    by_cases h2 : 40 < nA
    · go_wp2_with fail
      refine ((known_any w1)).mono ?_
      rintro e w3 ⟨rfl, hbb⟩
      replace hI := hI.below hbb
      replace hJ := hJ.below hbb
      replace r0 := heap_keep hbb r0
      replace hB := hB.trans (hbb.mono hB.size)
      clear hbb
      go_wp2_with fail
      go_ret
      exact ⟨rfl, hB⟩
    have hn1 : n ≤ 100000 := by omega
    have hn2 : nA ≤ 100000 := by omega
    clear h1
    go_wp2_with fail
    refine ((check_any L E A ao n cap aoA nA capA w1 hI hJ Hn.out HA.out hn1 hn2)).mono ?_
    rintro e w4 ⟨rfl, hbb⟩
    replace hI := hI.below hbb
    replace hJ := hJ.below hbb
    replace r0 := heap_keep hbb r0
    replace hB := hB.trans (hbb.mono hB.size)
    clear hbb
    obtain ⟨⟨c0, c1⟩, -, -⟩ := row_fr r0
    clear h2
    by_cases hc : Cl.chC L E A = 0
    · have Hc := Lib.hid hc
      have Hc0 := Lib.hid (Cl.ch_ok hc).1
      have hnA : nA = n := by rw [HA.out, Hn.out]; exact (Cl.ch_ok hc).2.1
      subst hnA
      have hX := Cl.even_aw hc
      have hY := Cl.even_lo hc
      have hq := Cl.ch_lo L E
      rw [Cl.orR_ok Hc0.out, Hc0.out] at hq
      rw [hc]
      clear hc
      have hla : Hid (nA = ((Cl.awL L E).map pr).length) := Lib.hid (by rw [Hn.out]; simp [Cl.awL])
      have hlb : Hid (nA = ((Cl.loL L E).map pr).length) := Lib.hid (by rw [Hn.out]; simp [Cl.loL])
      have hlx : Hid (nA = ((Cl.lsL L ((Cl.loL L E).map pr)).map pr).length) := Lib.hid (by rw [Hn.out]; simp [Cl.lsL, Cl.loL])
      have hly : Hid (nA = ((Cl.lsL L A).map pr).length) := Lib.hid (by rw [List.length_map]; unfold Cl.lsL; rw [List.length_zipWith, ← HA.out, ← Hn.out, Nat.min_self])
      go_wp2_with fail
      refine ((byAwardsK L E ao nA cap w4 hI Hn.out hn1 Hc0.out)).mono ?_
      rintro e w5 ⟨aoa, capa, rfl, hP1, hbb⟩
      replace hI := hI.below hbb
      replace hJ := hJ.below hbb
      replace r0 := heap_keep hbb r0
      replace hB := hB.trans (hbb.mono hB.size)
      clear hbb
      obtain ⟨⟨c0, c1⟩, -, -⟩ := row_fr r0
      go_wp2_with fail
      refine ((moreEq_any _ A aoa nA capa aoA nA capA w5 hP1 hJ hla.out HA.out hn1 hn1)).mono ?_
      rintro e w6 ⟨rfl, hbb⟩
      replace hI := hI.below hbb
      replace hJ := hJ.below hbb
      replace r0 := heap_keep hbb r0
      replace hB := hB.trans (hbb.mono hB.size)
      replace hP1 := hP1.below hbb
      clear hbb
      rw [hX.1, hX.2]
      clear hX
      obtain ⟨⟨c0, c1⟩, -, -⟩ := row_fr r0
      go_wp2_with fail
      refine ((byLossesK L E ao nA cap w6 hI Hn.out hn1 Hc0.out)).mono ?_
      rintro e w7 ⟨aob, capb, rfl, hP2, hbb⟩
      replace hI := hI.below hbb
      replace hJ := hJ.below hbb
      replace r0 := heap_keep hbb r0
      replace hB := hB.trans (hbb.mono hB.size)
      replace hP1 := hP1.below hbb
      clear hbb
      obtain ⟨⟨c0, c1⟩, -, -⟩ := row_fr r0
      go_wp2_with fail
      refine ((lossesK L E _ ao nA cap aob nA capb w7 hI hP2 Hn.out hlb.out hn1 hn1 hq)).mono ?_
      rintro e w8 ⟨aox, capx, rfl, hP3, hbb⟩
      replace hI := hI.below hbb
      replace hJ := hJ.below hbb
      replace r0 := heap_keep hbb r0
      replace hB := hB.trans (hbb.mono hB.size)
      replace hP2 := hP2.below hbb
      clear hbb
      obtain ⟨⟨c0, c1⟩, -, -⟩ := row_fr r0
      go_wp2_with fail
      refine ((lossesK L E A ao nA cap aoA nA capA w8 hI hJ Hn.out HA.out hn1 hn1 Hc.out)).mono ?_
      rintro e w9 ⟨aoy, capy, rfl, hP4, hbb⟩
      replace hI := hI.below hbb
      replace hJ := hJ.below hbb
      replace r0 := heap_keep hbb r0
      replace hB := hB.trans (hbb.mono hB.size)
      replace hP3 := hP3.below hbb
      clear hbb
      obtain ⟨⟨c0, c1⟩, -, -⟩ := row_fr r0
      go_wp2_with fail
      refine ((moreEq_any _ _ aox nA capx aoy nA capy w9 hP3 hP4 hlx.out hly.out hn1 hn1)).mono ?_
      rintro e w10 ⟨rfl, hbb⟩
      replace hB := hB.trans (hbb.mono hB.size)
      clear hbb
      rw [hY.1, hY.2]
      clear hY hP1 hP2 hP3 hP4
      go_wp2_with fail
      refine ((known_any w10)).mono ?_
      rintro e w11 ⟨rfl, hbb⟩
      replace hB := hB.trans (hbb.mono hB.size)
      clear hbb
      go_wp2_with fail
      go_ret
      exact ⟨rfl, hB⟩
    · have e2 : ¬ (Cl.chC L E A = 0) := hc
      generalize Cl.chC L E A = C at e2 ⊢
      have e3 : (C != 0) = true := by simp [e2]
      clear hc
      go_wp2_with fail
      refine ((known_any w4)).mono ?_
      rintro e w12 ⟨rfl, hbb⟩
      replace hB := hB.trans (hbb.mono hB.size)
      clear hbb
      go_wp2_with fail
      go_ret
      exact ⟨rfl, hB⟩
end Go.Proofs.Ytifhkagngjinfaa
