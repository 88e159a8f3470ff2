import Derived.Test.YtifhkagngjinfaaTw
import Derived.Test.YtifhkagngjinfaaLg
namespace Go.Proofs.Ytifhkagngjinfaa
open Go.RowKit
set_option maxRecDepth 100000 in
set_option maxHeartbeats 4000000 in
theorem claimTwo_any (L : List Int) (ao : Option Addr) (n cap : Nat) (E : Int) (w : World) (hI : Ints w ao L) (hln : n = L.length) (_ : ∀ x ∈ L, Rng x) (_ : Rng E) :
    Calls Try.prog 9 #[.agg #[.slice ao n cap, .int .i64 E]] w fun e w' => e = .returned (.bool true) ∧ Below w.heap.size w w' := by
  have Hn := Lib.hid hln
  have r0 := heap_alloc_new w (.cells #[.slice ao n cap, .int .i64 E] 24)
  have hB : Below w.heap.size w (w.alloc (.cells #[.slice ao n cap, .int .i64 E] 24)) := (Below.refl _ w).alloc (Nat.le_refl _) _
  replace hI := hI.below ((Below.refl _ w).alloc (Nat.le_refl _) (.cells #[.slice ao n cap, .int .i64 E] 24))
  clear hln
  go_enter Try.func9, Try.ntmps9
  go_upto_region 1 with fail
  generalize w.alloc (.cells #[.slice ao n cap, .int .i64 E] 24) = W at r0 hB hI ⊢
  obtain ⟨G, hG⟩ : ∃ G, G = w.heap.size := ⟨_, rfl⟩
  rw [← hG] at r0 ⊢
  clear hG
  obtain ⟨⟨c0, c1⟩, -, -⟩ := row_fr r0
  go_wp2_with fail
  refine ((long_any n cap ao E W)).mono ?_
  rintro e w1 ⟨rfl, hbb⟩
  replace hI := hI.below hbb
  replace r0 := heap_keep hbb r0
  replace hB := hB.trans (hbb.mono hB.size)
  clear hbb
  obtain ⟨⟨c0, c1⟩, -, -⟩ := row_fr r0
  by_cases h1 : 40 < n
  · have e1 : decide (40 < n) = true := by simp [h1]
    rw [e1]
    go_wp2_with fail
    refine ((known_any w1)).mono ?_
    rintro e w2 ⟨rfl, hbb⟩
    replace hI := hI.below hbb
    replace r0 := heap_keep hbb r0
    replace hB := hB.trans (hbb.mono hB.size)
    clear hbb
    go_wp2_with fail
    go_ret
    exact ⟨rfl, hB⟩
  · have e1 : decide (40 < n) = false := by simp [h1]
    rw [e1]
    clear e1
    have hn1 : n ≤ 100000 := by omega
    clear h1
    go_wp2_with fail
    refine ((twoU L E ao n cap w1 hI Hn.out hn1)).mono ?_
    rintro e w3 ⟨aoa, capa, rfl, hPa, hbb⟩
    replace hI := hI.below hbb
    replace r0 := heap_keep hbb r0
    replace hB := hB.trans (hbb.mono hB.size)
    clear hbb
    obtain ⟨⟨c0, c1⟩, -, -⟩ := row_fr r0
    go_wp2_with fail
    refine ((rtwoU L E ao n cap w3 hI Hn.out hn1)).mono ?_
    rintro e w4 ⟨aob, capb, rfl, hPb, hbb⟩
    replace hI := hI.below hbb
    replace r0 := heap_keep hbb r0
    replace hB := hB.trans (hbb.mono hB.size)
    replace hPa := hPa.below hbb
    clear hbb
    obtain ⟨⟨c0, c1⟩, -, -⟩ := row_fr r0
    have hrl : Hid ((Cl.twR L E).length ≤ 2) := Lib.hid (by
      unfold Cl.twR
      split
      · simp [Cl.twL]
      · simp)
    have hl1 : Hid ((Cl.twR L E).length = ((Cl.twR L E).map pr).length) := Lib.hid (by simp)
    go_wp2_with fail
    refine ((sameRats_any _ _ aoa _ capa aob _ capb w4 hPa hPb hl1.out hl1.out (by have := hrl.out; omega) (by have := hrl.out; omega))).mono ?_
    rintro e w5 ⟨rfl, hbb⟩
    replace hI := hI.below hbb
    replace r0 := heap_keep hbb r0
    replace hB := hB.trans (hbb.mono hB.size)
    replace hPa := hPa.below hbb
    replace hPb := hPb.below hbb
    clear hbb
    rw [decide_eq_true rfl]
    obtain ⟨⟨c0, c1⟩, -, -⟩ := row_fr r0
    by_cases hc : Cl.twC L E = 0
    · have hz := Cl.tw_zero hc
      have hR := Cl.twR_ok hc
      have ht := Cl.tw_court hc
      have Hc := Lib.hid hz.1
      have hlen : Hid ((Cl.twR L E).length = n) := Lib.hid (by rw [hR, ← ht]; unfold Cl.coL; split <;> simp [Cl.coLo, Cl.coHi, Hn.out])
      have hn2 : Hid (n = ((Cl.coL L E).map pr).length) := Lib.hid (by rw [List.length_map]; unfold Cl.coL; split <;> simp [Cl.coLo, Cl.coHi, Hn.out])
      have hRc := Lib.hid (hR.trans ht.symm)
      rw [hRc.out] at hPa
      rw [hlen.out, hc]
      clear hz hR ht hPb hc
      go_wp2_with fail
      refine ((byCourtK L E ao n cap w5 hI Hn.out hn1 Hc.out)).mono ?_
      rintro e w6 ⟨aoc, capc, rfl, hPc, hbb⟩
      replace hI := hI.below hbb
      replace r0 := heap_keep hbb r0
      replace hB := hB.trans (hbb.mono hB.size)
      replace hPa := hPa.below hbb
      clear hbb
      obtain ⟨⟨c0, c1⟩, -, -⟩ := row_fr r0
      go_wp2_with fail
      refine ((sameRats_any _ _ aoc _ capc aoa _ capa w6 hPc hPa hn2.out hn2.out hn1 hn1)).mono ?_
      rintro e w7 ⟨rfl, hbb⟩
      replace hI := hI.below hbb
      replace r0 := heap_keep hbb r0
      replace hB := hB.trans (hbb.mono hB.size)
      replace hPa := hPa.below hbb
      replace hPc := hPc.below hbb
      clear hbb
      rw [decide_eq_true rfl]
      go_wp2_with fail
      refine ((known_any w7)).mono ?_
      rintro e w8 ⟨rfl, hbb⟩
      replace hI := hI.below hbb
      replace r0 := heap_keep hbb r0
      replace hB := hB.trans (hbb.mono hB.size)
      replace hPa := hPa.below hbb
      replace hPc := hPc.below hbb
      clear hbb
      go_wp2_with fail
      go_ret
      exact ⟨rfl, hB⟩
    · have hcn : (Cl.twC L E != 0) = true := by simpa using hc
      generalize Cl.twC L E = C at hcn ⊢
      clear hc
      go_wp2_with fail
      refine ((known_any w5)).mono ?_
      rintro e w9 ⟨rfl, hbb⟩
      replace hI := hI.below hbb
      replace r0 := heap_keep hbb r0
      replace hB := hB.trans (hbb.mono hB.size)
      clear hbb
      go_wp2_with fail
      go_ret
      exact ⟨rfl, hB⟩
end Go.Proofs.Ytifhkagngjinfaa
