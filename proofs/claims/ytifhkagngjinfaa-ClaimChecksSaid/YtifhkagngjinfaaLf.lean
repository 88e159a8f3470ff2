import Derived.Test.YtifhkagngjinfaaNd
import Derived.Test.YtifhkagngjinfaaLg
import Derived.Test.YtifhkagngjinfaaRb
namespace Go.Proofs.Ytifhkagngjinfaa
open Go.RowKit
set_option maxRecDepth 100000 in
set_option maxHeartbeats 4000000 in
theorem claimChecks_any (L : List Int) (ao : Option Addr) (n cap : Nat) (E : Int) (A : List (Int × Int)) (aoA : Option Addr) (nA capA : Nat) (w : World) (hI : Ints w ao L) (hln : n = L.length) (_ : ∀ x ∈ L, Rng x) (_ : Rng E) (hJ : Pts w aoA A) (hlA : nA = A.length) (_ : ∀ x ∈ A, Rng x.1 ∧ Rng x.2) :
    Calls Try.prog 6 #[.agg #[.slice ao n cap, .int .i64 E], .slice aoA nA capA] w fun e w' => e = .returned (.bool true) ∧ Below w.heap.size w w' := by
  have Hn := Lib.hid hln
  have r0 := heap_alloc_new w (.cells #[.slice ao n cap, .int .i64 E] 24)
  have hB : Below w.heap.size w (w.alloc (.cells #[.slice ao n cap, .int .i64 E] 24)) := (Below.refl _ w).alloc (Nat.le_refl _) _
  replace hI := hI.below ((Below.refl _ w).alloc (Nat.le_refl _) (.cells #[.slice ao n cap, .int .i64 E] 24))
  replace hJ := hJ.below ((Below.refl _ w).alloc (Nat.le_refl _) (.cells #[.slice ao n cap, .int .i64 E] 24))
  have HA := Lib.hid hlA
  clear hln hlA
  go_enter Try.func6, Try.ntmps6
  go_upto_region 1 with fail
  generalize w.alloc (.cells #[.slice ao n cap, .int .i64 E] 24) = W at r0 hB hI hJ ⊢
  obtain ⟨G, hG⟩ : ∃ G, G = w.heap.size := ⟨_, rfl⟩
  rw [← hG] at r0 ⊢
  clear hG
  obtain ⟨⟨c0, c1⟩, -, -⟩ := row_fr r0
  go_wp2_with fail
  refine ((long_any n cap ao E W)).mono ?_
  rintro e w1 ⟨rfl, hbb⟩
  replace hI := hI.below hbb
  replace hJ := hJ.below hbb
  replace r0 := heap_keep hbb r0
  replace hB := hB.trans (hbb.mono hB.size)
  clear hbb
  obtain ⟨⟨c0, c1⟩, -, -⟩ := row_fr r0
  by_cases h1 : 40 < n
  · have e1 : decide (40 < n) = true := by simp [h1]
    rw [e1]
    go_wp2_with fail
    refine ((known_any w1)).mono ?_
    rintro e w2 ⟨rfl, hbb⟩
    replace hI := hI.below hbb
    replace hJ := hJ.below hbb
    replace r0 := heap_keep hbb r0
    replace hB := hB.trans (hbb.mono hB.size)
    clear hbb
    go_wp2_with fail
    go_ret
    exact ⟨rfl, hB⟩
  · have e1 : decide (40 < n) = false := by simp [h1]
    rw [e1]
    clear e1
    by_cases h2 : 40 < nA
    · go_wp2_with fail
      refine ((known_any w1)).mono ?_
      rintro e w3 ⟨rfl, hbb⟩
      replace hI := hI.below hbb
      replace hJ := hJ.below hbb
      replace r0 := heap_keep hbb r0
      replace hB := hB.trans (hbb.mono hB.size)
      clear hbb
      go_wp2_with fail
      go_ret
      exact ⟨rfl, hB⟩
    have hn1 : n ≤ 100000 := by omega
    have hn2 : nA ≤ 100000 := by omega
    have hn40 : nA ≤ 40 := by omega
    clear h1
    go_wp2_with fail
    refine ((losses_any L E A ao n cap aoA nA capA w1 hI hJ Hn.out HA.out hn1 hn2)).mono ?_
    rintro e w4 ⟨aoa, capa, rfl, hP1a, hbb⟩
    replace hI := hI.below hbb
    replace hJ := hJ.below hbb
    replace r0 := heap_keep hbb r0
    replace hB := hB.trans (hbb.mono hB.size)
    clear hbb
    obtain ⟨⟨c0, c1⟩, -, -⟩ := row_fr r0
    go_wp2_with fail
    refine ((rlosses_any L E A ao n cap aoA nA capA w4 hI hJ Hn.out HA.out hn1 hn2)).mono ?_
    rintro e w5 ⟨aob, capb, rfl, hP1b, hbb⟩
    replace hI := hI.below hbb
    replace hJ := hJ.below hbb
    replace r0 := heap_keep hbb r0
    replace hB := hB.trans (hbb.mono hB.size)
    replace hP1a := hP1a.below hbb
    clear hbb
    obtain ⟨⟨c0, c1⟩, -, -⟩ := row_fr r0
    clear h2
    have hrl : Hid ((Cl.lsR L E A).length ≤ 40) := Lib.hid (by
      have := HA.out
      unfold Cl.lsR
      split
      · unfold Cl.lsL; rw [List.length_zipWith]; omega
      · simp)
    obtain ⟨R1, hR1⟩ : ∃ R, R = (Cl.lsR L E A).map pr := ⟨_, rfl⟩
    have hl1 : Hid ((Cl.lsR L E A).length = R1.length) := Lib.hid (by rw [hR1]; simp)
    obtain ⟨r1, hr1⟩ : ∃ r, r = (Cl.lsR L E A).length := ⟨_, rfl⟩
    rw [← hr1] at hrl hl1 ⊢
    rw [← hR1] at hP1a hP1b
    have hr81 : r1 ≤ 40 := hrl.out
    clear hr1 hR1 hrl
    obtain ⟨C, hC⟩ : ∃ C, C = Cl.chC L E A := ⟨_, rfl⟩
    rw [← hC]
    have HS1 : Hid (∀ w', Below w5.heap.size w5 w' → Calls Try.prog 22 #[.slice ao n cap, .int .i64 E, .slice aoA nA capA] w' fun e w'' => e = .returned (.int .i64 C) ∧ Below w'.heap.size w' w'') := Lib.hid (fun w' hb => by
      rw [hC]; exact check_any L E A ao n cap aoA nA capA w' (hI.below hb) (hJ.below hb) Hn.out HA.out hn1 hn2)
    have HS2 : Hid (∀ w', Below w5.heap.size w5 w' → Calls Try.prog 35 #[.slice ao n cap, .int .i64 E, .slice aoA nA capA] w' fun e w'' => e = .returned (.int .i64 C) ∧ Below w'.heap.size w' w'') := Lib.hid (fun w' hb => by
      rw [hC]; exact rcheck_any L E A ao n cap aoA nA capA w' (hI.below hb) (hJ.below hb) Hn.out HA.out hn1 hn2)
    have HS3 : Hid (∀ w', Below w5.heap.size w5 w' → Calls Try.prog 21 #[.slice aoa r1 capa, .slice aob r1 capb] w' fun e w'' => e = .returned (.bool true) ∧ Below w'.heap.size w' w'') := Lib.hid (fun w' hb => by
      have := sameRats_any R1 R1 aoa r1 capa aob r1 capb w' (hP1a.below hb) (hP1b.below hb) hl1.out hl1.out (by omega) (by omega)
      rwa [show decide (R1 = R1) = true by simp] at this)
    have HS5 : Hid (∀ w', Below w5.heap.size w5 w' → Calls Try.prog 16 #[] w' fun e w'' => e = .returned (.bool true) ∧ Below w'.heap.size w' w'') := Lib.hid (fun w' hb => by
      exact known_any w')
    clear hC
    go_upto_region 5 with fail
    go_cut [4] from 35 to 60 (fun s2 wx => s2 = .bool true ∧ Below w5.heap.size w5 wx)
    case first =>
      have hbq := below_drewN (Below.refl w5.heap.size w5) 1
      go_region_held3 (fun w' => w'.cell? ⟨G, 0, none⟩ = some (.slice ao n cap) ∧ w'.cell? ⟨G, 1, none⟩ = some (.int .i64 E) ∧ Below w5.heap.size w5 w')
        (first | exact ⟨c0, c1, hbq⟩ | exact ka)
        (first
          | (go_at_call 22; refine (HS1.out _ (by go_split_ands; assumption)).mono ?_; rintro e w8 ⟨rfl, hb8⟩; have ka := And.intro (keep_cell (g := G) (o := 0) hb8 (by go_split_ands; assumption)) (And.intro (keep_cell (g := G) (o := 1) hb8 (by go_split_ands; assumption)) (Below.trans (by go_split_ands; assumption) (hb8.mono (Below.size (by go_split_ands; assumption))))))
          | (go_at_call 35; refine (HS2.out _ (by go_split_ands; assumption)).mono ?_; rintro e w8 ⟨rfl, hb8⟩; have ka := And.intro (keep_cell (g := G) (o := 0) hb8 (by go_split_ands; assumption)) (And.intro (keep_cell (g := G) (o := 1) hb8 (by go_split_ands; assumption)) (Below.trans (by go_split_ands; assumption) (hb8.mono (Below.size (by go_split_ands; assumption))))))
          | (go_at_call 21; refine (HS3.out _ (by go_split_ands; assumption)).mono ?_; rintro e w8 ⟨rfl, hb8⟩; have ka := And.intro (keep_cell (g := G) (o := 0) hb8 (by go_split_ands; assumption)) (And.intro (keep_cell (g := G) (o := 1) hb8 (by go_split_ands; assumption)) (Below.trans (by go_split_ands; assumption) (hb8.mono (Below.size (by go_split_ands; assumption))))))
          | (go_at_call 16; refine (HS5.out _ (by go_split_ands; assumption)).mono ?_; rintro e w8 ⟨rfl, hb8⟩; have ka := And.intro (keep_cell (g := G) (o := 0) hb8 (by go_split_ands; assumption)) (And.intro (keep_cell (g := G) (o := 1) hb8 (by go_split_ands; assumption)) (Below.trans (by go_split_ands; assumption) (hb8.mono (Below.size (by go_split_ands; assumption)))))))
      all_goals go_wp2_with fail
      all_goals go_meet
      all_goals exact ⟨rfl, by go_split_ands; assumption⟩
    case rest =>
      obtain ⟨rfl, hbx⟩ := hcut
      replace hB := hB.trans (hbx.mono hB.size)
      go_wp2_with fail
      go_ret
      exact ⟨rfl, hB⟩
end Go.Proofs.Ytifhkagngjinfaa
