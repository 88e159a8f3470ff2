import Derived.Test.YtifhkagngjinfaaHe
import Derived.Test.YtifhkagngjinfaaLg
namespace Go.Proofs.Ytifhkagngjinfaa
open Go.RowKit
set_option maxRecDepth 100000 in
set_option maxHeartbeats 4000000 in
theorem claimWholes_any (L : List Int) (ao : Option Addr) (n cap : Nat) (E : Int) (A : List Int) (aoA : Option Addr) (nA capA : Nat) (w : World) (hI : Ints w ao L) (hln : n = L.length) (_ : ∀ x ∈ L, Rng x) (_ : Rng E) (hJ : Ints w aoA A) (hlA : nA = A.length) (_ : ∀ x ∈ A, Rng x) :
    Calls Try.prog 12 #[.agg #[.slice ao n cap, .int .i64 E], .slice aoA nA capA] w fun e w' => e = .returned (.bool true) ∧ Below w.heap.size w w' := by
  have Hn := Lib.hid hln
  have HA := Lib.hid hlA
  have r0 := heap_alloc_new w (.cells #[.slice ao n cap, .int .i64 E] 24)
  have hB : Below w.heap.size w (w.alloc (.cells #[.slice ao n cap, .int .i64 E] 24)) := (Below.refl _ w).alloc (Nat.le_refl _) _
  replace hI := hI.below ((Below.refl _ w).alloc (Nat.le_refl _) (.cells #[.slice ao n cap, .int .i64 E] 24))
  replace hJ := hJ.below ((Below.refl _ w).alloc (Nat.le_refl _) (.cells #[.slice ao n cap, .int .i64 E] 24))
  clear hln hlA
  go_enter Try.func12, Try.ntmps12
  go_upto_region 1 with fail
  generalize w.alloc (.cells #[.slice ao n cap, .int .i64 E] 24) = W at r0 hB hI hJ ⊢
  obtain ⟨G, hG⟩ : ∃ G, G = w.heap.size := ⟨_, rfl⟩
  rw [← hG] at r0 ⊢
  have HG := Lib.hid hG
  clear hG
  obtain ⟨⟨c0, c1⟩, -, -⟩ := row_fr r0
  go_wp2_with fail
  refine ((long_any n cap ao E W)).mono ?_
  rintro e w1 ⟨rfl, hbb⟩
  replace hI := hI.below hbb
  replace hJ := hJ.below hbb
  replace r0 := heap_keep hbb r0
  replace hB := hB.trans (hbb.mono hB.size)
  clear hbb
  obtain ⟨⟨c0, c1⟩, -, -⟩ := row_fr r0
  by_cases h1 : 40 < n
  · have e1 : decide (40 < n) = true := by simp [h1]
    rw [e1]
    go_wp2_with fail
    refine ((known_any w1)).mono ?_
    rintro e w2 ⟨rfl, hbb⟩
    replace hI := hI.below hbb
    replace hJ := hJ.below hbb
    replace r0 := heap_keep hbb r0
    replace hB := hB.trans (hbb.mono hB.size)
    clear hbb
    go_wp2_with fail
    go_ret
    exact ⟨rfl, hB⟩
  · have e1 : decide (40 < n) = false := by simp [h1]
    rw [e1]
    clear e1
    go_wp2_with fail
    refine (many_any nA capA aoA w1).mono ?_
    rintro e w2 ⟨rfl, hw0⟩; obtain rfl := hw0.symm
    clear hw0
    by_cases h2 : 40 < nA
    · have e1 : decide (40 < nA) = true := by simp [h2]
      rw [e1]
      go_wp2_with fail
      refine ((known_any w1)).mono ?_
      rintro e w3 ⟨rfl, hbb⟩
      replace hI := hI.below hbb
      replace hJ := hJ.below hbb
      replace r0 := heap_keep hbb r0
      replace hB := hB.trans (hbb.mono hB.size)
      clear hbb
      go_wp2_with fail
      go_ret
      exact ⟨rfl, hB⟩
    · have e1 : decide (40 < nA) = false := by simp [h2]
      rw [e1]
      clear e1
      have hn1 : n ≤ 100000 := by omega
      have hn2 : nA ≤ 100000 := by omega
      clear h1 h2
      go_wp2_with fail
      refine ((wholeU_any L E ao n cap w1 hI Hn.out hn1)).mono ?_
      rintro e w4 ⟨ao2, cap2, rfl, hI2, hbb⟩
      replace hI := hI.below hbb
      replace hJ := hJ.below hbb
      replace r0 := heap_keep hbb r0
      replace hB := hB.trans (hbb.mono hB.size)
      clear hbb
      obtain ⟨⟨c0, c1⟩, -, -⟩ := row_fr r0
      go_wp2_with fail
      refine ((rwholeU_any L E ao n cap w4 hI Hn.out hn1)).mono ?_
      rintro e w5 ⟨ao3, cap3, rfl, hI3, hbb⟩
      replace hI := hI.below hbb
      replace hJ := hJ.below hbb
      replace r0 := heap_keep hbb r0
      replace hB := hB.trans (hbb.mono hB.size)
      replace hI2 := hI2.below hbb
      clear hbb
      obtain ⟨⟨c0, c1⟩, -, -⟩ := row_fr r0
      have hrl : Hid ((Cl.wR L E).length ≤ 8) := Lib.hid (by
        by_cases hc : Cl.caseC L E = 0
        · rw [Cl.wR_ok hc, Cl.whole_len]
          exact (Cl.okC_iff.1 (Cl.caseC_ok.1 hc).1).2.1
        · rw [Cl.wR_no hc]; simp)
      have hcw := Lib.hid (Cl.cw_whole L E)
      obtain ⟨C, hC⟩ : ∃ C, C = Cl.caseC L E := ⟨_, rfl⟩
      obtain ⟨R, hR⟩ : ∃ R, R = Cl.wR L E := ⟨_, rfl⟩
      rw [← hC, ← hR] at hcw
      rw [← hR] at hrl hI2 hI3
      rw [← hC, ← hR]
      clear hC hR
      obtain ⟨r, hr⟩ : ∃ r, r = R.length := ⟨_, rfl⟩
      rw [← hr] at hrl ⊢
      have Hr := Lib.hid hr
      have hr8 : r ≤ 8 := hrl.out
      clear hr hrl
      obtain ⟨D, hD⟩ : ∃ D, D = Cl.cwC L E A := ⟨_, rfl⟩
      have HS1 : Hid (∀ w', Below w5.heap.size w5 w' → Calls Try.prog 45 #[.slice ao2 r cap2, .slice ao3 r cap3] w' fun e w'' => e = .returned (.bool true) ∧ Below w'.heap.size w' w'') := Lib.hid (fun w' hb => by
        have := sameInts_any R R ao2 r cap2 ao3 r cap3 w' (hI2.below hb) (hI3.below hb) Hr.out Hr.out (by omega) (by omega)
        rwa [show decide (R = R) = true by simp] at this)
      have HS2 : Hid (∀ w', Below w5.heap.size w5 w' → Calls Try.prog 46 #[.slice ao n cap, .int .i64 E, .slice aoA nA capA] w' fun e w'' => e = .returned (.int .i64 D) ∧ Below w'.heap.size w' w'') := Lib.hid (fun w' hb => by
        rw [hD]; exact checkWhole_any L E A ao n cap aoA nA capA w' (hI.below hb) (hJ.below hb) Hn.out HA.out hn1 hn2)
      have HS3 : Hid (∀ w', Below w5.heap.size w5 w' → Calls Try.prog 47 #[.slice ao n cap, .int .i64 E, .slice aoA nA capA] w' fun e w'' => e = .returned (.int .i64 D) ∧ Below w'.heap.size w' w'') := Lib.hid (fun w' hb => by
        rw [hD]; exact rcheckWhole_any L E A ao n cap aoA nA capA w' (hI.below hb) (hJ.below hb) Hn.out HA.out hn1 hn2)
      clear hD
      go_upto_region 5 with fail
      go_cut [55] from 32 to 55 (fun s55 wx => s55 = .bool false ∧ Below w5.heap.size w5 wx)
      case first =>
        have hbq := below_drewN (Below.refl w5.heap.size w5) 1
        go_region_held3 (fun w' => w'.cell? ⟨G, 0, none⟩ = some (.slice ao n cap) ∧ w'.cell? ⟨G, 1, none⟩ = some (.int .i64 E) ∧ Below w5.heap.size w5 w')
          (first | exact ⟨c0, c1, hbq⟩ | exact ka)
          (first
            | (go_at_call 45; refine (HS1.out _ (by go_split_ands; assumption)).mono ?_; rintro e w8 ⟨rfl, hb8⟩; have ka := And.intro (keep_cell (g := G) (o := 0) hb8 (by go_split_ands; assumption)) (And.intro (keep_cell (g := G) (o := 1) hb8 (by go_split_ands; assumption)) (Below.trans (a := w5) (by go_split_ands; assumption) (hb8.mono (Below.size (by go_split_ands; assumption))))))
            | (go_at_call 46; refine (HS2.out _ (by go_split_ands; assumption)).mono ?_; rintro e w8 ⟨rfl, hb8⟩; have ka := And.intro (keep_cell (g := G) (o := 0) hb8 (by go_split_ands; assumption)) (And.intro (keep_cell (g := G) (o := 1) hb8 (by go_split_ands; assumption)) (Below.trans (by go_split_ands; assumption) (hb8.mono (Below.size (by go_split_ands; assumption))))))
            | (go_at_call 47; refine (HS3.out _ (by go_split_ands; assumption)).mono ?_; rintro e w8 ⟨rfl, hb8⟩; have ka := And.intro (keep_cell (g := G) (o := 0) hb8 (by go_split_ands; assumption)) (And.intro (keep_cell (g := G) (o := 1) hb8 (by go_split_ands; assumption)) (Below.trans (by go_split_ands; assumption) (hb8.mono (Below.size (by go_split_ands; assumption)))))))
        all_goals go_wp2_with fail
        all_goals go_meet
        all_goals exact ⟨rfl, by go_split_ands; assumption⟩
      case rest =>
        obtain ⟨rfl, hbx⟩ := hcut
        replace hI := hI.below hbx
        replace hJ := hJ.below hbx
        replace r0 := heap_keep hbx r0
        replace hB := hB.trans (hbx.mono hB.size)
        replace hI2 := hI2.below hbx
        clear HS1 HS2 HS3 hI3
        obtain ⟨⟨c0, c1⟩, -, -⟩ := row_fr r0
        go_wp2_with fail
        refine ((checkWhole_any L E R ao n cap ao2 r cap2 wc hI hI2 Hn.out Hr.out hn1 (by omega))).mono ?_
        rintro e w6 ⟨rfl, hbb⟩
        replace hI := hI.below hbb
        replace hJ := hJ.below hbb
        replace r0 := heap_keep hbb r0
        replace hB := hB.trans (hbb.mono hB.size)
        replace hI2 := hI2.below hbb
        clear hbb
        rw [hcw.out]
        go_wp2_with fail
        refine ((known_any w6)).mono ?_
        rintro e w7 ⟨rfl, hbb⟩
        replace hI := hI.below hbb
        replace hJ := hJ.below hbb
        replace r0 := heap_keep hbb r0
        replace hB := hB.trans (hbb.mono hB.size)
        replace hI2 := hI2.below hbb
        clear hbb
        go_wp2_with fail
        go_ret
        exact ⟨rfl, hB⟩
end Go.Proofs.Ytifhkagngjinfaa
