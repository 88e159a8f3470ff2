import Derived.Test.YteecfdjphjkdkaaMa
import Derived.Test.YteecfdjphjkdkaaFq
import Derived.Test.YteecfdjphjkdkaaFr
namespace Go.Proofs.Yteecfdjphjkdkaa
open Go.RowKit
set_option maxRecDepth 100000 in
set_option maxHeartbeats 4000000 in
theorem rbyAwardsU (L : List Int) (E : Int) (ao : Option Addr) (n cap : Nat) (w : World) (hI : Ints w ao L) (hln : n = L.length) (hn : n ≤ 100000) :
    Calls Try.prog 24 #[.slice ao n cap, .int .i64 E] w fun e w' => ∃ ao2 cap2, e = .returned (.tuple #[.slice ao2 (Cl.orR L E (Cl.awL L E)).length cap2, .int .i64 (Cl.caseC L E)]) ∧ Pts w' ao2 ((Cl.orR L E (Cl.awL L E)).map pr) ∧ Below w.heap.size w w' := by
  by_cases hc : Cl.caseC L E = 0
  · obtain ⟨a1, a2, a3⟩ := Cl.caseC_ok.1 hc
    have hl : n = (Cl.awL L E).length := by unfold Cl.awL; simp [hln]
    have HALL := Lib.hid (And.intro a1 (And.intro a2 a3))
    have HC := Lib.hid (Cl.okC_iff.1 a1)
    have Hn := Lib.hid hln
    have Hl := Lib.hid hl
    have Hc := Lib.hid hc
    have hn8 : n ≤ 8 := by have := HC.out; omega
    have hS8 : 0 ≤ Fl.sumI L ∧ Fl.sumI L ≤ 8000 := by
      have h := Cl.sum_small (B := 1000) (by omega) (l := L) (fun x hx => by have := HC.out.2.2 x hx; omega)
      have h2 := Cl.sum_nonneg (l := L) (fun x hx => by have := HC.out.2.2 x hx; omega)
      have := HC.out; omega
    have hE : 0 ≤ E ∧ E ≤ 8000 := by omega
    have hB := Below.refl w.heap.size w
    have HI0 := Lib.hid hI
    rw [Cl.orR_ok hc, hc]
    clear hln hl a1 a2 a3
    go_enter Try.func24, Try.ntmps24
    go_wp2_with fail
    refine (rvalidate_any L E ao n cap w hI Hn.out hn).mono ?_
    rintro e w1 ⟨rfl, hw0⟩; obtain rfl := hw0.symm
    rw [Hc.out]
    clear hw0 hc
    go_wp2_with fail
    refine (rlevel_any L (E) ao n cap w hI Hn.out HALL.out.1 HALL.out.2.1 HALL.out.2.2).mono ?_
    rintro e w2 ⟨a, d, hL, rfl, hb2⟩
    rw [Cl.lvl_eq hL]
    clear hL
    have hq := Cl.lvl_ok HALL.out.1 (E := E) HALL.out.2.1 HALL.out.2.2
    obtain ⟨q, hqd⟩ : ∃ q, q = Cl.lvl L (E) := ⟨_, rfl⟩
    have hspec : Hid (Cl.awL L E = (L.map fun c : Int => min (c * (q.den : Int)) q.num).map fun x => mkRat x (q.den)) := Lib.hid (by unfold Cl.awL; rw [hqd, List.map_map]; rfl)
    rw [← hqd] at hq ⊢
    clear hqd
    have hqb : q.den ≤ 8 ∧ 0 ≤ q.num ∧ q.num ≤ 8000 := ⟨hq.2.2.1, hq.1, hq.2.1⟩
    have hd1 : 1 ≤ q.den := q.den_pos
    clear hq
    replace hI := hI.below hb2
    replace hB := hB.trans (hb2.mono hB.size)
    clear hb2
    rw [show Fr q = .agg #[.int .i64 q.num, .int .i64 q.den] from rfl]
    have r1 := heap_alloc_new w2 (.cells #[.int .i64 q.num, .int .i64 q.den] 35)
    have hba : Below w2.heap.size w2 (w2.alloc (.cells #[.int .i64 q.num, .int .i64 q.den] 35)) := (Below.refl _ w2).alloc (Nat.le_refl _) _
    replace hI := hI.below hba
    replace hB := hB.trans (hba.mono hB.size)
    clear hba
    go_upto_region 5 with fail
    generalize (w2.alloc (.cells #[.int .i64 q.num, .int .i64 q.den] 35)) = W at r1 hI hB ⊢
    generalize w2.heap.size = G at r1 ⊢
    obtain ⟨⟨c0, c1⟩, -, -⟩ := row_fr r1
    have hXl : Hid (n = (L.map fun c : Int => min (c * (q.den : Int)) q.num).length) := Lib.hid (by simp [Hn.out])
    have hXb : Hid (∀ x ∈ L.map fun c : Int => min (c * (q.den : Int)) q.num, 0 ≤ x ∧ x ≤ 1000000) := Lib.hid (by
      intro x hx
      obtain ⟨c, hc, rfl⟩ := List.mem_map.1 hx
      have hcb := HC.out.2.2 c hc
      have p1 : 0 ≤ c * (q.den : Int) := Int.mul_nonneg hcb.1 (by omega)
      have p2 : c * (q.den : Int) ≤ 1000 * 8 := Int.mul_le_mul hcb.2 (by omega) (by omega) (by omega)
      omega)
    go_region_held3 (fun w' => w'.cell? ⟨G, 0, none⟩ = some (.int .i64 q.num) ∧ w'.cell? ⟨G, 1, none⟩ = some (.int .i64 q.den))
      (first | exact ⟨c0, c1⟩ | exact ka)
      (first
        | (go_at_call 63; refine (up_any L q ao n cap W.drew (hI.below (below_drewN (Below.refl _ W) 1)) Hn.out (by omega) HC.out.2.2 hqb).mono ?_; rintro e w6 ⟨v, rfl, hov, hb6⟩; obtain ⟨ao6, cap6, rfl, -, hI6⟩ := own_ints hov hXl.out; clear hov; have ka := And.intro (keep_cell (g := G) (o := 0) hb6 c0) (keep_cell (g := G) (o := 1) hb6 c1); have hB6 := (below_drewN hB 1).trans (hb6.mono hB.size))
        | (go_at_call 62; refine (fractions_any _ (q.den) _ n _ _ hI6 hXl.out (by omega) hXb.out (by omega)).mono ?_; rintro e w7 ⟨v2, rfl, hov2, hb7⟩; have ka := And.intro (keep_cell (g := G) (o := 0) hb7 ka.1) (keep_cell (g := G) (o := 1) hb7 ka.2); have hB7 := hB6.trans (hb7.mono hB6.size)))
    all_goals
      have hov3 := Lib.hid hov2
      clear hov2
      go_wp2_with fail
      rw [← hspec.out] at hov3
      obtain ⟨ao8, cap8, rfl, -, hP⟩ := own_pts2 hov3.out (by rw [List.length_map]; exact Hl.out)
      go_ret2
      exact ⟨ao8, cap8, by rw [← Hl.out]; rfl, hP, hB7⟩
  · have hc1 : Cl.caseC L E = 1 := by unfold Cl.caseC at hc ⊢; split at hc <;> simp_all
    rw [Cl.orR_no hc, hc1]
    have Hn := Lib.hid hln
    have Hc := Lib.hid hc1
    have hB := Below.refl w.heap.size w
    clear hc hc1 hln
    go_enter Try.func24, Try.ntmps24
    go_wp2_with fail
    refine (rvalidate_any L E ao n cap w hI Hn.out hn).mono ?_
    rintro e w1 ⟨rfl, hw0⟩; obtain rfl := hw0.symm
    rw [Hc.out]
    go_wp2_with fail
    go_ret2
    exact ⟨none, 0, rfl, ⟨fun h => by cases h⟩, hB⟩
set_option maxRecDepth 100000 in
set_option maxHeartbeats 4000000 in
theorem rbyLossesU (L : List Int) (E : Int) (ao : Option Addr) (n cap : Nat) (w : World) (hI : Ints w ao L) (hln : n = L.length) (hn : n ≤ 100000) :
    Calls Try.prog 26 #[.slice ao n cap, .int .i64 E] w fun e w' => ∃ ao2 cap2, e = .returned (.tuple #[.slice ao2 (Cl.orR L E (Cl.loL L E)).length cap2, .int .i64 (Cl.caseC L E)]) ∧ Pts w' ao2 ((Cl.orR L E (Cl.loL L E)).map pr) ∧ Below w.heap.size w w' := by
  by_cases hc : Cl.caseC L E = 0
  · obtain ⟨a1, a2, a3⟩ := Cl.caseC_ok.1 hc
    have hl : n = (Cl.loL L E).length := by unfold Cl.loL; simp [hln]
    have HALL := Lib.hid (And.intro a1 (And.intro a2 a3))
    have HC := Lib.hid (Cl.okC_iff.1 a1)
    have Hn := Lib.hid hln
    have Hl := Lib.hid hl
    have Hc := Lib.hid hc
    have hn8 : n ≤ 8 := by have := HC.out; omega
    have hS8 : 0 ≤ Fl.sumI L ∧ Fl.sumI L ≤ 8000 := by
      have h := Cl.sum_small (B := 1000) (by omega) (l := L) (fun x hx => by have := HC.out.2.2 x hx; omega)
      have h2 := Cl.sum_nonneg (l := L) (fun x hx => by have := HC.out.2.2 x hx; omega)
      have := HC.out; omega
    have hE : 0 ≤ E ∧ E ≤ 8000 := by omega
    have hB := Below.refl w.heap.size w
    have HI0 := Lib.hid hI
    rw [Cl.orR_ok hc, hc]
    clear hln hl a1 a2 a3
    go_enter Try.func26, Try.ntmps26
    go_wp2_with fail
    refine (rvalidate_any L E ao n cap w hI Hn.out hn).mono ?_
    rintro e w1 ⟨rfl, hw0⟩; obtain rfl := hw0.symm
    rw [Hc.out]
    clear hw0 hc
    go_wp2_with fail
    refine (rSum_any L ao n cap w hI Hn.out (by omega) (fun x hx => by have := HC.out.2.2 x hx; omega)).mono ?_
    rintro e w1 ⟨rfl, hw0⟩; obtain rfl := hw0.symm
    clear hw0
    have e1 : IntKind.i64.wrap (Fl.sumI L - E) = Fl.sumI L - E := IntWalk.i64_in _ (by omega)
    have HH := Lib.hid (And.intro hS8 hE)
    go_wp2_with fail
    refine (rlevel_any L (Fl.sumI L - E) ao n cap w hI Hn.out HALL.out.1 (by have := HALL.out; omega) (by have := HALL.out; omega)).mono ?_
    rintro e w2 ⟨a, d, hL, rfl, hb2⟩
    rw [Cl.lvl_eq hL]
    clear hL
    have hq := Cl.lvl_ok HALL.out.1 (E := Fl.sumI L - E) (by have := HALL.out; omega) (by have := HALL.out; omega)
    obtain ⟨q, hqd⟩ : ∃ q, q = Cl.lvl L (Fl.sumI L - E) := ⟨_, rfl⟩
    have hspec : Hid (Cl.loL L E = (L.map fun c : Int => max 0 (c * (q.den : Int) - q.num)).map fun x => mkRat x (q.den)) := Lib.hid (by unfold Cl.loL; rw [hqd, List.map_map]; rfl)
    rw [← hqd] at hq ⊢
    clear hqd
    have hqb : q.den ≤ 8 ∧ 0 ≤ q.num ∧ q.num ≤ 8000 := ⟨hq.2.2.1, hq.1, hq.2.1⟩
    have hd1 : 1 ≤ q.den := q.den_pos
    clear hq
    replace hI := hI.below hb2
    replace hB := hB.trans (hb2.mono hB.size)
    clear hb2
    rw [show Fr q = .agg #[.int .i64 q.num, .int .i64 q.den] from rfl]
    have r1 := heap_alloc_new w2 (.cells #[.int .i64 q.num, .int .i64 q.den] 35)
    have hba : Below w2.heap.size w2 (w2.alloc (.cells #[.int .i64 q.num, .int .i64 q.den] 35)) := (Below.refl _ w2).alloc (Nat.le_refl _) _
    replace hI := hI.below hba
    replace hB := hB.trans (hba.mono hB.size)
    clear hba
    go_upto_region 5 with fail
    generalize (w2.alloc (.cells #[.int .i64 q.num, .int .i64 q.den] 35)) = W at r1 hI hB ⊢
    generalize w2.heap.size = G at r1 ⊢
    obtain ⟨⟨c0, c1⟩, -, -⟩ := row_fr r1
    have hXl : Hid (n = (L.map fun c : Int => max 0 (c * (q.den : Int) - q.num)).length) := Lib.hid (by simp [Hn.out])
    have hXb : Hid (∀ x ∈ L.map fun c : Int => max 0 (c * (q.den : Int) - q.num), 0 ≤ x ∧ x ≤ 1000000) := Lib.hid (by
      intro x hx
      obtain ⟨c, hc, rfl⟩ := List.mem_map.1 hx
      have hcb := HC.out.2.2 c hc
      have p1 : 0 ≤ c * (q.den : Int) := Int.mul_nonneg hcb.1 (by omega)
      have p2 : c * (q.den : Int) ≤ 1000 * 8 := Int.mul_le_mul hcb.2 (by omega) (by omega) (by omega)
      omega)
    go_region_held3 (fun w' => w'.cell? ⟨G, 0, none⟩ = some (.int .i64 q.num) ∧ w'.cell? ⟨G, 1, none⟩ = some (.int .i64 q.den))
      (first | exact ⟨c0, c1⟩ | exact ka)
      (first
        | (go_at_call 64; refine (rest_any L q ao n cap W.drew (hI.below (below_drewN (Below.refl _ W) 1)) Hn.out (by omega) HC.out.2.2 hqb).mono ?_; rintro e w6 ⟨v, rfl, hov, hb6⟩; obtain ⟨ao6, cap6, rfl, -, hI6⟩ := own_ints hov hXl.out; clear hov; have ka := And.intro (keep_cell (g := G) (o := 0) hb6 c0) (keep_cell (g := G) (o := 1) hb6 c1); have hB6 := (below_drewN hB 1).trans (hb6.mono hB.size))
        | (go_at_call 62; refine (fractions_any _ (q.den) _ n _ _ hI6 hXl.out (by omega) hXb.out (by omega)).mono ?_; rintro e w7 ⟨v2, rfl, hov2, hb7⟩; have ka := And.intro (keep_cell (g := G) (o := 0) hb7 ka.1) (keep_cell (g := G) (o := 1) hb7 ka.2); have hB7 := hB6.trans (hb7.mono hB6.size)))
    all_goals
      have hov3 := Lib.hid hov2
      clear hov2
      go_wp2_with fail
      rw [← hspec.out] at hov3
      obtain ⟨ao8, cap8, rfl, -, hP⟩ := own_pts2 hov3.out (by rw [List.length_map]; exact Hl.out)
      go_ret2
      exact ⟨ao8, cap8, by rw [← Hl.out]; rfl, hP, hB7⟩
  · have hc1 : Cl.caseC L E = 1 := by unfold Cl.caseC at hc ⊢; split at hc <;> simp_all
    rw [Cl.orR_no hc, hc1]
    have Hn := Lib.hid hln
    have Hc := Lib.hid hc1
    have hB := Below.refl w.heap.size w
    clear hc hc1 hln
    go_enter Try.func26, Try.ntmps26
    go_wp2_with fail
    refine (rvalidate_any L E ao n cap w hI Hn.out hn).mono ?_
    rintro e w1 ⟨rfl, hw0⟩; obtain rfl := hw0.symm
    rw [Hc.out]
    go_wp2_with fail
    go_ret2
    exact ⟨none, 0, rfl, ⟨fun h => by cases h⟩, hB⟩
end Go.Proofs.Yteecfdjphjkdkaa
