import Derived.Test.YtmdkdkiejcjmaaaTx
import Derived.Test.YtmdkdkiejcjmaaaTr
import Derived.Test.YtmdkdkiejcjmaaaTm
import Derived.BigQuiet
/- Package selionref08: which calendars are right. -/
namespace Go.Proofs.Ytmdkdkiejcjmaaa
open Go.RowKit
theorem withinT {x a b : Int} (w : World) (h1 : a ≤ x) (h2 : x ≤ b) : Calls Try.prog 65 #[.int .i64 x, .int .i64 a, .int .i64 b] w fun e w' => e = .returned (.bool true) ∧ w' = w := by
  have h := within_any x a b w
  rw [decide_eq_true h1, decide_eq_true h2] at h
  exact h
theorem withinF {x a b : Int} (w : World) (h1 : ¬(a ≤ x ∧ x ≤ b)) : Calls Try.prog 65 #[.int .i64 x, .int .i64 a, .int .i64 b] w fun e w' => e = .returned (.bool false) ∧ w' = w := by
  have h := within_any x a b w
  rw [show (decide (a ≤ x) && decide (x ≤ b)) = false by rw [← Bool.decide_and]; exact decide_eq_false h1] at h
  exact h

set_option maxRecDepth 100000 in
set_option maxHeartbeats 2000000 in
theorem isSpan_any (x y : Int) (w : World) :
    Calls Try.prog 66 #[.agg #[.int .i64 x, .int .i64 y]] w fun e w' => e = .returned (.bool (decide (0 ≤ x ∧ x ≤ y ∧ y ≤ 10000))) ∧ Below w.heap.size w w' := by
  obtain ⟨R, hR⟩ : ∃ r, r = decide (0 ≤ x ∧ x ≤ y ∧ y ≤ 10000) := ⟨_, rfl⟩
  rw [← hR]
  have HR := Lib.hid hR
  clear hR
  have hA := (Below.refl _ w).alloc (Nat.le_refl _) (.cells #[.int .i64 x, .int .i64 y] 64)
  have r0 := heap_alloc_new w (.cells #[.int .i64 x, .int .i64 y] 64)
  go_enter Try.func66, Try.ntmps66
  go_upto_region 1 with fail
  generalize w.alloc (.cells #[.int .i64 x, .int .i64 y] 64) = W0 at hA r0 ⊢
  obtain ⟨G, hG⟩ : ∃ g, g = w.heap.size := ⟨_, rfl⟩
  rw [← hG] at r0 ⊢
  have HG := Lib.hid hG
  clear hG
  obtain ⟨⟨c0, c1⟩, -, -⟩ := row_fr r0
  by_cases h1 : 0 ≤ x ∧ x ≤ 10000
  · have hX := Lib.hid (fun w9 => withinT w9 h1.1 h1.2)
    by_cases h2 : x ≤ y ∧ y ≤ 10000
    · have hY := Lib.hid (fun w9 => withinT w9 h2.1 h2.2)
      have hr : Hid (R = true) := Lib.hid (HR.out.trans <| decide_eq_true ⟨h1.1, h2.1, h2.2⟩)
      clear h1 h2
      go_wp2_with fail
      refine (hX.out _).mono ?_
      rintro e w1 ⟨rfl, rfl⟩
      go_wp2_with fail
      refine (hY.out _).mono ?_
      rintro e w1 ⟨rfl, rfl⟩
      go_wp2_with fail
      go_ret
      exact ⟨ret_bool hr.out.symm, hA⟩
    · have hY := Lib.hid (fun w9 => withinF w9 h2)
      have hr : Hid (R = false) := Lib.hid (HR.out.trans <| decide_eq_false (by omega))
      clear h1 h2
      go_wp2_with fail
      refine (hX.out _).mono ?_
      rintro e w1 ⟨rfl, rfl⟩
      go_wp2_with fail
      refine (hY.out _).mono ?_
      rintro e w1 ⟨rfl, rfl⟩
      go_wp2_with fail
      go_ret
      exact ⟨ret_bool hr.out.symm, hA⟩
  · have hX := Lib.hid (fun w9 => withinF w9 h1)
    have hr : Hid (R = false) := Lib.hid (HR.out.trans <| decide_eq_false (by omega))
    clear h1
    go_wp2_with fail
    refine (hX.out _).mono ?_
    rintro e w1 ⟨rfl, rfl⟩
    go_wp2_with fail
    go_ret
    exact ⟨ret_bool hr.out.symm, hA⟩

set_option maxRecDepth 100000 in
set_option maxHeartbeats 8000000 in
theorem rValidate_any (f : Int) (F : List Int) (S : List (Int × Int)) (aoF : Option Addr) (nF cF : Nat) (aoS : Option Addr) (nS cS : Nat) (w : World) (hcl : Cl w aoF nF aoS nS F S) (h9 : nF ≤ 100000) (h8 : nS ≤ 100000) :
    Calls Try.prog 26 #[.agg #[.int .i64 f, .slice aoF nF cF, .slice aoS nS cS]] w fun e w' => e = .returned (.int .i64 (Tm.vcode f F S)) ∧ Below w.heap.size w w' := by
  obtain ⟨C, hC⟩ : ∃ c, c = Tm.vcode f F S := ⟨_, rfl⟩
  rw [← hC]
  have HC := Lib.hid hC
  clear hC
  have hnf := Lib.hid hcl.nf
  have hns := Lib.hid hcl.ns
  have hA := (Below.refl _ w).alloc (Nat.le_refl _) (.cells #[.int .i64 f, .slice aoF nF cF, .slice aoS nS cS] 25)
  have rc := heap_alloc_new w (.cells #[.int .i64 f, .slice aoF nF cF, .slice aoS nS cS] 25)
  replace hcl := hcl.below hA
  go_enter Try.func26, Try.ntmps26
  go_upto_region 1 with fail
  generalize w.alloc (.cells #[.int .i64 f, .slice aoF nF cF, .slice aoS nS cS] 25) = W0 at hA rc hcl ⊢
  obtain ⟨G, hG⟩ : ∃ g, g = w.heap.size := ⟨_, rfl⟩
  rw [← hG] at rc ⊢
  have HG := Lib.hid hG
  clear hG
  have c0 := cell_of_row W0 G 0 _ _ _ rc
  have c1 := cell_of_row W0 G 1 _ _ _ rc
  have c2 := cell_of_row W0 G 2 _ _ _ rc
  simp at c0 c1 c2
  clear rc
  by_cases hf : 0 ≤ f ∧ f ≤ 6
  · have hc1 : Hid (C = if 12 < F.length ∨ 4 < S.length then 3 else if Tm.days 0 F && Tm.spans 0 S then 0 else 1) := Lib.hid (by rw [HC.out]; unfold Tm.vcode; rw [if_neg (by simpa using hf)])
    clear HC
    have hX := withinT W0 hf.1 hf.2
    go_wp2_with fail
    refine hX.mono ?_
    clear hX
    rintro e w1 ⟨rfl, rfl⟩
    by_cases h12 : 12 < nF
    · have hc : Hid (C = 3) := Lib.hid (by rw [hc1.out, if_pos (.inl (by rw [← hnf.out]; exact h12))])
      have h12i : (12 : Int) < (nF : Int) := by omega
      go_wp2_with fail
      go_ret
      exact ⟨ret_int hc.out.symm, hA⟩
    · have h12i : ¬ (12 : Int) < (nF : Int) := by omega
      by_cases h4 : 4 < nS
      · have hc : Hid (C = 3) := Lib.hid (by rw [hc1.out, if_pos (.inr (by rw [← hns.out]; exact h4))])
        have h4i : (4 : Int) < (nS : Int) := by omega
        go_wp2_with fail
        go_ret
        exact ⟨ret_int hc.out.symm, hA⟩
      · have h4i : ¬ (4 : Int) < (nS : Int) := by omega
        have hc2 : Hid (C = if Tm.days 0 (F.drop 0) && Tm.spans 0 S then 0 else 1) := Lib.hid (by rw [hc1.out, if_neg (by rw [← hnf.out, ← hns.out]; omega)]; rfl)
        clear hc1
        go_wp2_with fail
        go_loopw [3] (fun i wr => ∃ (k : Nat) (z : Int), k ≤ nF ∧ i = .int .i64 k ∧ 0 ≤ z ∧ (k = 0 → z = 0) ∧ (0 < k → z = F.getD (k - 1) 0 + 1) ∧ Hid (C = if Tm.days z (F.drop k) && Tm.spans 0 S then 0 else 1) ∧ Below w1.heap.size w1 wr) (fun i _ => nF - (intOf i).toNat)
        case atStart => exact ⟨0, 0, Nat.zero_le _, rfl, by omega, fun _ => rfl, fun h => by omega, hc2, Below.refl _ _⟩
        case round =>
          obtain ⟨k, z, hk, rfl, hz, hz0, hzk, HK, hb⟩ := hrel
          have d1 := keep_cell hb c1
          have d2 := keep_cell hb c2
          by_cases hlt : k < nF
          · have hkl : k < F.length := by have := hnf.out; omega
            obtain ⟨b, off, hao, hbs, z0⟩ := (hcl.hF.below hb).at hkl
            have hst := Lib.hid (Tm.days_drop hkl z)
            obtain ⟨x, hx⟩ : ∃ x, x = F.getD k 0 := ⟨_, rfl⟩
            rw [← hx] at z0 hst
            subst hao
            have i1 : (k : Int) < (nF : Int) := by omega
            by_cases hw : 0 ≤ x ∧ x ≤ 10000
            · by_cases hk0 : k = 0
              · have hX := Lib.hid (fun w9 => withinT w9 hw.1 hw.2)
                have hr : Hid (C = if Tm.days (x + 1) (F.drop (k + 1)) && Tm.spans 0 S then 0 else 1) := Lib.hid (by rw [HK.out, hst.out, decide_eq_true (show z ≤ x by have := hz0 hk0; omega), decide_eq_true hw.2]; rfl)
                have Hx := Lib.hid hx
                have hkb : decide ((0 : Int) < (k : Int)) = false := decide_eq_false (by omega)
                have hkb2 : decide (0 < k) = false := decide_eq_false (by omega)
                obtain ⟨w0, w10⟩ := hw
                clear HK hst hz0 hzk hx hk0
                go_wp2_with fail
                go_quiet ((go_at_call 65; exact Calls.quiet_of_same (hX.out _)))
                go_wp2_with fail
                go_roundw
                case rel => exact ⟨k + 1, x + 1, by omega, by go_num, by omega, fun h => by omega, fun _ => by rw [Nat.add_sub_cancel, ← Hx.out], hr, below_drewN hb _⟩
                case measure => simp [intOf]; omega
              · have hX := Lib.hid (fun w9 => withinT w9 hw.1 hw.2)
                obtain ⟨j, rfl⟩ : ∃ j, k = j + 1 := ⟨k - 1, by omega⟩
                have hzj := hzk (by omega)
                rw [Nat.add_sub_cancel] at hzj
                obtain ⟨b', off', hao', hbs', z1⟩ := (hcl.hF.below hb).at (k := j) (by omega)
                cases hao'
                obtain ⟨p, hp⟩ : ∃ p, p = F.getD j 0 := ⟨_, rfl⟩
                rw [← hp] at hzj z1
                have hkb : decide ((0 : Int) < (((j + 1 : Nat) : Nat) : Int)) = true := decide_eq_true (by omega)
                have Hx := Lib.hid hx
                obtain ⟨w0, w10⟩ := hw
                by_cases hpx : p < x
                · have hpb : decide (x ≤ p) = false := decide_eq_false (by omega)
                  have hr : Hid (C = if Tm.days (x + 1) (F.drop (j + 1 + 1)) && Tm.spans 0 S then 0 else 1) := Lib.hid (by rw [HK.out, hst.out, decide_eq_true (show z ≤ x by omega), decide_eq_true w10]; rfl)
                  clear HK hst hz0 hzk hx hk0 hp hzj
                  go_wp2_with fail
                  go_quiet ((go_at_call 65; exact Calls.quiet_of_same (hX.out _)))
                  go_wp2_with fail
                  go_roundw
                  case rel => exact ⟨j + 1 + 1, x + 1, by omega, by go_num, by omega, fun h => by omega, fun _ => by rw [Nat.add_sub_cancel, ← Hx.out], hr, below_drewN hb _⟩
                  case measure => simp [intOf]; omega
                · have hpb : decide (x ≤ p) = true := decide_eq_true (by omega)
                  have hr : Hid (C = 1) := Lib.hid (by rw [HK.out, hst.out, decide_eq_false (show ¬ z ≤ x by omega), Bool.false_and]; rfl)
                  clear HK hst hz0 hzk hx hk0 hp hzj hpx
                  go_wp2_with fail
                  go_quiet ((go_at_call 65; exact Calls.quiet_of_same (hX.out _)))
                  go_wp2_with fail
                  go_ret
                  exact ⟨ret_int hr.out.symm, hA.trans ((below_drewN hb _).mono hA.size)⟩
            · have hX := Lib.hid (fun w9 => withinF w9 hw)
              have hr : Hid (C = 1) := Lib.hid (by
                rw [HK.out, hst.out]
                by_cases h1 : z ≤ x
                · rw [decide_eq_false (show ¬ x ≤ 10000 by omega), Bool.false_and, Bool.and_false]; rfl
                · rw [decide_eq_false h1, Bool.false_and]; rfl)
              clear HK hst hz0 hzk hx
              go_wp2_with fail
              go_quiet ((go_at_call 65; exact Calls.quiet_of_same (hX.out _)))
              go_wp2_with fail
              go_ret
              exact ⟨ret_int hr.out.symm, hA.trans ((below_drewN hb _).mono hA.size)⟩
          · have hc3 : Hid (C = if Tm.spans 0 (S.drop 0) then 0 else 1) := Lib.hid (by rw [HK.out, List.drop_eq_nil_of_le (by have := hnf.out; omega)]; rfl)
            clear HK hz0 hzk
            go_wp2_with fail
            go_loopw [4] (fun i W2 => ∃ (k : Nat) (z : Int), k ≤ nS ∧ i = .int .i64 k ∧ 0 ≤ z ∧ (k = 0 → z = 0) ∧ (0 < k → z = (S.getD (k - 1) (0, 0)).2 + 1) ∧ Hid (C = if Tm.spans z (S.drop k) then 0 else 1) ∧ Below w1.heap.size w1 W2) (fun i _ => nS - (intOf i).toNat)
            case atStart => exact ⟨0, 0, Nat.zero_le _, rfl, by omega, fun _ => rfl, fun h => by omega, hc3, hb⟩
            case round =>
              rename World => W2
              clear d1 d2 hb hc3 hlt hz
              obtain ⟨k, z, hk, rfl, hz, hz0, hzk, HK, hb2⟩ := hrel
              have d2 := keep_cell hb2 c2
              by_cases hlt : k < nS
              · have hkl : k < S.length := by have := hns.out; omega
                obtain ⟨b, off, hao, hbs, hcc⟩ := (hcl.hS.below hb2).cells (by omega)
                obtain ⟨z0, z1⟩ := hcc k hkl
                have hst := Lib.hid (Tm.spans_drop hkl z)
                obtain ⟨s, hs⟩ : ∃ s, s = S.getD k (0, 0) := ⟨_, rfl⟩
                rw [← hs] at z0 z1 hst
                obtain ⟨x, y⟩ := s
                simp only at z0 z1 hst
                have Hs := Lib.hid hs
                subst hao
                have i1 : (k : Int) < (nS : Int) := by omega
                have hdr : Below W2.heap.size W2 W2.drew := below_drewN (Below.refl W2.heap.size W2) 1
                by_cases hw : 0 ≤ x ∧ x ≤ y ∧ y ≤ 10000
                · have HX : Hid (∀ w9, Calls Try.prog 66 #[.agg #[.int .i64 x, .int .i64 y]] w9 fun e w' => e = .returned (.bool true) ∧ Below w9.heap.size w9 w') := Lib.hid (fun w9 => by have h := isSpan_any x y w9; rw [decide_eq_true hw] at h; exact h)
                  obtain ⟨v0, v1, v2⟩ := hw
                  by_cases hk0 : k = 0
                  · have hr : Hid (C = if Tm.spans (y + 1) (S.drop (k + 1)) then 0 else 1) := Lib.hid (by rw [HK.out, hst.out, decide_eq_true (show z ≤ x by have := hz0 hk0; omega), decide_eq_true v1, decide_eq_true v2]; rfl)
                    have hkb : ¬ (0 : Int) < (k : Int) := by omega
                    have hkb2 : ¬ 0 < k := by omega
                    clear HK hst hz0 hzk hs hcc hk0
                    go_upto_region 13 with fail
                    refine wp_region_held_drew (S := fun w' => w'.cell? ⟨G, 2, none⟩ = some (.slice (some ⟨b, off, none⟩) nS cS) ∧ w'.cell? ⟨b, off + k * 2, none⟩ = some (.int .i64 x) ∧ w'.cell? ⟨b, off + k * 2 + 1, none⟩ = some (.int .i64 y)) (by kernel_rfl) ⟨keep_cell hdr d2, keep_cell hdr z0, keep_cell hdr z1⟩ (fun hHeld => ?_)
                    refine wpAnyH_take (i := 0) (v := .pointer (some ⟨G, 2, none⟩)) rfl (by kernel_rfl) (by kernel_rfl) (by kernel_rfl) (fun _ _ _ h => h) (Or.inl ⟨by rfl, fun w hSw => ?_⟩) (by assumption) ?_
                    · obtain ⟨s0, s1, s2⟩ := hSw
                      (go_simp <;> omega)
                    try simp only [List.getElem_toArray, List.getElem_cons_zero, Act.put, List.setIfInBounds_toArray, List.set_cons_zero, List.set_cons_succ]
                    refine wpAnyH_take (i := 1) (v := .slice (some ⟨b, off, none⟩) nS cS) rfl (by kernel_rfl) (by kernel_rfl) (by kernel_rfl) (fun _ _ _ h => h) (Or.inl ⟨by rfl, fun w hSw => ?_⟩) (by assumption) ?_
                    · obtain ⟨s0, s1, s2⟩ := hSw
                      (go_simp <;> omega)
                    try simp only [List.getElem_toArray, List.getElem_cons_zero, List.getElem_cons_succ, Act.put, List.setIfInBounds_toArray, List.set_cons_zero, List.set_cons_succ]
                    refine wpAnyH_take (i := 2) (v := .int .i64 (k : Nat)) rfl (by kernel_rfl) (by kernel_rfl) (by kernel_rfl) (fun _ _ _ h => h) (Or.inl ⟨by rfl, fun w hSw => ?_⟩) (by assumption) ?_
                    · obtain ⟨s0, s1, s2⟩ := hSw
                      (go_simp <;> omega)
                    try simp only [List.getElem_toArray, List.getElem_cons_zero, List.getElem_cons_succ, Act.put, List.setIfInBounds_toArray, List.set_cons_zero, List.set_cons_succ]
                    refine wpAnyH_take (i := 3) (v := .pointer (some ⟨b, off + k * 2, none⟩)) rfl (by kernel_rfl) (by kernel_rfl) (by kernel_rfl) (fun _ _ _ h => h) (Or.inl ⟨by rfl, fun w hSw => ?_⟩) (by assumption) ?_
                    · obtain ⟨s0, s1, s2⟩ := hSw
                      (go_simp <;> omega)
                    try simp only [List.getElem_toArray, List.getElem_cons_zero, List.getElem_cons_succ, Act.put, List.setIfInBounds_toArray, List.set_cons_zero, List.set_cons_succ]
                    refine wpAnyH_take (i := 4) (v := .agg #[.int .i64 x, .int .i64 y]) rfl (by kernel_rfl) (by kernel_rfl) (by kernel_rfl) (fun _ _ _ h => h) (Or.inl ⟨by rfl, fun w hSw => ?_⟩) (by assumption) ?_
                    · obtain ⟨s0, s1, s2⟩ := hSw
                      (go_simp <;> omega)
                    try simp only [List.getElem_toArray, List.getElem_cons_zero, List.getElem_cons_succ, Act.put, List.setIfInBounds_toArray, List.set_cons_zero, List.set_cons_succ]
                    refine wpAnyH_ready (rs := [5]) (by kernel_rfl) (by simp) ?_
                    refine AllReadyH.cons rfl (fun K hK => ?_) AllReadyH.nil
                    go_simp
                    go_at_call 66
                    refine (HX.out _).mono ?_
                    rintro e q1 ⟨rfl, hq1⟩
                    have hq2 := hdr.trans (hq1.mono hdr.size)
                    (try dsimp only)
                    refine hK.out _ _ ⟨keep_cell hq2 d2, keep_cell hq2 z0, keep_cell hq2 z1⟩ (fun hHeld => ?_)
                    clear hK K
                    try simp only [List.getElem_toArray, List.getElem_cons_zero, List.getElem_cons_succ, Act.put, List.setIfInBounds_toArray, List.set_cons_zero, List.set_cons_succ]
                    refine wpAnyH_take (i := 6) (v := .bool false) rfl (by kernel_rfl) (by kernel_rfl) (by kernel_rfl) (fun _ _ _ h => h) (Or.inl ⟨by rfl, fun w hSw => ?_⟩) (by assumption) ?_
                    · obtain ⟨s0, s1, s2⟩ := hSw
                      (go_simp <;> omega)
                    try simp only [List.getElem_toArray, List.getElem_cons_zero, List.getElem_cons_succ, Act.put, List.setIfInBounds_toArray, List.set_cons_zero, List.set_cons_succ]
                    refine wpAnyH_take (i := 7) (v := .bool false) rfl (by kernel_rfl) (by kernel_rfl) (by kernel_rfl) (fun _ _ _ h => h) (Or.inl ⟨by rfl, fun w hSw => ?_⟩) (by assumption) ?_
                    · obtain ⟨s0, s1, s2⟩ := hSw
                      (go_simp <;> omega)
                    try simp only [List.getElem_toArray, List.getElem_cons_zero, List.getElem_cons_succ, Act.put, List.setIfInBounds_toArray, List.set_cons_zero, List.set_cons_succ]
                    refine wpAnyH_take (i := 8) (v := .int .i64 (k : Nat)) rfl (by kernel_rfl) (by kernel_rfl) (by kernel_rfl) (fun _ _ _ h => h) (Or.inl ⟨by rfl, fun w hSw => ?_⟩) (by assumption) ?_
                    · obtain ⟨s0, s1, s2⟩ := hSw
                      (go_simp <;> omega)
                    try simp only [List.getElem_toArray, List.getElem_cons_zero, List.getElem_cons_succ, Act.put, List.setIfInBounds_toArray, List.set_cons_zero, List.set_cons_succ]
                    refine wpAnyH_take (i := 9) (v := .bool false) rfl (by kernel_rfl) (by kernel_rfl) (by kernel_rfl) (fun _ _ _ h => h) (Or.inl ⟨by rfl, fun w hSw => ?_⟩) (by assumption) ?_
                    · obtain ⟨s0, s1, s2⟩ := hSw
                      (go_simp <;> omega)
                    try simp only [List.getElem_toArray, List.getElem_cons_zero, List.getElem_cons_succ, Act.put, List.setIfInBounds_toArray, List.set_cons_zero, List.set_cons_succ]
                    refine wpAnyH_take (i := 10) (v := .bool false) rfl (by kernel_rfl) (by kernel_rfl) (by kernel_rfl) (fun _ _ _ h => h) (Or.inl ⟨by rfl, fun w hSw => ?_⟩) (by assumption) ?_
                    · obtain ⟨s0, s1, s2⟩ := hSw
                      (go_simp <;> omega)
                    try simp only [List.getElem_toArray, List.getElem_cons_zero, List.getElem_cons_succ, Act.put, List.setIfInBounds_toArray, List.set_cons_zero, List.set_cons_succ]
                    refine wpAnyH_take (i := 11) (v := undef) rfl (by kernel_rfl) (by kernel_rfl) (by kernel_rfl) (fun _ _ _ h => h) (Or.inr ⟨by rfl, rfl⟩) (by assumption) ?_
                    try simp only [List.getElem_toArray, List.getElem_cons_zero, List.getElem_cons_succ, Act.put, List.setIfInBounds_toArray, List.set_cons_zero, List.set_cons_succ]
                    refine wpAnyH_take (i := 12) (v := undef) rfl (by kernel_rfl) (by kernel_rfl) (by kernel_rfl) (fun _ _ _ h => h) (Or.inr ⟨by rfl, rfl⟩) (by assumption) ?_
                    try simp only [List.getElem_toArray, List.getElem_cons_zero, List.getElem_cons_succ, Act.put, List.setIfInBounds_toArray, List.set_cons_zero, List.set_cons_succ]
                    refine wpAnyH_take (i := 13) (v := undef) rfl (by kernel_rfl) (by kernel_rfl) (by kernel_rfl) (fun _ _ _ h => h) (Or.inr ⟨by rfl, rfl⟩) (by assumption) ?_
                    try simp only [List.getElem_toArray, List.getElem_cons_zero, List.getElem_cons_succ, Act.put, List.setIfInBounds_toArray, List.set_cons_zero, List.set_cons_succ]
                    refine wpAnyH_take (i := 14) (v := undef) rfl (by kernel_rfl) (by kernel_rfl) (by kernel_rfl) (fun _ _ _ h => h) (Or.inr ⟨by rfl, rfl⟩) (by assumption) ?_
                    try simp only [List.getElem_toArray, List.getElem_cons_zero, List.getElem_cons_succ, Act.put, List.setIfInBounds_toArray, List.set_cons_zero, List.set_cons_succ]
                    refine wpAnyH_take (i := 15) (v := undef) rfl (by kernel_rfl) (by kernel_rfl) (by kernel_rfl) (fun _ _ _ h => h) (Or.inr ⟨by rfl, rfl⟩) (by assumption) ?_
                    try simp only [List.getElem_toArray, List.getElem_cons_zero, List.getElem_cons_succ, Act.put, List.setIfInBounds_toArray, List.set_cons_zero, List.set_cons_succ]
                    refine wpAnyH_take (i := 16) (v := undef) rfl (by kernel_rfl) (by kernel_rfl) (by kernel_rfl) (fun _ _ _ h => h) (Or.inr ⟨by rfl, rfl⟩) (by assumption) ?_
                    try simp only [List.getElem_toArray, List.getElem_cons_zero, List.getElem_cons_succ, Act.put, List.setIfInBounds_toArray, List.set_cons_zero, List.set_cons_succ]
                    refine wpAnyH_take (i := 17) (v := undef) rfl (by kernel_rfl) (by kernel_rfl) (by kernel_rfl) (fun _ _ _ h => h) (Or.inr ⟨by rfl, rfl⟩) (by assumption) ?_
                    try simp only [List.getElem_toArray, List.getElem_cons_zero, List.getElem_cons_succ, Act.put, List.setIfInBounds_toArray, List.set_cons_zero, List.set_cons_succ]
                    refine wpAnyH_take (i := 18) (v := undef) rfl (by kernel_rfl) (by kernel_rfl) (by kernel_rfl) (fun _ _ _ h => h) (Or.inr ⟨by rfl, rfl⟩) (by assumption) ?_
                    try simp only [List.getElem_toArray, List.getElem_cons_zero, List.getElem_cons_succ, Act.put, List.setIfInBounds_toArray, List.set_cons_zero, List.set_cons_succ]
                    refine wpAnyH_take (i := 19) (v := undef) rfl (by kernel_rfl) (by kernel_rfl) (by kernel_rfl) (fun _ _ _ h => h) (Or.inr ⟨by rfl, rfl⟩) (by assumption) ?_
                    try simp only [List.getElem_toArray, List.getElem_cons_zero, List.getElem_cons_succ, Act.put, List.setIfInBounds_toArray, List.set_cons_zero, List.set_cons_succ]
                    refine wpAnyH_take (i := 20) (v := undef) rfl (by kernel_rfl) (by kernel_rfl) (by kernel_rfl) (fun _ _ _ h => h) (Or.inr ⟨by rfl, rfl⟩) (by assumption) ?_
                    try simp only [List.getElem_toArray, List.getElem_cons_zero, List.getElem_cons_succ, Act.put, List.setIfInBounds_toArray, List.set_cons_zero, List.set_cons_succ]
                    refine wpAnyH_take (i := 21) (v := undef) rfl (by kernel_rfl) (by kernel_rfl) (by kernel_rfl) (fun _ _ _ h => h) (Or.inr ⟨by rfl, rfl⟩) (by assumption) ?_
                    try simp only [List.getElem_toArray, List.getElem_cons_zero, List.getElem_cons_succ, Act.put, List.setIfInBounds_toArray, List.set_cons_zero, List.set_cons_succ]
                    refine wpAnyH_take (i := 22) (v := undef) rfl (by kernel_rfl) (by kernel_rfl) (by kernel_rfl) (fun _ _ _ h => h) (Or.inr ⟨by rfl, rfl⟩) (by assumption) ?_
                    try simp only [List.getElem_toArray, List.getElem_cons_zero, List.getElem_cons_succ, Act.put, List.setIfInBounds_toArray, List.set_cons_zero, List.set_cons_succ]
                    refine wpAnyH_take (i := 23) (v := undef) rfl (by kernel_rfl) (by kernel_rfl) (by kernel_rfl) (fun _ _ _ h => h) (Or.inr ⟨by rfl, rfl⟩) (by assumption) ?_
                    try simp only [List.getElem_toArray, List.getElem_cons_zero, List.getElem_cons_succ, Act.put, List.setIfInBounds_toArray, List.set_cons_zero, List.set_cons_succ]
                    refine wpAnyH_take (i := 24) (v := undef) rfl (by kernel_rfl) (by kernel_rfl) (by kernel_rfl) (fun _ _ _ h => h) (Or.inr ⟨by rfl, rfl⟩) (by assumption) ?_
                    try simp only [List.getElem_toArray, List.getElem_cons_zero, List.getElem_cons_succ, Act.put, List.setIfInBounds_toArray, List.set_cons_zero, List.set_cons_succ]
                    refine wpAnyH_take (i := 25) (v := .bool false) rfl (by kernel_rfl) (by kernel_rfl) (by kernel_rfl) (fun _ _ _ h => h) (Or.inl ⟨by rfl, fun w hSw => ?_⟩) (by assumption) ?_
                    · obtain ⟨s0, s1, s2⟩ := hSw
                      (go_simp <;> omega)
                    try simp only [List.getElem_toArray, List.getElem_cons_zero, List.getElem_cons_succ, Act.put, List.setIfInBounds_toArray, List.set_cons_zero, List.set_cons_succ]
                    refine wpAnyH_take (i := 26) (v := .bool false) rfl (by kernel_rfl) (by kernel_rfl) (by kernel_rfl) (fun _ _ _ h => h) (Or.inl ⟨by rfl, fun w hSw => ?_⟩) (by assumption) ?_
                    · obtain ⟨s0, s1, s2⟩ := hSw
                      (go_simp <;> omega)
                    try simp only [List.getElem_toArray, List.getElem_cons_zero, List.getElem_cons_succ, Act.put, List.setIfInBounds_toArray, List.set_cons_zero, List.set_cons_succ]
                    refine wpAnyH_done (by kernel_rfl) ?_ _
                    have hq := hb2.trans (hq2.mono hb2.size)
                    generalize q1 = q1 at hq
                    go_wp2_with fail
                    go_roundw
                    case rel => exact ⟨k + 1, y + 1, by omega, by go_num, by omega, fun h => by omega, fun _ => by rw [Nat.add_sub_cancel, ← Hs.out], hr, hq⟩
                    case measure => simp [intOf]; omega
                  · obtain ⟨j, hj⟩ : ∃ j, k = j + 1 := ⟨k - 1, by omega⟩
                    have hzj := hzk (by omega)
                    rw [show k - 1 = j by omega] at hzj
                    obtain ⟨p, hp⟩ : ∃ p, p = (S.getD j (0, 0)).2 := ⟨_, rfl⟩
                    have z2 := (hcc j (by omega)).2
                    rw [← hp] at hzj z2
                    have hj1 : j + 1 ≤ k := by omega
                    have hj2 : k ≤ j + 1 := by omega
                    have hkb : (0 : Int) < (k : Int) := by omega
                    have hwr : IntKind.i64.wrap ((k : Int) - 1) = (j : Int) := (IntWalk.i64_in _ (by omega)).trans (by omega)
                    by_cases hpx : p < x
                    · have hr : Hid (C = if Tm.spans (y + 1) (S.drop (k + 1)) then 0 else 1) := Lib.hid (by rw [HK.out, hst.out, decide_eq_true (show z ≤ x by omega), decide_eq_true v1, decide_eq_true v2]; rfl)
                      have hpb : ¬ x ≤ p := by omega
                      clear HK hst hz0 hzk hs hcc hk0 hj hzj hp
                      go_upto_region 13 with fail
                      refine wp_region_held_drew (S := fun w' => w'.cell? ⟨G, 2, none⟩ = some (.slice (some ⟨b, off, none⟩) nS cS) ∧ w'.cell? ⟨b, off + k * 2, none⟩ = some (.int .i64 x) ∧ w'.cell? ⟨b, off + k * 2 + 1, none⟩ = some (.int .i64 y) ∧ w'.cell? ⟨b, off + j * 2 + 1, none⟩ = some (.int .i64 p)) (by kernel_rfl) ⟨keep_cell hdr d2, keep_cell hdr z0, keep_cell hdr z1, keep_cell hdr z2⟩ (fun hHeld => ?_)
                      refine wpAnyH_take (i := 0) (v := .pointer (some ⟨G, 2, none⟩)) rfl (by kernel_rfl) (by kernel_rfl) (by kernel_rfl) (fun _ _ _ h => h) (Or.inl ⟨by rfl, fun w hSw => ?_⟩) (by assumption) ?_
                      · obtain ⟨s0, s1, s2, s3⟩ := hSw
                        (go_simp <;> omega)
                      try simp only [List.getElem_toArray, List.getElem_cons_zero, Act.put, List.setIfInBounds_toArray, List.set_cons_zero, List.set_cons_succ]
                      refine wpAnyH_take (i := 1) (v := .slice (some ⟨b, off, none⟩) nS cS) rfl (by kernel_rfl) (by kernel_rfl) (by kernel_rfl) (fun _ _ _ h => h) (Or.inl ⟨by rfl, fun w hSw => ?_⟩) (by assumption) ?_
                      · obtain ⟨s0, s1, s2, s3⟩ := hSw
                        (go_simp <;> omega)
                      try simp only [List.getElem_toArray, List.getElem_cons_zero, List.getElem_cons_succ, Act.put, List.setIfInBounds_toArray, List.set_cons_zero, List.set_cons_succ]
                      refine wpAnyH_take (i := 2) (v := .int .i64 (k : Nat)) rfl (by kernel_rfl) (by kernel_rfl) (by kernel_rfl) (fun _ _ _ h => h) (Or.inl ⟨by rfl, fun w hSw => ?_⟩) (by assumption) ?_
                      · obtain ⟨s0, s1, s2, s3⟩ := hSw
                        (go_simp <;> omega)
                      try simp only [List.getElem_toArray, List.getElem_cons_zero, List.getElem_cons_succ, Act.put, List.setIfInBounds_toArray, List.set_cons_zero, List.set_cons_succ]
                      refine wpAnyH_take (i := 3) (v := .pointer (some ⟨b, off + k * 2, none⟩)) rfl (by kernel_rfl) (by kernel_rfl) (by kernel_rfl) (fun _ _ _ h => h) (Or.inl ⟨by rfl, fun w hSw => ?_⟩) (by assumption) ?_
                      · obtain ⟨s0, s1, s2, s3⟩ := hSw
                        (go_simp <;> omega)
                      try simp only [List.getElem_toArray, List.getElem_cons_zero, List.getElem_cons_succ, Act.put, List.setIfInBounds_toArray, List.set_cons_zero, List.set_cons_succ]
                      refine wpAnyH_take (i := 4) (v := .agg #[.int .i64 x, .int .i64 y]) rfl (by kernel_rfl) (by kernel_rfl) (by kernel_rfl) (fun _ _ _ h => h) (Or.inl ⟨by rfl, fun w hSw => ?_⟩) (by assumption) ?_
                      · obtain ⟨s0, s1, s2, s3⟩ := hSw
                        (go_simp <;> omega)
                      try simp only [List.getElem_toArray, List.getElem_cons_zero, List.getElem_cons_succ, Act.put, List.setIfInBounds_toArray, List.set_cons_zero, List.set_cons_succ]
                      refine wpAnyH_ready (rs := [5]) (by kernel_rfl) (by simp) ?_
                      refine AllReadyH.cons rfl (fun K hK => ?_) AllReadyH.nil
                      go_simp
                      go_at_call 66
                      refine (HX.out _).mono ?_
                      rintro e q1 ⟨rfl, hq1⟩
                      have hq2 := hdr.trans (hq1.mono hdr.size)
                      (try dsimp only)
                      refine hK.out _ _ ⟨keep_cell hq2 d2, keep_cell hq2 z0, keep_cell hq2 z1, keep_cell hq2 z2⟩ (fun hHeld => ?_)
                      clear hK K
                      try simp only [List.getElem_toArray, List.getElem_cons_zero, List.getElem_cons_succ, Act.put, List.setIfInBounds_toArray, List.set_cons_zero, List.set_cons_succ]
                      refine wpAnyH_take (i := 6) (v := .bool false) rfl (by kernel_rfl) (by kernel_rfl) (by kernel_rfl) (fun _ _ _ h => h) (Or.inl ⟨by rfl, fun w hSw => ?_⟩) (by assumption) ?_
                      · obtain ⟨s0, s1, s2, s3⟩ := hSw
                        (go_simp <;> omega)
                      try simp only [List.getElem_toArray, List.getElem_cons_zero, List.getElem_cons_succ, Act.put, List.setIfInBounds_toArray, List.set_cons_zero, List.set_cons_succ]
                      refine wpAnyH_take (i := 7) (v := .bool false) rfl (by kernel_rfl) (by kernel_rfl) (by kernel_rfl) (fun _ _ _ h => h) (Or.inl ⟨by rfl, fun w hSw => ?_⟩) (by assumption) ?_
                      · obtain ⟨s0, s1, s2, s3⟩ := hSw
                        (go_simp <;> omega)
                      try simp only [List.getElem_toArray, List.getElem_cons_zero, List.getElem_cons_succ, Act.put, List.setIfInBounds_toArray, List.set_cons_zero, List.set_cons_succ]
                      refine wpAnyH_take (i := 8) (v := .int .i64 (k : Nat)) rfl (by kernel_rfl) (by kernel_rfl) (by kernel_rfl) (fun _ _ _ h => h) (Or.inl ⟨by rfl, fun w hSw => ?_⟩) (by assumption) ?_
                      · obtain ⟨s0, s1, s2, s3⟩ := hSw
                        (go_simp <;> omega)
                      try simp only [List.getElem_toArray, List.getElem_cons_zero, List.getElem_cons_succ, Act.put, List.setIfInBounds_toArray, List.set_cons_zero, List.set_cons_succ]
                      refine wpAnyH_take (i := 9) (v := .bool true) rfl (by kernel_rfl) (by kernel_rfl) (by kernel_rfl) (fun _ _ _ h => h) (Or.inl ⟨by rfl, fun w hSw => ?_⟩) (by assumption) ?_
                      · obtain ⟨s0, s1, s2, s3⟩ := hSw
                        (go_simp <;> omega)
                      try simp only [List.getElem_toArray, List.getElem_cons_zero, List.getElem_cons_succ, Act.put, List.setIfInBounds_toArray, List.set_cons_zero, List.set_cons_succ]
                      refine wpAnyH_take (i := 10) (v := .bool true) rfl (by kernel_rfl) (by kernel_rfl) (by kernel_rfl) (fun _ _ _ h => h) (Or.inl ⟨by rfl, fun w hSw => ?_⟩) (by assumption) ?_
                      · obtain ⟨s0, s1, s2, s3⟩ := hSw
                        (go_simp <;> omega)
                      try simp only [List.getElem_toArray, List.getElem_cons_zero, List.getElem_cons_succ, Act.put, List.setIfInBounds_toArray, List.set_cons_zero, List.set_cons_succ]
                      refine wpAnyH_take (i := 11) (v := .pointer (some ⟨G, 2, none⟩)) rfl (by kernel_rfl) (by kernel_rfl) (by kernel_rfl) (fun _ _ _ h => h) (Or.inl ⟨by rfl, fun w hSw => ?_⟩) (by assumption) ?_
                      · obtain ⟨s0, s1, s2, s3⟩ := hSw
                        (go_simp <;> omega)
                      try simp only [List.getElem_toArray, List.getElem_cons_zero, List.getElem_cons_succ, Act.put, List.setIfInBounds_toArray, List.set_cons_zero, List.set_cons_succ]
                      refine wpAnyH_take (i := 12) (v := .slice (some ⟨b, off, none⟩) nS cS) rfl (by kernel_rfl) (by kernel_rfl) (by kernel_rfl) (fun _ _ _ h => h) (Or.inl ⟨by rfl, fun w hSw => ?_⟩) (by assumption) ?_
                      · obtain ⟨s0, s1, s2, s3⟩ := hSw
                        (go_simp <;> omega)
                      try simp only [List.getElem_toArray, List.getElem_cons_zero, List.getElem_cons_succ, Act.put, List.setIfInBounds_toArray, List.set_cons_zero, List.set_cons_succ]
                      refine wpAnyH_take (i := 13) (v := .int .i64 (k : Nat)) rfl (by kernel_rfl) (by kernel_rfl) (by kernel_rfl) (fun _ _ _ h => h) (Or.inl ⟨by rfl, fun w hSw => ?_⟩) (by assumption) ?_
                      · obtain ⟨s0, s1, s2, s3⟩ := hSw
                        (go_simp <;> omega)
                      try simp only [List.getElem_toArray, List.getElem_cons_zero, List.getElem_cons_succ, Act.put, List.setIfInBounds_toArray, List.set_cons_zero, List.set_cons_succ]
                      refine wpAnyH_take (i := 14) (v := .pointer (some ⟨b, off + k * 2, none⟩)) rfl (by kernel_rfl) (by kernel_rfl) (by kernel_rfl) (fun _ _ _ h => h) (Or.inl ⟨by rfl, fun w hSw => ?_⟩) (by assumption) ?_
                      · obtain ⟨s0, s1, s2, s3⟩ := hSw
                        (go_simp <;> omega)
                      try simp only [List.getElem_toArray, List.getElem_cons_zero, List.getElem_cons_succ, Act.put, List.setIfInBounds_toArray, List.set_cons_zero, List.set_cons_succ]
                      refine wpAnyH_take (i := 15) (v := .pointer (some ⟨b, off + k * 2, none⟩)) rfl (by kernel_rfl) (by kernel_rfl) (by kernel_rfl) (fun _ _ _ h => h) (Or.inl ⟨by rfl, fun w hSw => ?_⟩) (by assumption) ?_
                      · obtain ⟨s0, s1, s2, s3⟩ := hSw
                        (go_simp <;> omega)
                      try simp only [List.getElem_toArray, List.getElem_cons_zero, List.getElem_cons_succ, Act.put, List.setIfInBounds_toArray, List.set_cons_zero, List.set_cons_succ]
                      refine wpAnyH_take (i := 16) (v := .int .i64 x) rfl (by kernel_rfl) (by kernel_rfl) (by kernel_rfl) (fun _ _ _ h => h) (Or.inl ⟨by rfl, fun w hSw => ?_⟩) (by assumption) ?_
                      · obtain ⟨s0, s1, s2, s3⟩ := hSw
                        (go_simp <;> omega)
                      try simp only [List.getElem_toArray, List.getElem_cons_zero, List.getElem_cons_succ, Act.put, List.setIfInBounds_toArray, List.set_cons_zero, List.set_cons_succ]
                      refine wpAnyH_take (i := 17) (v := .pointer (some ⟨G, 2, none⟩)) rfl (by kernel_rfl) (by kernel_rfl) (by kernel_rfl) (fun _ _ _ h => h) (Or.inl ⟨by rfl, fun w hSw => ?_⟩) (by assumption) ?_
                      · obtain ⟨s0, s1, s2, s3⟩ := hSw
                        (go_simp <;> omega)
                      try simp only [List.getElem_toArray, List.getElem_cons_zero, List.getElem_cons_succ, Act.put, List.setIfInBounds_toArray, List.set_cons_zero, List.set_cons_succ]
                      refine wpAnyH_take (i := 18) (v := .slice (some ⟨b, off, none⟩) nS cS) rfl (by kernel_rfl) (by kernel_rfl) (by kernel_rfl) (fun _ _ _ h => h) (Or.inl ⟨by rfl, fun w hSw => ?_⟩) (by assumption) ?_
                      · obtain ⟨s0, s1, s2, s3⟩ := hSw
                        (go_simp <;> omega)
                      try simp only [List.getElem_toArray, List.getElem_cons_zero, List.getElem_cons_succ, Act.put, List.setIfInBounds_toArray, List.set_cons_zero, List.set_cons_succ]
                      refine wpAnyH_take (i := 19) (v := .int .i64 (k : Nat)) rfl (by kernel_rfl) (by kernel_rfl) (by kernel_rfl) (fun _ _ _ h => h) (Or.inl ⟨by rfl, fun w hSw => ?_⟩) (by assumption) ?_
                      · obtain ⟨s0, s1, s2, s3⟩ := hSw
                        (go_simp <;> omega)
                      try simp only [List.getElem_toArray, List.getElem_cons_zero, List.getElem_cons_succ, Act.put, List.setIfInBounds_toArray, List.set_cons_zero, List.set_cons_succ]
                      refine wpAnyH_take (i := 20) (v := .int .i64 (j : Nat)) rfl (by kernel_rfl) (by kernel_rfl) (by kernel_rfl) (fun _ _ _ h => h) (Or.inl ⟨by rfl, fun w hSw => ?_⟩) (by assumption) ?_
                      · obtain ⟨s0, s1, s2, s3⟩ := hSw
                        (go_simp <;> omega)
                      try simp only [List.getElem_toArray, List.getElem_cons_zero, List.getElem_cons_succ, Act.put, List.setIfInBounds_toArray, List.set_cons_zero, List.set_cons_succ]
                      refine wpAnyH_take (i := 21) (v := .pointer (some ⟨b, off + j * 2, none⟩)) rfl (by kernel_rfl) (by kernel_rfl) (by kernel_rfl) (fun _ _ _ h => h) (Or.inl ⟨by rfl, fun w hSw => ?_⟩) (by assumption) ?_
                      · obtain ⟨s0, s1, s2, s3⟩ := hSw
                        (go_simp <;> omega)
                      try simp only [List.getElem_toArray, List.getElem_cons_zero, List.getElem_cons_succ, Act.put, List.setIfInBounds_toArray, List.set_cons_zero, List.set_cons_succ]
                      refine wpAnyH_take (i := 22) (v := .pointer (some ⟨b, off + j * 2 + 1, none⟩)) rfl (by kernel_rfl) (by kernel_rfl) (by kernel_rfl) (fun _ _ _ h => h) (Or.inl ⟨by rfl, fun w hSw => ?_⟩) (by assumption) ?_
                      · obtain ⟨s0, s1, s2, s3⟩ := hSw
                        (go_simp <;> omega)
                      try simp only [List.getElem_toArray, List.getElem_cons_zero, List.getElem_cons_succ, Act.put, List.setIfInBounds_toArray, List.set_cons_zero, List.set_cons_succ]
                      refine wpAnyH_take (i := 23) (v := .int .i64 p) rfl (by kernel_rfl) (by kernel_rfl) (by kernel_rfl) (fun _ _ _ h => h) (Or.inl ⟨by rfl, fun w hSw => ?_⟩) (by assumption) ?_
                      · obtain ⟨s0, s1, s2, s3⟩ := hSw
                        (go_simp <;> omega)
                      try simp only [List.getElem_toArray, List.getElem_cons_zero, List.getElem_cons_succ, Act.put, List.setIfInBounds_toArray, List.set_cons_zero, List.set_cons_succ]
                      refine wpAnyH_take (i := 24) (v := .bool false) rfl (by kernel_rfl) (by kernel_rfl) (by kernel_rfl) (fun _ _ _ h => h) (Or.inl ⟨by rfl, fun w hSw => ?_⟩) (by assumption) ?_
                      · obtain ⟨s0, s1, s2, s3⟩ := hSw
                        (go_simp <;> omega)
                      try simp only [List.getElem_toArray, List.getElem_cons_zero, List.getElem_cons_succ, Act.put, List.setIfInBounds_toArray, List.set_cons_zero, List.set_cons_succ]
                      refine wpAnyH_take (i := 25) (v := .bool false) rfl (by kernel_rfl) (by kernel_rfl) (by kernel_rfl) (fun _ _ _ h => h) (Or.inl ⟨by rfl, fun w hSw => ?_⟩) (by assumption) ?_
                      · obtain ⟨s0, s1, s2, s3⟩ := hSw
                        (go_simp <;> omega)
                      try simp only [List.getElem_toArray, List.getElem_cons_zero, List.getElem_cons_succ, Act.put, List.setIfInBounds_toArray, List.set_cons_zero, List.set_cons_succ]
                      refine wpAnyH_take (i := 26) (v := .bool false) rfl (by kernel_rfl) (by kernel_rfl) (by kernel_rfl) (fun _ _ _ h => h) (Or.inl ⟨by rfl, fun w hSw => ?_⟩) (by assumption) ?_
                      · obtain ⟨s0, s1, s2, s3⟩ := hSw
                        (go_simp <;> omega)
                      try simp only [List.getElem_toArray, List.getElem_cons_zero, List.getElem_cons_succ, Act.put, List.setIfInBounds_toArray, List.set_cons_zero, List.set_cons_succ]
                      refine wpAnyH_done (by kernel_rfl) ?_ _
                      have hq := hb2.trans (hq2.mono hb2.size)
                      generalize q1 = q1 at hq
                      go_wp2_with fail
                      go_roundw
                      case rel => exact ⟨k + 1, y + 1, by omega, by go_num, by omega, fun h => by omega, fun _ => by rw [Nat.add_sub_cancel, ← Hs.out], hr, hq⟩
                      case measure => simp [intOf]; omega
                    · have hr : Hid (C = 1) := Lib.hid (by rw [HK.out, hst.out, decide_eq_false (show ¬ z ≤ x by omega), Bool.false_and]; rfl)
                      have hpb : x ≤ p := by omega
                      clear HK hst hz0 hzk hs hcc hk0 hj hzj hp hpx
                      go_upto_region 13 with fail
                      refine wp_region_held_drew (S := fun w' => w'.cell? ⟨G, 2, none⟩ = some (.slice (some ⟨b, off, none⟩) nS cS) ∧ w'.cell? ⟨b, off + k * 2, none⟩ = some (.int .i64 x) ∧ w'.cell? ⟨b, off + k * 2 + 1, none⟩ = some (.int .i64 y) ∧ w'.cell? ⟨b, off + j * 2 + 1, none⟩ = some (.int .i64 p)) (by kernel_rfl) ⟨keep_cell hdr d2, keep_cell hdr z0, keep_cell hdr z1, keep_cell hdr z2⟩ (fun hHeld => ?_)
                      refine wpAnyH_take (i := 0) (v := .pointer (some ⟨G, 2, none⟩)) rfl (by kernel_rfl) (by kernel_rfl) (by kernel_rfl) (fun _ _ _ h => h) (Or.inl ⟨by rfl, fun w hSw => ?_⟩) (by assumption) ?_
                      · obtain ⟨s0, s1, s2, s3⟩ := hSw
                        (go_simp <;> omega)
                      try simp only [List.getElem_toArray, List.getElem_cons_zero, Act.put, List.setIfInBounds_toArray, List.set_cons_zero, List.set_cons_succ]
                      refine wpAnyH_take (i := 1) (v := .slice (some ⟨b, off, none⟩) nS cS) rfl (by kernel_rfl) (by kernel_rfl) (by kernel_rfl) (fun _ _ _ h => h) (Or.inl ⟨by rfl, fun w hSw => ?_⟩) (by assumption) ?_
                      · obtain ⟨s0, s1, s2, s3⟩ := hSw
                        (go_simp <;> omega)
                      try simp only [List.getElem_toArray, List.getElem_cons_zero, List.getElem_cons_succ, Act.put, List.setIfInBounds_toArray, List.set_cons_zero, List.set_cons_succ]
                      refine wpAnyH_take (i := 2) (v := .int .i64 (k : Nat)) rfl (by kernel_rfl) (by kernel_rfl) (by kernel_rfl) (fun _ _ _ h => h) (Or.inl ⟨by rfl, fun w hSw => ?_⟩) (by assumption) ?_
                      · obtain ⟨s0, s1, s2, s3⟩ := hSw
                        (go_simp <;> omega)
                      try simp only [List.getElem_toArray, List.getElem_cons_zero, List.getElem_cons_succ, Act.put, List.setIfInBounds_toArray, List.set_cons_zero, List.set_cons_succ]
                      refine wpAnyH_take (i := 3) (v := .pointer (some ⟨b, off + k * 2, none⟩)) rfl (by kernel_rfl) (by kernel_rfl) (by kernel_rfl) (fun _ _ _ h => h) (Or.inl ⟨by rfl, fun w hSw => ?_⟩) (by assumption) ?_
                      · obtain ⟨s0, s1, s2, s3⟩ := hSw
                        (go_simp <;> omega)
                      try simp only [List.getElem_toArray, List.getElem_cons_zero, List.getElem_cons_succ, Act.put, List.setIfInBounds_toArray, List.set_cons_zero, List.set_cons_succ]
                      refine wpAnyH_take (i := 4) (v := .agg #[.int .i64 x, .int .i64 y]) rfl (by kernel_rfl) (by kernel_rfl) (by kernel_rfl) (fun _ _ _ h => h) (Or.inl ⟨by rfl, fun w hSw => ?_⟩) (by assumption) ?_
                      · obtain ⟨s0, s1, s2, s3⟩ := hSw
                        (go_simp <;> omega)
                      try simp only [List.getElem_toArray, List.getElem_cons_zero, List.getElem_cons_succ, Act.put, List.setIfInBounds_toArray, List.set_cons_zero, List.set_cons_succ]
                      refine wpAnyH_ready (rs := [5]) (by kernel_rfl) (by simp) ?_
                      refine AllReadyH.cons rfl (fun K hK => ?_) AllReadyH.nil
                      go_simp
                      go_at_call 66
                      refine (HX.out _).mono ?_
                      rintro e q1 ⟨rfl, hq1⟩
                      have hq2 := hdr.trans (hq1.mono hdr.size)
                      (try dsimp only)
                      refine hK.out _ _ ⟨keep_cell hq2 d2, keep_cell hq2 z0, keep_cell hq2 z1, keep_cell hq2 z2⟩ (fun hHeld => ?_)
                      clear hK K
                      try simp only [List.getElem_toArray, List.getElem_cons_zero, List.getElem_cons_succ, Act.put, List.setIfInBounds_toArray, List.set_cons_zero, List.set_cons_succ]
                      refine wpAnyH_take (i := 6) (v := .bool false) rfl (by kernel_rfl) (by kernel_rfl) (by kernel_rfl) (fun _ _ _ h => h) (Or.inl ⟨by rfl, fun w hSw => ?_⟩) (by assumption) ?_
                      · obtain ⟨s0, s1, s2, s3⟩ := hSw
                        (go_simp <;> omega)
                      try simp only [List.getElem_toArray, List.getElem_cons_zero, List.getElem_cons_succ, Act.put, List.setIfInBounds_toArray, List.set_cons_zero, List.set_cons_succ]
                      refine wpAnyH_take (i := 7) (v := .bool false) rfl (by kernel_rfl) (by kernel_rfl) (by kernel_rfl) (fun _ _ _ h => h) (Or.inl ⟨by rfl, fun w hSw => ?_⟩) (by assumption) ?_
                      · obtain ⟨s0, s1, s2, s3⟩ := hSw
                        (go_simp <;> omega)
                      try simp only [List.getElem_toArray, List.getElem_cons_zero, List.getElem_cons_succ, Act.put, List.setIfInBounds_toArray, List.set_cons_zero, List.set_cons_succ]
                      refine wpAnyH_take (i := 8) (v := .int .i64 (k : Nat)) rfl (by kernel_rfl) (by kernel_rfl) (by kernel_rfl) (fun _ _ _ h => h) (Or.inl ⟨by rfl, fun w hSw => ?_⟩) (by assumption) ?_
                      · obtain ⟨s0, s1, s2, s3⟩ := hSw
                        (go_simp <;> omega)
                      try simp only [List.getElem_toArray, List.getElem_cons_zero, List.getElem_cons_succ, Act.put, List.setIfInBounds_toArray, List.set_cons_zero, List.set_cons_succ]
                      refine wpAnyH_take (i := 9) (v := .bool true) rfl (by kernel_rfl) (by kernel_rfl) (by kernel_rfl) (fun _ _ _ h => h) (Or.inl ⟨by rfl, fun w hSw => ?_⟩) (by assumption) ?_
                      · obtain ⟨s0, s1, s2, s3⟩ := hSw
                        (go_simp <;> omega)
                      try simp only [List.getElem_toArray, List.getElem_cons_zero, List.getElem_cons_succ, Act.put, List.setIfInBounds_toArray, List.set_cons_zero, List.set_cons_succ]
                      refine wpAnyH_take (i := 10) (v := .bool true) rfl (by kernel_rfl) (by kernel_rfl) (by kernel_rfl) (fun _ _ _ h => h) (Or.inl ⟨by rfl, fun w hSw => ?_⟩) (by assumption) ?_
                      · obtain ⟨s0, s1, s2, s3⟩ := hSw
                        (go_simp <;> omega)
                      try simp only [List.getElem_toArray, List.getElem_cons_zero, List.getElem_cons_succ, Act.put, List.setIfInBounds_toArray, List.set_cons_zero, List.set_cons_succ]
                      refine wpAnyH_take (i := 11) (v := .pointer (some ⟨G, 2, none⟩)) rfl (by kernel_rfl) (by kernel_rfl) (by kernel_rfl) (fun _ _ _ h => h) (Or.inl ⟨by rfl, fun w hSw => ?_⟩) (by assumption) ?_
                      · obtain ⟨s0, s1, s2, s3⟩ := hSw
                        (go_simp <;> omega)
                      try simp only [List.getElem_toArray, List.getElem_cons_zero, List.getElem_cons_succ, Act.put, List.setIfInBounds_toArray, List.set_cons_zero, List.set_cons_succ]
                      refine wpAnyH_take (i := 12) (v := .slice (some ⟨b, off, none⟩) nS cS) rfl (by kernel_rfl) (by kernel_rfl) (by kernel_rfl) (fun _ _ _ h => h) (Or.inl ⟨by rfl, fun w hSw => ?_⟩) (by assumption) ?_
                      · obtain ⟨s0, s1, s2, s3⟩ := hSw
                        (go_simp <;> omega)
                      try simp only [List.getElem_toArray, List.getElem_cons_zero, List.getElem_cons_succ, Act.put, List.setIfInBounds_toArray, List.set_cons_zero, List.set_cons_succ]
                      refine wpAnyH_take (i := 13) (v := .int .i64 (k : Nat)) rfl (by kernel_rfl) (by kernel_rfl) (by kernel_rfl) (fun _ _ _ h => h) (Or.inl ⟨by rfl, fun w hSw => ?_⟩) (by assumption) ?_
                      · obtain ⟨s0, s1, s2, s3⟩ := hSw
                        (go_simp <;> omega)
                      try simp only [List.getElem_toArray, List.getElem_cons_zero, List.getElem_cons_succ, Act.put, List.setIfInBounds_toArray, List.set_cons_zero, List.set_cons_succ]
                      refine wpAnyH_take (i := 14) (v := .pointer (some ⟨b, off + k * 2, none⟩)) rfl (by kernel_rfl) (by kernel_rfl) (by kernel_rfl) (fun _ _ _ h => h) (Or.inl ⟨by rfl, fun w hSw => ?_⟩) (by assumption) ?_
                      · obtain ⟨s0, s1, s2, s3⟩ := hSw
                        (go_simp <;> omega)
                      try simp only [List.getElem_toArray, List.getElem_cons_zero, List.getElem_cons_succ, Act.put, List.setIfInBounds_toArray, List.set_cons_zero, List.set_cons_succ]
                      refine wpAnyH_take (i := 15) (v := .pointer (some ⟨b, off + k * 2, none⟩)) rfl (by kernel_rfl) (by kernel_rfl) (by kernel_rfl) (fun _ _ _ h => h) (Or.inl ⟨by rfl, fun w hSw => ?_⟩) (by assumption) ?_
                      · obtain ⟨s0, s1, s2, s3⟩ := hSw
                        (go_simp <;> omega)
                      try simp only [List.getElem_toArray, List.getElem_cons_zero, List.getElem_cons_succ, Act.put, List.setIfInBounds_toArray, List.set_cons_zero, List.set_cons_succ]
                      refine wpAnyH_take (i := 16) (v := .int .i64 x) rfl (by kernel_rfl) (by kernel_rfl) (by kernel_rfl) (fun _ _ _ h => h) (Or.inl ⟨by rfl, fun w hSw => ?_⟩) (by assumption) ?_
                      · obtain ⟨s0, s1, s2, s3⟩ := hSw
                        (go_simp <;> omega)
                      try simp only [List.getElem_toArray, List.getElem_cons_zero, List.getElem_cons_succ, Act.put, List.setIfInBounds_toArray, List.set_cons_zero, List.set_cons_succ]
                      refine wpAnyH_take (i := 17) (v := .pointer (some ⟨G, 2, none⟩)) rfl (by kernel_rfl) (by kernel_rfl) (by kernel_rfl) (fun _ _ _ h => h) (Or.inl ⟨by rfl, fun w hSw => ?_⟩) (by assumption) ?_
                      · obtain ⟨s0, s1, s2, s3⟩ := hSw
                        (go_simp <;> omega)
                      try simp only [List.getElem_toArray, List.getElem_cons_zero, List.getElem_cons_succ, Act.put, List.setIfInBounds_toArray, List.set_cons_zero, List.set_cons_succ]
                      refine wpAnyH_take (i := 18) (v := .slice (some ⟨b, off, none⟩) nS cS) rfl (by kernel_rfl) (by kernel_rfl) (by kernel_rfl) (fun _ _ _ h => h) (Or.inl ⟨by rfl, fun w hSw => ?_⟩) (by assumption) ?_
                      · obtain ⟨s0, s1, s2, s3⟩ := hSw
                        (go_simp <;> omega)
                      try simp only [List.getElem_toArray, List.getElem_cons_zero, List.getElem_cons_succ, Act.put, List.setIfInBounds_toArray, List.set_cons_zero, List.set_cons_succ]
                      refine wpAnyH_take (i := 19) (v := .int .i64 (k : Nat)) rfl (by kernel_rfl) (by kernel_rfl) (by kernel_rfl) (fun _ _ _ h => h) (Or.inl ⟨by rfl, fun w hSw => ?_⟩) (by assumption) ?_
                      · obtain ⟨s0, s1, s2, s3⟩ := hSw
                        (go_simp <;> omega)
                      try simp only [List.getElem_toArray, List.getElem_cons_zero, List.getElem_cons_succ, Act.put, List.setIfInBounds_toArray, List.set_cons_zero, List.set_cons_succ]
                      refine wpAnyH_take (i := 20) (v := .int .i64 (j : Nat)) rfl (by kernel_rfl) (by kernel_rfl) (by kernel_rfl) (fun _ _ _ h => h) (Or.inl ⟨by rfl, fun w hSw => ?_⟩) (by assumption) ?_
                      · obtain ⟨s0, s1, s2, s3⟩ := hSw
                        (go_simp <;> omega)
                      try simp only [List.getElem_toArray, List.getElem_cons_zero, List.getElem_cons_succ, Act.put, List.setIfInBounds_toArray, List.set_cons_zero, List.set_cons_succ]
                      refine wpAnyH_take (i := 21) (v := .pointer (some ⟨b, off + j * 2, none⟩)) rfl (by kernel_rfl) (by kernel_rfl) (by kernel_rfl) (fun _ _ _ h => h) (Or.inl ⟨by rfl, fun w hSw => ?_⟩) (by assumption) ?_
                      · obtain ⟨s0, s1, s2, s3⟩ := hSw
                        (go_simp <;> omega)
                      try simp only [List.getElem_toArray, List.getElem_cons_zero, List.getElem_cons_succ, Act.put, List.setIfInBounds_toArray, List.set_cons_zero, List.set_cons_succ]
                      refine wpAnyH_take (i := 22) (v := .pointer (some ⟨b, off + j * 2 + 1, none⟩)) rfl (by kernel_rfl) (by kernel_rfl) (by kernel_rfl) (fun _ _ _ h => h) (Or.inl ⟨by rfl, fun w hSw => ?_⟩) (by assumption) ?_
                      · obtain ⟨s0, s1, s2, s3⟩ := hSw
                        (go_simp <;> omega)
                      try simp only [List.getElem_toArray, List.getElem_cons_zero, List.getElem_cons_succ, Act.put, List.setIfInBounds_toArray, List.set_cons_zero, List.set_cons_succ]
                      refine wpAnyH_take (i := 23) (v := .int .i64 p) rfl (by kernel_rfl) (by kernel_rfl) (by kernel_rfl) (fun _ _ _ h => h) (Or.inl ⟨by rfl, fun w hSw => ?_⟩) (by assumption) ?_
                      · obtain ⟨s0, s1, s2, s3⟩ := hSw
                        (go_simp <;> omega)
                      try simp only [List.getElem_toArray, List.getElem_cons_zero, List.getElem_cons_succ, Act.put, List.setIfInBounds_toArray, List.set_cons_zero, List.set_cons_succ]
                      refine wpAnyH_take (i := 24) (v := .bool true) rfl (by kernel_rfl) (by kernel_rfl) (by kernel_rfl) (fun _ _ _ h => h) (Or.inl ⟨by rfl, fun w hSw => ?_⟩) (by assumption) ?_
                      · obtain ⟨s0, s1, s2, s3⟩ := hSw
                        (go_simp <;> omega)
                      try simp only [List.getElem_toArray, List.getElem_cons_zero, List.getElem_cons_succ, Act.put, List.setIfInBounds_toArray, List.set_cons_zero, List.set_cons_succ]
                      refine wpAnyH_take (i := 25) (v := .bool true) rfl (by kernel_rfl) (by kernel_rfl) (by kernel_rfl) (fun _ _ _ h => h) (Or.inl ⟨by rfl, fun w hSw => ?_⟩) (by assumption) ?_
                      · obtain ⟨s0, s1, s2, s3⟩ := hSw
                        (go_simp <;> omega)
                      try simp only [List.getElem_toArray, List.getElem_cons_zero, List.getElem_cons_succ, Act.put, List.setIfInBounds_toArray, List.set_cons_zero, List.set_cons_succ]
                      refine wpAnyH_take (i := 26) (v := .bool true) rfl (by kernel_rfl) (by kernel_rfl) (by kernel_rfl) (fun _ _ _ h => h) (Or.inl ⟨by rfl, fun w hSw => ?_⟩) (by assumption) ?_
                      · obtain ⟨s0, s1, s2, s3⟩ := hSw
                        (go_simp <;> omega)
                      try simp only [List.getElem_toArray, List.getElem_cons_zero, List.getElem_cons_succ, Act.put, List.setIfInBounds_toArray, List.set_cons_zero, List.set_cons_succ]
                      refine wpAnyH_done (by kernel_rfl) ?_ _
                      have hq := hb2.trans (hq2.mono hb2.size)
                      generalize q1 = q1 at hq
                      go_wp2_with fail
                      go_ret
                      exact ⟨ret_int hr.out.symm, hA.trans (hq.mono hA.size)⟩
                · have HX : Hid (∀ w9, Calls Try.prog 66 #[.agg #[.int .i64 x, .int .i64 y]] w9 fun e w' => e = .returned (.bool false) ∧ Below w9.heap.size w9 w') := Lib.hid (fun w9 => by have h := isSpan_any x y w9; rw [decide_eq_false hw] at h; exact h)
                  have hr : Hid (C = 1) := Lib.hid (by
                    rw [HK.out, hst.out]
                    by_cases h1 : z ≤ x
                    · by_cases h2 : x ≤ y
                      · rw [decide_eq_false (show ¬ y ≤ 10000 by omega), Bool.false_and, Bool.and_false, Bool.and_false]; rfl
                      · rw [decide_eq_false h2, Bool.false_and, Bool.and_false]; rfl
                    · rw [decide_eq_false h1, Bool.false_and]; rfl)
                  clear HK hst hz0 hzk hs hcc hw
                  go_upto_region 13 with fail
                  refine wp_region_held_drew (S := fun w' => w'.cell? ⟨G, 2, none⟩ = some (.slice (some ⟨b, off, none⟩) nS cS) ∧ w'.cell? ⟨b, off + k * 2, none⟩ = some (.int .i64 x) ∧ w'.cell? ⟨b, off + k * 2 + 1, none⟩ = some (.int .i64 y)) (by kernel_rfl) ⟨keep_cell hdr d2, keep_cell hdr z0, keep_cell hdr z1⟩ (fun hHeld => ?_)
                  refine wpAnyH_take (i := 0) (v := .pointer (some ⟨G, 2, none⟩)) rfl (by kernel_rfl) (by kernel_rfl) (by kernel_rfl) (fun _ _ _ h => h) (Or.inl ⟨by rfl, fun w hSw => ?_⟩) (by assumption) ?_
                  · obtain ⟨s0, s1, s2⟩ := hSw
                    (go_simp <;> omega)
                  try simp only [List.getElem_toArray, List.getElem_cons_zero, Act.put, List.setIfInBounds_toArray, List.set_cons_zero, List.set_cons_succ]
                  refine wpAnyH_take (i := 1) (v := .slice (some ⟨b, off, none⟩) nS cS) rfl (by kernel_rfl) (by kernel_rfl) (by kernel_rfl) (fun _ _ _ h => h) (Or.inl ⟨by rfl, fun w hSw => ?_⟩) (by assumption) ?_
                  · obtain ⟨s0, s1, s2⟩ := hSw
                    (go_simp <;> omega)
                  try simp only [List.getElem_toArray, List.getElem_cons_zero, List.getElem_cons_succ, Act.put, List.setIfInBounds_toArray, List.set_cons_zero, List.set_cons_succ]
                  refine wpAnyH_take (i := 2) (v := .int .i64 (k : Nat)) rfl (by kernel_rfl) (by kernel_rfl) (by kernel_rfl) (fun _ _ _ h => h) (Or.inl ⟨by rfl, fun w hSw => ?_⟩) (by assumption) ?_
                  · obtain ⟨s0, s1, s2⟩ := hSw
                    (go_simp <;> omega)
                  try simp only [List.getElem_toArray, List.getElem_cons_zero, List.getElem_cons_succ, Act.put, List.setIfInBounds_toArray, List.set_cons_zero, List.set_cons_succ]
                  refine wpAnyH_take (i := 3) (v := .pointer (some ⟨b, off + k * 2, none⟩)) rfl (by kernel_rfl) (by kernel_rfl) (by kernel_rfl) (fun _ _ _ h => h) (Or.inl ⟨by rfl, fun w hSw => ?_⟩) (by assumption) ?_
                  · obtain ⟨s0, s1, s2⟩ := hSw
                    (go_simp <;> omega)
                  try simp only [List.getElem_toArray, List.getElem_cons_zero, List.getElem_cons_succ, Act.put, List.setIfInBounds_toArray, List.set_cons_zero, List.set_cons_succ]
                  refine wpAnyH_take (i := 4) (v := .agg #[.int .i64 x, .int .i64 y]) rfl (by kernel_rfl) (by kernel_rfl) (by kernel_rfl) (fun _ _ _ h => h) (Or.inl ⟨by rfl, fun w hSw => ?_⟩) (by assumption) ?_
                  · obtain ⟨s0, s1, s2⟩ := hSw
                    (go_simp <;> omega)
                  try simp only [List.getElem_toArray, List.getElem_cons_zero, List.getElem_cons_succ, Act.put, List.setIfInBounds_toArray, List.set_cons_zero, List.set_cons_succ]
                  refine wpAnyH_ready (rs := [5]) (by kernel_rfl) (by simp) ?_
                  refine AllReadyH.cons rfl (fun K hK => ?_) AllReadyH.nil
                  go_simp
                  go_at_call 66
                  refine (HX.out _).mono ?_
                  rintro e q1 ⟨rfl, hq1⟩
                  have hq2 := hdr.trans (hq1.mono hdr.size)
                  (try dsimp only)
                  refine hK.out _ _ ⟨keep_cell hq2 d2, keep_cell hq2 z0, keep_cell hq2 z1⟩ (fun hHeld => ?_)
                  clear hK K
                  try simp only [List.getElem_toArray, List.getElem_cons_zero, List.getElem_cons_succ, Act.put, List.setIfInBounds_toArray, List.set_cons_zero, List.set_cons_succ]
                  refine wpAnyH_take (i := 6) (v := .bool true) rfl (by kernel_rfl) (by kernel_rfl) (by kernel_rfl) (fun _ _ _ h => h) (Or.inl ⟨by rfl, fun w hSw => ?_⟩) (by assumption) ?_
                  · obtain ⟨s0, s1, s2⟩ := hSw
                    (go_simp <;> omega)
                  try simp only [List.getElem_toArray, List.getElem_cons_zero, List.getElem_cons_succ, Act.put, List.setIfInBounds_toArray, List.set_cons_zero, List.set_cons_succ]
                  refine wpAnyH_take (i := 7) (v := .bool true) rfl (by kernel_rfl) (by kernel_rfl) (by kernel_rfl) (fun _ _ _ h => h) (Or.inl ⟨by rfl, fun w hSw => ?_⟩) (by assumption) ?_
                  · obtain ⟨s0, s1, s2⟩ := hSw
                    (go_simp <;> omega)
                  try simp only [List.getElem_toArray, List.getElem_cons_zero, List.getElem_cons_succ, Act.put, List.setIfInBounds_toArray, List.set_cons_zero, List.set_cons_succ]
                  refine wpAnyH_take (i := 8) (v := undef) rfl (by kernel_rfl) (by kernel_rfl) (by kernel_rfl) (fun _ _ _ h => h) (Or.inr ⟨by rfl, rfl⟩) (by assumption) ?_
                  try simp only [List.getElem_toArray, List.getElem_cons_zero, List.getElem_cons_succ, Act.put, List.setIfInBounds_toArray, List.set_cons_zero, List.set_cons_succ]
                  refine wpAnyH_take (i := 9) (v := undef) rfl (by kernel_rfl) (by kernel_rfl) (by kernel_rfl) (fun _ _ _ h => h) (Or.inr ⟨by rfl, rfl⟩) (by assumption) ?_
                  try simp only [List.getElem_toArray, List.getElem_cons_zero, List.getElem_cons_succ, Act.put, List.setIfInBounds_toArray, List.set_cons_zero, List.set_cons_succ]
                  refine wpAnyH_take (i := 10) (v := undef) rfl (by kernel_rfl) (by kernel_rfl) (by kernel_rfl) (fun _ _ _ h => h) (Or.inr ⟨by rfl, rfl⟩) (by assumption) ?_
                  try simp only [List.getElem_toArray, List.getElem_cons_zero, List.getElem_cons_succ, Act.put, List.setIfInBounds_toArray, List.set_cons_zero, List.set_cons_succ]
                  refine wpAnyH_take (i := 11) (v := undef) rfl (by kernel_rfl) (by kernel_rfl) (by kernel_rfl) (fun _ _ _ h => h) (Or.inr ⟨by rfl, rfl⟩) (by assumption) ?_
                  try simp only [List.getElem_toArray, List.getElem_cons_zero, List.getElem_cons_succ, Act.put, List.setIfInBounds_toArray, List.set_cons_zero, List.set_cons_succ]
                  refine wpAnyH_take (i := 12) (v := undef) rfl (by kernel_rfl) (by kernel_rfl) (by kernel_rfl) (fun _ _ _ h => h) (Or.inr ⟨by rfl, rfl⟩) (by assumption) ?_
                  try simp only [List.getElem_toArray, List.getElem_cons_zero, List.getElem_cons_succ, Act.put, List.setIfInBounds_toArray, List.set_cons_zero, List.set_cons_succ]
                  refine wpAnyH_take (i := 13) (v := undef) rfl (by kernel_rfl) (by kernel_rfl) (by kernel_rfl) (fun _ _ _ h => h) (Or.inr ⟨by rfl, rfl⟩) (by assumption) ?_
                  try simp only [List.getElem_toArray, List.getElem_cons_zero, List.getElem_cons_succ, Act.put, List.setIfInBounds_toArray, List.set_cons_zero, List.set_cons_succ]
                  refine wpAnyH_take (i := 14) (v := undef) rfl (by kernel_rfl) (by kernel_rfl) (by kernel_rfl) (fun _ _ _ h => h) (Or.inr ⟨by rfl, rfl⟩) (by assumption) ?_
                  try simp only [List.getElem_toArray, List.getElem_cons_zero, List.getElem_cons_succ, Act.put, List.setIfInBounds_toArray, List.set_cons_zero, List.set_cons_succ]
                  refine wpAnyH_take (i := 15) (v := undef) rfl (by kernel_rfl) (by kernel_rfl) (by kernel_rfl) (fun _ _ _ h => h) (Or.inr ⟨by rfl, rfl⟩) (by assumption) ?_
                  try simp only [List.getElem_toArray, List.getElem_cons_zero, List.getElem_cons_succ, Act.put, List.setIfInBounds_toArray, List.set_cons_zero, List.set_cons_succ]
                  refine wpAnyH_take (i := 16) (v := undef) rfl (by kernel_rfl) (by kernel_rfl) (by kernel_rfl) (fun _ _ _ h => h) (Or.inr ⟨by rfl, rfl⟩) (by assumption) ?_
                  try simp only [List.getElem_toArray, List.getElem_cons_zero, List.getElem_cons_succ, Act.put, List.setIfInBounds_toArray, List.set_cons_zero, List.set_cons_succ]
                  refine wpAnyH_take (i := 17) (v := undef) rfl (by kernel_rfl) (by kernel_rfl) (by kernel_rfl) (fun _ _ _ h => h) (Or.inr ⟨by rfl, rfl⟩) (by assumption) ?_
                  try simp only [List.getElem_toArray, List.getElem_cons_zero, List.getElem_cons_succ, Act.put, List.setIfInBounds_toArray, List.set_cons_zero, List.set_cons_succ]
                  refine wpAnyH_take (i := 18) (v := undef) rfl (by kernel_rfl) (by kernel_rfl) (by kernel_rfl) (fun _ _ _ h => h) (Or.inr ⟨by rfl, rfl⟩) (by assumption) ?_
                  try simp only [List.getElem_toArray, List.getElem_cons_zero, List.getElem_cons_succ, Act.put, List.setIfInBounds_toArray, List.set_cons_zero, List.set_cons_succ]
                  refine wpAnyH_take (i := 19) (v := undef) rfl (by kernel_rfl) (by kernel_rfl) (by kernel_rfl) (fun _ _ _ h => h) (Or.inr ⟨by rfl, rfl⟩) (by assumption) ?_
                  try simp only [List.getElem_toArray, List.getElem_cons_zero, List.getElem_cons_succ, Act.put, List.setIfInBounds_toArray, List.set_cons_zero, List.set_cons_succ]
                  refine wpAnyH_take (i := 20) (v := undef) rfl (by kernel_rfl) (by kernel_rfl) (by kernel_rfl) (fun _ _ _ h => h) (Or.inr ⟨by rfl, rfl⟩) (by assumption) ?_
                  try simp only [List.getElem_toArray, List.getElem_cons_zero, List.getElem_cons_succ, Act.put, List.setIfInBounds_toArray, List.set_cons_zero, List.set_cons_succ]
                  refine wpAnyH_take (i := 21) (v := undef) rfl (by kernel_rfl) (by kernel_rfl) (by kernel_rfl) (fun _ _ _ h => h) (Or.inr ⟨by rfl, rfl⟩) (by assumption) ?_
                  try simp only [List.getElem_toArray, List.getElem_cons_zero, List.getElem_cons_succ, Act.put, List.setIfInBounds_toArray, List.set_cons_zero, List.set_cons_succ]
                  refine wpAnyH_take (i := 22) (v := undef) rfl (by kernel_rfl) (by kernel_rfl) (by kernel_rfl) (fun _ _ _ h => h) (Or.inr ⟨by rfl, rfl⟩) (by assumption) ?_
                  try simp only [List.getElem_toArray, List.getElem_cons_zero, List.getElem_cons_succ, Act.put, List.setIfInBounds_toArray, List.set_cons_zero, List.set_cons_succ]
                  refine wpAnyH_take (i := 23) (v := undef) rfl (by kernel_rfl) (by kernel_rfl) (by kernel_rfl) (fun _ _ _ h => h) (Or.inr ⟨by rfl, rfl⟩) (by assumption) ?_
                  try simp only [List.getElem_toArray, List.getElem_cons_zero, List.getElem_cons_succ, Act.put, List.setIfInBounds_toArray, List.set_cons_zero, List.set_cons_succ]
                  refine wpAnyH_take (i := 24) (v := undef) rfl (by kernel_rfl) (by kernel_rfl) (by kernel_rfl) (fun _ _ _ h => h) (Or.inr ⟨by rfl, rfl⟩) (by assumption) ?_
                  try simp only [List.getElem_toArray, List.getElem_cons_zero, List.getElem_cons_succ, Act.put, List.setIfInBounds_toArray, List.set_cons_zero, List.set_cons_succ]
                  refine wpAnyH_take (i := 25) (v := undef) rfl (by kernel_rfl) (by kernel_rfl) (by kernel_rfl) (fun _ _ _ h => h) (Or.inr ⟨by rfl, rfl⟩) (by assumption) ?_
                  try simp only [List.getElem_toArray, List.getElem_cons_zero, List.getElem_cons_succ, Act.put, List.setIfInBounds_toArray, List.set_cons_zero, List.set_cons_succ]
                  refine wpAnyH_take (i := 26) (v := .bool true) rfl (by kernel_rfl) (by kernel_rfl) (by kernel_rfl) (fun _ _ _ h => h) (Or.inl ⟨by rfl, fun w hSw => ?_⟩) (by assumption) ?_
                  · obtain ⟨s0, s1, s2⟩ := hSw
                    (go_simp <;> omega)
                  try simp only [List.getElem_toArray, List.getElem_cons_zero, List.getElem_cons_succ, Act.put, List.setIfInBounds_toArray, List.set_cons_zero, List.set_cons_succ]
                  refine wpAnyH_done (by kernel_rfl) ?_ _
                  have hq := hb2.trans (hq2.mono hb2.size)
                  generalize q1 = q1 at hq
                  go_wp2_with fail
                  go_ret
                  exact ⟨ret_int hr.out.symm, hA.trans (hq.mono hA.size)⟩
              · have hr : Hid (C = 0) := Lib.hid (by rw [HK.out, List.drop_eq_nil_of_le (by have := hns.out; omega)]; rfl)
                go_wp2_with fail
                go_ret
                exact ⟨ret_int hr.out.symm, hA.trans (hb2.mono hA.size)⟩
  · have hc : Hid (C = 1) := Lib.hid (by rw [HC.out]; unfold Tm.vcode; rw [if_pos (by simpa using hf)])
    have hX := withinF W0 hf
    go_wp2_with fail
    refine hX.mono ?_
    clear hX
    rintro e w1 ⟨rfl, rfl⟩
    go_wp2_with fail
    go_ret
    exact ⟨ret_int hc.out.symm, hA⟩
end Go.Proofs.Ytmdkdkiejcjmaaa
