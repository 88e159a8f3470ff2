import Derived.Test.YtmdkdkiejcjmaaaSl
import Derived.BigQuiet
import Derived.Deep.QuietTactic
/- Package selionref08: Same. -/
namespace Go.Proofs.Ytmdkdkiejcjmaaa
open Go.RowKit Go.Shelf

set_option maxRecDepth 100000 in
set_option maxHeartbeats 8000000 in
theorem refSame_any (f : Int) (F : List Int) (S : List (Int × Int)) (aoF : Option Addr) (nF cF : Nat) (aoS : Option Addr) (nS cS : Nat) (f2 : Int) (F2 : List Int) (S2 : List (Int × Int)) (bF : Option Addr) (mF dF : Nat) (bS : Option Addr) (mS dS : Nat) (w : World) (hcl : Cl w aoF nF aoS nS F S) (h9 : nF ≤ 100000) (h8 : nS ≤ 100000) (hcl2 : Cl w bF mF bS mS F2 S2) (h92 : mF ≤ 100000) (h82 : mS ≤ 100000) :
    Calls Try.prog 54 #[.agg #[.int .i64 f, .slice aoF nF cF, .slice aoS nS cS], .agg #[.int .i64 f2, .slice bF mF dF, .slice bS mS dS]] w fun e w' => e = .returned (.bool (decide (f = f2) && (decide (F = F2) && decide (S = S2)))) ∧ Below w.heap.size w w' := by
  obtain ⟨R, hR⟩ : ∃ r, r = (decide (f = f2) && (decide (F = F2) && decide (S = S2))) := ⟨_, rfl⟩
  rw [← hR]
  have HR := Lib.hid hR
  clear hR
  have hA := below_alloc2 w (.cells #[.int .i64 f, .slice aoF nF cF, .slice aoS nS cS] 25) (.cells #[.int .i64 f2, .slice bF mF dF, .slice bS mS dS] 25)
  have ra := heap_alloc2_old w (.cells #[.int .i64 f, .slice aoF nF cF, .slice aoS nS cS] 25) (.cells #[.int .i64 f2, .slice bF mF dF, .slice bS mS dS] 25)
  have rb := heap_alloc2_new w (.cells #[.int .i64 f, .slice aoF nF cF, .slice aoS nS cS] 25) (.cells #[.int .i64 f2, .slice bF mF dF, .slice bS mS dS] 25)
  replace hcl := hcl.below hA
  replace hcl2 := hcl2.below hA
  go_enter Try.func54, Try.ntmps54
  go_upto_region 1 with fail
  generalize (w.alloc (.cells #[.int .i64 f, .slice aoF nF cF, .slice aoS nS cS] 25)).alloc (.cells #[.int .i64 f2, .slice bF mF dF, .slice bS mS dS] 25) = W0 at hA ra rb hcl hcl2 ⊢
  obtain ⟨G, hG⟩ : ∃ g, g = w.heap.size := ⟨_, rfl⟩
  rw [← hG] at ra rb ⊢
  have HG := Lib.hid hG
  clear hG
  have a0 := cell_of_row W0 G 0 _ _ _ ra
  have a1 := cell_of_row W0 G 1 _ _ _ ra
  have a2 := cell_of_row W0 G 2 _ _ _ ra
  have b0 := cell_of_row W0 (G + 1) 0 _ _ _ rb
  have b1 := cell_of_row W0 (G + 1) 1 _ _ _ rb
  have b2 := cell_of_row W0 (G + 1) 2 _ _ _ rb
  simp at a0 a1 a2 b0 b1 b2
  clear ra rb
  have HF := Lib.hid hcl.nf
  have HS := Lib.hid hcl.ns
  have HF2 := Lib.hid hcl2.nf
  have HS2 := Lib.hid hcl2.ns
  by_cases e1 : f = f2
  · have i1 : (f != f2) = false := by simp [e1]
    by_cases e2 : nF = mF
    · have i2 : ((nF : Int) != (mF : Int)) = false := by simp; omega
      by_cases e3 : nS = mS
      · have i3 : ((nS : Int) != (mS : Int)) = false := by simp; omega
        have hr0 : Hid (R = (decide (F.drop 0 = F2.drop 0) && decide (S = S2))) := Lib.hid (by rw [HR.out, decide_eq_true e1, Bool.true_and]; rfl)
        have hle1 : mF ≤ nF ∧ nF ≤ mF := by omega
        have hle2 : mS ≤ nS ∧ nS ≤ mS := by omega
        clear e1 e2 e3 HR
        go_wp2_with fail
        go_loopw [5] (fun i wr => ∃ k : Nat, k ≤ nF ∧ i = .int .i64 k ∧ Hid (R = (decide (F.drop k = F2.drop k) && decide (S = S2))) ∧ Below W0.heap.size W0 wr) (fun i _ => nF - (intOf i).toNat)
        case atStart => exact ⟨0, Nat.zero_le _, rfl, hr0, Below.refl _ _⟩
        case round =>
          obtain ⟨k, hk, rfl, HK, hb⟩ := hrel
          have A0 := keep_cell hb a1
          have B0 := keep_cell hb b1
          have A2 := keep_cell hb a2
          have B2 := keep_cell hb b2
          by_cases hlt : k < nF
          · have hk1 : k < F.length := by have := HF.out; omega
            have hk2 : k < F2.length := by have := HF2.out; omega
            obtain ⟨p1, o1, rfl, hp1, hc1⟩ := (hcl.hF.below hb).cells (by omega)
            obtain ⟨p2, o2, rfl, hp2, hc2⟩ := (hcl2.hF.below hb).cells (by omega)
            have z1 := hc1 k hk1
            have z2 := hc2 k hk2
            have hst : Hid (decide (F.drop k = F2.drop k) = (decide (F.getD k 0 = F2.getD k 0) && decide (F.drop (k + 1) = F2.drop (k + 1)))) := Lib.hid (by
              rw [List.drop_eq_getElem_cons hk1, List.drop_eq_getElem_cons hk2, List.getD_eq_getElem?_getD, List.getD_eq_getElem?_getD, List.getElem?_eq_getElem hk1, List.getElem?_eq_getElem hk2]
              simp only [Option.getD_some, List.cons.injEq, Bool.decide_and])
            obtain ⟨u, hu⟩ : ∃ u, u = F.getD k 0 := ⟨_, rfl⟩
            obtain ⟨v, hv⟩ : ∃ u, u = F2.getD k 0 := ⟨_, rfl⟩
            rw [← hu] at z1 hst
            rw [← hv] at z2 hst
            clear hu hv hc1 hc2
            have i4 : (k : Int) < (nF : Int) := by omega
            have i5 : (k : Int) < (mF : Int) := by omega
            by_cases huv : u = v
            · have hq : Hid (R = (decide (F.drop (k + 1) = F2.drop (k + 1)) && decide (S = S2))) := Lib.hid (by rw [HK.out, hst.out, decide_eq_true huv, Bool.true_and])
              have i6 : (u != v) = false := by simp [huv]
              clear HK hst huv
              go_upto_region 6 with fail
              go_quiet (fail)
              go_wp2_with fail
              go_roundw
              case rel => exact ⟨k + 1, by omega, by go_num, hq, below_drewN hb _⟩
              case measure => simp [intOf]; omega
            · have hq : Hid (R = false) := Lib.hid (by rw [HK.out, hst.out, decide_eq_false huv]; rfl)
              have i6 : (u != v) = true := by simp [huv]
              clear HK hst huv
              go_upto_region 6 with fail
              go_quiet (fail)
              go_wp2_with fail
              go_ret
              exact ⟨ret_bool hq.out.symm, hA.trans ((below_drewN hb _).mono hA.size)⟩
          · have i4 : ¬ (k : Int) < (nF : Int) := by omega
            have hr1 : Hid (R = decide (S.drop 0 = S2.drop 0)) := Lib.hid (by
              rw [HK.out, List.drop_eq_nil_of_le (show F.length ≤ k by have := HF.out; omega), List.drop_eq_nil_of_le (show F2.length ≤ k by have := HF2.out; omega)]; rfl)
            clear HK hr0
            go_wp2_with fail
            go_loopw [6] (fun i W2 => ∃ k : Nat, k ≤ nS ∧ i = .int .i64 k ∧ Hid (R = decide (S.drop k = S2.drop k)) ∧ Below W0.heap.size W0 W2) (fun i _ => nS - (intOf i).toNat)
            case atStart => exact ⟨0, Nat.zero_le _, rfl, hr1, hb⟩
            case round =>
              rename World => W2
              clear A0 B0 A2 B2 hlt i4 hk hb
              obtain ⟨k, hk, rfl, HK, hb⟩ := hrel
              have A2 := keep_cell hb a2
              have B2 := keep_cell hb b2
              by_cases hlt : k < nS
              · have hk1 : k < S.length := by have := HS.out; omega
                have hk2 : k < S2.length := by have := HS2.out; omega
                obtain ⟨p1, o1, rfl, hp1, hc1⟩ := (hcl.hS.below hb).cells (by omega)
                obtain ⟨p2, o2, rfl, hp2, hc2⟩ := (hcl2.hS.below hb).cells (by omega)
                obtain ⟨z1, z2⟩ := hc1 k hk1
                obtain ⟨y1, y2⟩ := hc2 k hk2
                have hst : Hid (decide (S.drop k = S2.drop k) = (decide (S.getD k (0, 0) = S2.getD k (0, 0)) && decide (S.drop (k + 1) = S2.drop (k + 1)))) := Lib.hid (by
                  rw [List.drop_eq_getElem_cons hk1, List.drop_eq_getElem_cons hk2, List.getD_eq_getElem?_getD, List.getD_eq_getElem?_getD, List.getElem?_eq_getElem hk1, List.getElem?_eq_getElem hk2]
                  simp only [Option.getD_some, List.cons.injEq, Bool.decide_and])
                obtain ⟨u, hu⟩ : ∃ u, u = S.getD k (0, 0) := ⟨_, rfl⟩
                obtain ⟨v, hv⟩ : ∃ u, u = S2.getD k (0, 0) := ⟨_, rfl⟩
                rw [← hu] at z1 z2 hst
                rw [← hv] at y1 y2 hst
                obtain ⟨u1, u2⟩ := u
                obtain ⟨v1, v2⟩ := v
                simp only at z1 z2 y1 y2
                clear hu hv hc1 hc2
                have i4 : (k : Int) < (nS : Int) := by omega
                have i5 : (k : Int) < (mS : Int) := by omega
                have hneq := run_neq_rt u1 u2 v1 v2
                by_cases huv : (u1, u2) = (v1, v2)
                · have hq : Hid (R = decide (S.drop (k + 1) = S2.drop (k + 1))) := Lib.hid (by rw [HK.out, hst.out, decide_eq_true huv, Bool.true_and])
                  rw [decide_eq_true huv] at hneq
                  clear HK hst huv
                  go_upto_region 11 with fail
                  go_quiet (fail)
                  go_wp2_with fail
                  go_roundw
                  case rel => exact ⟨k + 1, by omega, by go_num, hq, below_drewN hb _⟩
                  case measure => simp [intOf]; omega
                · have hq : Hid (R = false) := Lib.hid (by rw [HK.out, hst.out, decide_eq_false huv]; rfl)
                  rw [decide_eq_false huv] at hneq
                  clear HK hst huv
                  go_upto_region 11 with fail
                  go_quiet (fail)
                  go_wp2_with fail
                  go_ret
                  exact ⟨ret_bool hq.out.symm, hA.trans ((below_drewN hb _).mono hA.size)⟩
              · have i4 : ¬ (k : Int) < (nS : Int) := by omega
                have hr2 : Hid (R = true) := Lib.hid (by
                  rw [HK.out, List.drop_eq_nil_of_le (show S.length ≤ k by have := HS.out; omega), List.drop_eq_nil_of_le (show S2.length ≤ k by have := HS2.out; omega)]; rfl)
                clear HK
                go_wp2_with fail
                go_ret
                exact ⟨ret_bool hr2.out.symm, hA.trans (hb.mono hA.size)⟩
      · have i3 : ((nS : Int) != (mS : Int)) = true := by simp; omega
        have hr : Hid (R = false) := Lib.hid (by
          have : ¬ S = S2 := fun e => e3 (by rw [HS.out, HS2.out, e])
          rw [HR.out, decide_eq_false this, Bool.and_false, Bool.and_false])
        clear e1 e2 e3 HR
        go_wp2_with fail
        go_ret
        exact ⟨ret_bool hr.out.symm, hA⟩
    · have i2 : ((nF : Int) != (mF : Int)) = true := by simp; omega
      have hr : Hid (R = false) := Lib.hid (by
        have : ¬ F = F2 := fun e => e2 (by rw [HF.out, HF2.out, e])
        rw [HR.out, decide_eq_false this, Bool.false_and, Bool.and_false])
      clear e1 e2 HR
      go_wp2_with fail
      go_ret
      exact ⟨ret_bool hr.out.symm, hA⟩
  · have i1 : (f != f2) = true := by simp [e1]
    have hr : Hid (R = false) := Lib.hid (by rw [HR.out, decide_eq_false e1]; rfl)
    clear e1 HR
    go_wp2_with fail
    go_ret
    exact ⟨ret_bool hr.out.symm, hA⟩
end Go.Proofs.Ytmdkdkiejcjmaaa
