import Derived.Test.YtmdkdkiejcjmaaaSl
import Derived.Test.YtmdkdkiejcjmaaaSc
/- The law TermNexts. -/
namespace Go.Proofs.Ytmdkdkiejcjmaaa
open Go.Joins Go.Deep Go.ChangeShapes Go.WideShapes Go.ChangeAt Go.RowKit

set_option maxRecDepth 100000 in
set_option maxHeartbeats 8000000 in
theorem termNexts_any (f : Int) (F : List Int) (S : List (Int × Int)) (aoF : Option Addr) (nF cF : Nat) (aoS : Option Addr) (nS cS : Nat) (d : Int) (w : World) (hcl : Cl w aoF nF aoS nS F S) :
    Calls Try.prog 4 #[.agg #[.int .i64 f, .slice aoF nF cF, .slice aoS nS cS], .int .i64 d] w fun e w' => e = .returned (.bool true) ∧ Below w.heap.size w w' := by
  have hA := (Below.refl _ w).alloc (Nat.le_refl _) (.cells #[.int .i64 f, .slice aoF nF cF, .slice aoS nS cS] 25)
  have rc := heap_alloc_new w (.cells #[.int .i64 f, .slice aoF nF cF, .slice aoS nS cS] 25)
  replace hcl := hcl.below hA
  go_enter Try.func4, Try.ntmps4
  go_upto_region 1 with fail
  generalize w.alloc (.cells #[.int .i64 f, .slice aoF nF cF, .slice aoS nS cS] 25) = W0 at hA rc hcl ⊢
  obtain ⟨G, hG⟩ : ∃ g, g = w.heap.size := ⟨_, rfl⟩
  rw [← hG] at rc ⊢
  have HG := Lib.hid hG
  clear hG
  have c0 := cell_of_row W0 G 0 _ _ _ rc
  have c1 := cell_of_row W0 G 1 _ _ _ rc
  have c2 := cell_of_row W0 G 2 _ _ _ rc
  simp at c0 c1 c2
  clear rc
  go_wp2_with fail
  refine ((tlong_any f F S aoF nF cF aoS nS cS W0)).mono ?_
  rintro e w1 ⟨rfl, hbb⟩
  replace hcl := hcl.below hbb
  replace c0 := keep_cell hbb c0
  replace c1 := keep_cell hbb c1
  replace c2 := keep_cell hbb c2
  replace hA := hA.trans (hbb.mono hA.size)
  clear hbb
  obtain ⟨B, hB⟩ : ∃ t, (decide (100 < nF) || decide (100 < nS)) = t := ⟨_, rfl⟩
  rw [hB]
  cases B with
  | true =>
    clear hB
    go_wp2_with fail
    refine (tknown_any w1).mono ?_
    rintro e w9 ⟨rfl, hbb⟩
    go_wp2_with fail
    go_ret
    exact ⟨rfl, hA.trans (hbb.mono hA.size)⟩
  | false =>
    rw [Bool.or_eq_false_iff, decide_eq_false_iff_not, decide_eq_false_iff_not] at hB
    obtain ⟨h9a, h8a⟩ := hB
    have h9 : nF ≤ 100000 := by omega
    have h8 : nS ≤ 100000 := by omega
    clear h9a h8a
    obtain ⟨C, hC⟩ : ∃ c, c = Tm.dcode f F S [d] := ⟨_, rfl⟩
    have HC := Lib.hid hC
    clear hC
    have hX := Next_any f F S aoF nF cF aoS nS cS d w1 hcl h9 h8
    rw [← HC.out] at hX
    go_wp2_with fail
    refine hX.mono ?_
    clear hX
    rintro e w2 ⟨⟨x, rfl, hx⟩, hbb⟩
    replace hcl := hcl.below hbb
    replace c0 := keep_cell hbb c0
    replace c1 := keep_cell hbb c1
    replace c2 := keep_cell hbb c2
    replace hA := hA.trans (hbb.mono hA.size)
    clear hbb
    have hX := refNext_any f F S aoF nF cF aoS nS cS d w2 hcl h9 h8
    rw [← HC.out] at hX
    go_wp2_with fail
    refine hX.mono ?_
    clear hX
    rintro e w3 ⟨⟨x2, rfl, hx2⟩, hbb⟩
    replace hcl := hcl.below hbb
    replace c0 := keep_cell hbb c0
    replace c1 := keep_cell hbb c1
    replace c2 := keep_cell hbb c2
    replace hA := hA.trans (hbb.mono hA.size)
    clear hbb
    obtain rfl := hx.unique hx2
    have hX := Before_any f F S aoF nF cF aoS nS cS d w3 hcl h9 h8
    rw [← HC.out] at hX
    go_wp2_with fail
    refine hX.mono ?_
    clear hX
    rintro e w4 ⟨⟨y, b, rfl, hy⟩, hbb⟩
    replace hcl := hcl.below hbb
    replace c0 := keep_cell hbb c0
    replace c1 := keep_cell hbb c1
    replace c2 := keep_cell hbb c2
    replace hA := hA.trans (hbb.mono hA.size)
    clear hbb
    have hX := refBefore_any f F S aoF nF cF aoS nS cS d w4 hcl h9 h8
    rw [← HC.out] at hX
    go_wp2_with fail
    refine hX.mono ?_
    clear hX
    rintro e w5 ⟨⟨y2, b2, rfl, hy2⟩, hbb⟩
    replace hcl := hcl.below hbb
    replace c0 := keep_cell hbb c0
    replace c1 := keep_cell hbb c1
    replace c2 := keep_cell hbb c2
    replace hA := hA.trans (hbb.mono hA.size)
    clear hbb
    obtain ⟨rfl, rfl⟩ := hy.unique hy2
    have HX := Lib.hid hx
    have HY := Lib.hid hy
    clear hx hx2 hy hy2
    by_cases hz : C = 0
    · have hz2 := Lib.hid (HC.out.symm.trans hz)
      obtain ⟨hv, hd⟩ := Tm.dcode_ok hz2.out
      have hd2 := hd d (by simp)
      subst hz
      obtain ⟨d0, rfl⟩ := Int.eq_ofNat_of_zero_le hd2.1
      have hk := Tm.nx_bf hz2.out HX.out HY.out
      rw [Int.toNat_natCast] at hk
      obtain ⟨k1, k2⟩ := hk
      clear hv hd hd2 HC HX HY hz2
      have i1 : (d0 : Int) ≤ (x : Int) := by omega
      cases b with
      | false =>
        clear k2
        go_wp2_with fail
        refine (tknown_any w5).mono ?_
        rintro e w9 ⟨rfl, hbb⟩
        go_wp2_with fail
        go_ret
        exact ⟨rfl, hA.trans (hbb.mono hA.size)⟩
      | true =>
        obtain ⟨k3, k4⟩ := k2 rfl
        clear k2
        have i2 : (y : Int) ≤ (d0 : Int) := by omega
        by_cases hxd : x = d0
        · have hyd := k4.2 hxd
          clear k4
          subst hxd hyd
          go_wp2_with fail
          refine (tknown_any w5).mono ?_
          rintro e w9 ⟨rfl, hbb⟩
          go_wp2_with fail
          go_ret
          exact ⟨rfl, hA.trans (hbb.mono hA.size)⟩
        · have hyd : ¬ y = d0 := fun h => hxd (k4.1 h)
          have i3 : ((x : Int) == (d0 : Int)) = false := by simp; omega
          have i4 : ((y : Int) == (d0 : Int)) = false := by simp; omega
          clear k4 hxd hyd
          go_wp2_with fail
          refine (tknown_any w5).mono ?_
          rintro e w9 ⟨rfl, hbb⟩
          go_wp2_with fail
          go_ret
          exact ⟨rfl, hA.trans (hbb.mono hA.size)⟩
    · have hne : (C != 0) = true := by simp [hz]
      have hnf : (C == 0) = false := by simp [hz]
      cases b
      all_goals
        go_wp2_with fail
        refine (tknown_any w5).mono ?_
        rintro e w9 ⟨rfl, hbb⟩
        go_wp2_with fail
        go_ret
        exact ⟨rfl, hA.trans (hbb.mono hA.size)⟩
end Go.Proofs.Ytmdkdkiejcjmaaa
