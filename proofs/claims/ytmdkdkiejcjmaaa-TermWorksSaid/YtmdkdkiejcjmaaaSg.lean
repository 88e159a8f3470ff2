import Derived.Test.YtmdkdkiejcjmaaaSl
import Derived.Test.YtmdkdkiejcjmaaaSc
import Derived.Test.YtmdkdkiejcjmaaaRd
/- The law TermWorks. -/
namespace Go.Proofs.Ytmdkdkiejcjmaaa
open Go.Joins Go.Deep Go.ChangeShapes Go.WideShapes Go.ChangeAt Go.RowKit

set_option maxRecDepth 100000 in
set_option maxHeartbeats 8000000 in
theorem termWorks_any (f : Int) (F : List Int) (S : List (Int × Int)) (aoF : Option Addr) (nF cF : Nat) (aoS : Option Addr) (nS cS : Nat) (d t : Int) (w : World) (hcl : Cl w aoF nF aoS nS F S) :
    Calls Try.prog 7 #[.agg #[.int .i64 f, .slice aoF nF cF, .slice aoS nS cS], .int .i64 d, .int .i64 t] w fun e w' => e = .returned (.bool true) ∧ Below w.heap.size w w' := by
  have hA := (Below.refl _ w).alloc (Nat.le_refl _) (.cells #[.int .i64 f, .slice aoF nF cF, .slice aoS nS cS] 25)
  have rc := heap_alloc_new w (.cells #[.int .i64 f, .slice aoF nF cF, .slice aoS nS cS] 25)
  replace hcl := hcl.below hA
  go_enter Try.func7, Try.ntmps7
  go_upto_region 1 with fail
  generalize w.alloc (.cells #[.int .i64 f, .slice aoF nF cF, .slice aoS nS cS] 25) = W0 at hA rc hcl ⊢
  obtain ⟨G, hG⟩ : ∃ g, g = w.heap.size := ⟨_, rfl⟩
  rw [← hG] at rc ⊢
  have HG := Lib.hid hG
  clear hG
  have c0 := cell_of_row W0 G 0 _ _ _ rc
  have c1 := cell_of_row W0 G 1 _ _ _ rc
  have c2 := cell_of_row W0 G 2 _ _ _ rc
  simp at c0 c1 c2
  clear rc
  go_wp2_with fail
  refine ((tlong_any f F S aoF nF cF aoS nS cS W0)).mono ?_
  rintro e w1 ⟨rfl, hbb⟩
  replace hcl := hcl.below hbb
  replace c0 := keep_cell hbb c0
  replace c1 := keep_cell hbb c1
  replace c2 := keep_cell hbb c2
  replace hA := hA.trans (hbb.mono hA.size)
  clear hbb
  obtain ⟨B, hB⟩ : ∃ t, (decide (100 < nF) || decide (100 < nS)) = t := ⟨_, rfl⟩
  rw [hB]
  cases B with
  | true =>
    clear hB
    go_wp2_with fail
    refine (tknown_any w1).mono ?_
    rintro e w9 ⟨rfl, hbb⟩
    go_wp2_with fail
    go_ret
    exact ⟨rfl, hA.trans (hbb.mono hA.size)⟩
  | false =>
    rw [Bool.or_eq_false_iff, decide_eq_false_iff_not, decide_eq_false_iff_not] at hB
    obtain ⟨h9a, h8a⟩ := hB
    have h9 : nF ≤ 100000 := by omega
    have h8 : nS ≤ 100000 := by omega
    clear h9a h8a
    obtain ⟨C, hC⟩ : ∃ c, c = Tm.tcode f F S d [t] := ⟨_, rfl⟩
    have HC := Lib.hid hC
    clear hC
    have hX := AddWork_any f F S aoF nF cF aoS nS cS d t w1 hcl h9 h8
    rw [← HC.out] at hX
    go_wp2_with fail
    refine hX.mono ?_
    clear hX
    rintro e w2 ⟨⟨x, rfl, hx⟩, hbb⟩
    replace hcl := hcl.below hbb
    replace c0 := keep_cell hbb c0
    replace c1 := keep_cell hbb c1
    replace c2 := keep_cell hbb c2
    replace hA := hA.trans (hbb.mono hA.size)
    clear hbb
    have hX := refAddWork_any f F S aoF nF cF aoS nS cS d t w2 hcl h9 h8
    rw [← HC.out] at hX
    go_wp2_with fail
    refine hX.mono ?_
    clear hX
    rintro e w3 ⟨⟨x2, rfl, hx2⟩, hbb⟩
    replace hcl := hcl.below hbb
    replace c0 := keep_cell hbb c0
    replace c1 := keep_cell hbb c1
    replace c2 := keep_cell hbb c2
    replace hA := hA.trans (hbb.mono hA.size)
    clear hbb
    obtain rfl := hx.unique hx2
    have HX := Lib.hid hx
    clear hx hx2
    by_cases hz : C = 0
    · have hz2 := Lib.hid (HC.out.symm.trans hz)
      obtain ⟨hv, hd, hts⟩ := Tm.tcode_ok hz2.out
      have ht := hts t (by simp)
      subst hz
      have hX : Tm.After (Tm.work f F) d.toNat t.toNat x := by
        rcases HX.out with ⟨-, h, -⟩ | ⟨h, -⟩
        · exact h
        · exact absurd hz2.out h
      obtain ⟨d0, rfl⟩ := Int.eq_ofNat_of_zero_le hd.1
      obtain ⟨t0, rfl⟩ := Int.eq_ofNat_of_zero_le ht.1
      rw [Int.toNat_natCast, Int.toNat_natCast] at hX
      clear hts HC HX
      by_cases h0 : t0 = 0
      · subst h0
        clear hX
        go_wp2_with fail
        refine (tknown_any w3).mono ?_
        rintro e w9 ⟨rfl, hbb⟩
        go_wp2_with fail
        go_ret
        exact ⟨rfl, hA.trans (hbb.mono hA.size)⟩
      · have hn0 : ((t0 : Int) == 0) = false := by simp; omega
        by_cases hbig : 10000 < x
        · have i1 : (10000 : Int) < (x : Int) := by omega
          clear hX
          go_wp2_with fail
          refine (tknown_any w3).mono ?_
          rintro e w9 ⟨rfl, hbb⟩
          go_wp2_with fail
          go_ret
          exact ⟨rfl, hA.trans (hbb.mono hA.size)⟩
        · have i1 : ¬ (10000 : Int) < (x : Int) := by omega
          obtain ⟨k1, k2, k3⟩ := Tm.after_cnt hX (by omega)
          have r1 : Tm.rcode f F S ((d0 : Int) + 1) (x : Int) = 0 := Tm.rcode_of hv (by omega) (by omega) (by omega)
          have r2 : Tm.nval f F S (Tm.work f F) ((d0 : Int) + 1) (x : Int) = (t0 : Int) := by
            unfold Tm.nval
            rw [if_pos r1, Int.toNat_natCast, show ((d0 : Int) + 1).toNat = d0 + 1 by omega, k2]
          have r3 : Tm.dcode f F S [(x : Int)] = 0 := Tm.dcode_of hv (by omega) (by omega)
          have r4 : Tm.dfree f F S (x : Int) = false := by
            unfold Tm.dfree
            have : Tm.free f F (x : Int) = false := by have h := k3; unfold Tm.work at h; simpa using h
            rw [this, Bool.and_false]
          have hX1 := Work_any f F S aoF nF cF aoS nS cS ((d0 : Int) + 1) (x : Int) w3 hcl h9 h8
          rw [r1, r2] at hX1
          clear hX k1 k2 k3 r1 r2 hbig h0
          go_wp2_with fail
          refine hX1.mono ?_
          clear hX1
          rintro e w4 ⟨rfl, hbb⟩
          replace hcl := hcl.below hbb
          replace c0 := keep_cell hbb c0
          replace c1 := keep_cell hbb c1
          replace c2 := keep_cell hbb c2
          replace hA := hA.trans (hbb.mono hA.size)
          clear hbb
          have hX1 := IsFree_any f F S aoF nF cF aoS nS cS (x : Int) w4 hcl h9 h8
          rw [r3, r4] at hX1
          clear r3 r4
          go_wp2_with fail
          refine hX1.mono ?_
          clear hX1
          rintro e w5 ⟨rfl, hbb⟩
          replace hcl := hcl.below hbb
          replace c0 := keep_cell hbb c0
          replace c1 := keep_cell hbb c1
          replace c2 := keep_cell hbb c2
          replace hA := hA.trans (hbb.mono hA.size)
          clear hbb
          go_wp2_with fail
          refine (tknown_any w5).mono ?_
          rintro e w9 ⟨rfl, hbb⟩
          go_wp2_with fail
          go_ret
          exact ⟨rfl, hA.trans (hbb.mono hA.size)⟩
    · have hne : (C != 0) = true := by simp [hz]
      go_wp2_with fail
      refine (tknown_any w3).mono ?_
      rintro e w9 ⟨rfl, hbb⟩
      go_wp2_with fail
      go_ret
      exact ⟨rfl, hA.trans (hbb.mono hA.size)⟩
end Go.Proofs.Ytmdkdkiejcjmaaa
