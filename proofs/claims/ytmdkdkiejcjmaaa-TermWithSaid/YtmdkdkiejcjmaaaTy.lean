import Derived.Test.YtmdkdkiejcjmaaaTx
import Derived.Test.YtmdkdkiejcjmaaaTr
/- The law TermAdds. -/
namespace Go.Proofs.Ytmdkdkiejcjmaaa
open Go.Joins Go.Deep Go.ChangeShapes Go.WideShapes Go.ChangeAt Go.RowKit
namespace Tm
theorem rcode_of {f a b : Int} {F : List Int} {S : List (Int × Int)} (hv : vcode f F S = 0) (h1 : 0 ≤ a) (h2 : a ≤ b) (h3 : b ≤ 10000) : rcode f F S a b = 0 := by
  have hd : dcode f F S [a, b] = 0 := by
    unfold dcode
    rw [if_neg (by simpa using hv), if_pos]
    unfold upTo
    simp
    omega
  unfold rcode
  rw [if_neg (by simpa using hd), if_neg (by omega)]
theorem nval_adds {f a b m : Int} {F : List Int} {S : List (Int × Int)} {p : Nat → Bool} (h : rcode f F S a b = 0) (h1 : a ≤ m) (h2 : m < b) :
    rcode f F S a m = 0 ∧ rcode f F S (m + 1) b = 0 ∧ nval f F S p a b = nval f F S p a m + nval f F S p (m + 1) b ∧ 0 ≤ nval f F S p a m ∧ nval f F S p a m ≤ 10001 ∧ 0 ≤ nval f F S p (m + 1) b ∧ nval f F S p (m + 1) b ≤ 10001 := by
  obtain ⟨hv, k1, k2, k3⟩ := rcode_ok h
  have r1 := rcode_of hv k1 h1 (show m ≤ 10000 by omega)
  have r2 := rcode_of hv (show 0 ≤ m + 1 by omega) (show m + 1 ≤ b by omega) k3
  refine ⟨r1, r2, ?_⟩
  unfold nval
  rw [if_pos h, if_pos r1, if_pos r2]
  have e := cnt_add p a.toNat (m.toNat + 1 - a.toNat) (b.toNat + 1 - (m + 1).toNat)
  rw [show m.toNat + 1 - a.toNat + (b.toNat + 1 - (m + 1).toNat) = b.toNat + 1 - a.toNat by omega, show a.toNat + (m.toNat + 1 - a.toNat) = (m + 1).toNat by omega] at e
  have l1 := cnt_le p a.toNat (m.toNat + 1 - a.toNat)
  have l2 := cnt_le p (m + 1).toNat (b.toNat + 1 - (m + 1).toNat)
  omega
end Tm

set_option maxRecDepth 100000 in
set_option maxHeartbeats 8000000 in
theorem termAdds_any (f : Int) (F : List Int) (S : List (Int × Int)) (aoF : Option Addr) (nF cF : Nat) (aoS : Option Addr) (nS cS : Nat) (a b m : Int) (w : World) (hcl : Cl w aoF nF aoS nS F S) (ra : Rng a) (rb : Rng b) (_ : Rng m) :
    Calls Try.prog 6 #[.agg #[.int .i64 f, .slice aoF nF cF, .slice aoS nS cS], .agg #[.int .i64 a, .int .i64 b], .int .i64 m] w fun e w' => e = .returned (.bool true) ∧ Below w.heap.size w w' := by
  have hA := below_alloc2 w (.cells #[.int .i64 f, .slice aoF nF cF, .slice aoS nS cS] 25) (.cells #[.int .i64 a, .int .i64 b] 38)
  have rc := heap_alloc2_old w (.cells #[.int .i64 f, .slice aoF nF cF, .slice aoS nS cS] 25) (.cells #[.int .i64 a, .int .i64 b] 38)
  have rx := heap_alloc2_new w (.cells #[.int .i64 f, .slice aoF nF cF, .slice aoS nS cS] 25) (.cells #[.int .i64 a, .int .i64 b] 38)
  unfold Rng at ra rb
  go_enter Try.func6, Try.ntmps6
  go_upto_region 1 with fail
  generalize (w.alloc (.cells #[.int .i64 f, .slice aoF nF cF, .slice aoS nS cS] 25)).alloc (.cells #[.int .i64 a, .int .i64 b] 38) = W0 at hA rc rx ⊢
  obtain ⟨G, hG⟩ : ∃ g, g = w.heap.size := ⟨_, rfl⟩
  rw [← hG] at rc rx ⊢
  have HG := Lib.hid hG
  clear hG
  replace hcl := hcl.below hA
  have c0 := cell_of_row W0 G 0 _ _ _ rc
  have c1 := cell_of_row W0 G 1 _ _ _ rc
  have c2 := cell_of_row W0 G 2 _ _ _ rc
  simp at c0 c1 c2
  obtain ⟨⟨d0, d1⟩, -, -⟩ := row_fr rx
  clear rc rx
  go_wp2_with fail
  refine ((tlong_any f F S aoF nF cF aoS nS cS W0)).mono ?_
  rintro e w1 ⟨rfl, hbb⟩
  replace hcl := hcl.below hbb
  replace hA := hA.trans (hbb.mono hA.size)
  replace c0 := keep_cell hbb c0
  replace c1 := keep_cell hbb c1
  replace c2 := keep_cell hbb c2
  replace d0 := keep_cell hbb d0
  replace d1 := keep_cell hbb d1
  clear hbb
  obtain ⟨B, hB⟩ : ∃ t, (decide (100 < nF) || decide (100 < nS)) = t := ⟨_, rfl⟩
  rw [hB]
  cases B with
  | true =>
    clear hB
    go_wp2_with fail
    refine (tknown_any w1).mono ?_
    rintro e w9 ⟨rfl, hbb⟩
    go_wp2_with fail
    go_ret
    exact ⟨rfl, hA.trans (hbb.mono hA.size)⟩
  | false =>
    rw [Bool.or_eq_false_iff, decide_eq_false_iff_not, decide_eq_false_iff_not] at hB
    obtain ⟨h9, h8⟩ := hB
    by_cases h1 : m < a
    · go_wp2_with fail
      refine (tknown_any w1).mono ?_
      rintro e w9 ⟨rfl, hbb⟩
      go_wp2_with fail
      go_ret
      exact ⟨rfl, hA.trans (hbb.mono hA.size)⟩
    by_cases h2 : b ≤ m
    · go_wp2_with fail
      refine (tknown_any w1).mono ?_
      rintro e w9 ⟨rfl, hbb⟩
      go_wp2_with fail
      go_ret
      exact ⟨rfl, hA.trans (hbb.mono hA.size)⟩
    have h1' : a ≤ m := by omega
    have h2' : m < b := by omega
    have hX := Counting_any f F S aoF nF cF aoS nS cS a m w1 hcl (by omega) (by omega)
    obtain ⟨C1, hC1⟩ : ∃ c, c = Tm.rcode f F S a m := ⟨_, rfl⟩
    obtain ⟨V1, hV1⟩ : ∃ c, c = Tm.nval f F S (Tm.count S) a m := ⟨_, rfl⟩
    rw [← hC1, ← hV1] at hX
    have H1 := Lib.hid (And.intro hC1 hV1)
    clear hC1 hV1
    go_wp2_with fail
    refine hX.mono ?_
    clear hX
    rintro e w2 ⟨rfl, hbb⟩
    replace hcl := hcl.below hbb
    replace hA := hA.trans (hbb.mono hA.size)
    replace c0 := keep_cell hbb c0
    replace c1 := keep_cell hbb c1
    replace c2 := keep_cell hbb c2
    replace d0 := keep_cell hbb d0
    replace d1 := keep_cell hbb d1
    clear hbb
    have hX := Counting_any f F S aoF nF cF aoS nS cS (m + 1) b w2 hcl (by omega) (by omega)
    obtain ⟨C2, hC2⟩ : ∃ c, c = Tm.rcode f F S (m + 1) b := ⟨_, rfl⟩
    obtain ⟨V2, hV2⟩ : ∃ c, c = Tm.nval f F S (Tm.count S) (m + 1) b := ⟨_, rfl⟩
    rw [← hC2, ← hV2] at hX
    have H2 := Lib.hid (And.intro hC2 hV2)
    clear hC2 hV2
    go_wp2_with fail
    refine hX.mono ?_
    clear hX
    rintro e w3 ⟨rfl, hbb⟩
    replace hcl := hcl.below hbb
    replace hA := hA.trans (hbb.mono hA.size)
    replace c0 := keep_cell hbb c0
    replace c1 := keep_cell hbb c1
    replace c2 := keep_cell hbb c2
    replace d0 := keep_cell hbb d0
    replace d1 := keep_cell hbb d1
    clear hbb
    have hX := Counting_any f F S aoF nF cF aoS nS cS a b w3 hcl (by omega) (by omega)
    obtain ⟨C3, hC3⟩ : ∃ c, c = Tm.rcode f F S a b := ⟨_, rfl⟩
    obtain ⟨V3, hV3⟩ : ∃ c, c = Tm.nval f F S (Tm.count S) a b := ⟨_, rfl⟩
    rw [← hC3, ← hV3] at hX
    have H3 := Lib.hid (And.intro hC3 hV3)
    clear hC3 hV3
    go_wp2_with fail
    refine hX.mono ?_
    clear hX
    rintro e w4 ⟨rfl, hbb⟩
    replace hcl := hcl.below hbb
    replace hA := hA.trans (hbb.mono hA.size)
    replace c0 := keep_cell hbb c0
    replace c1 := keep_cell hbb c1
    replace c2 := keep_cell hbb c2
    replace d0 := keep_cell hbb d0
    replace d1 := keep_cell hbb d1
    clear hbb
    clear h9 h8
    by_cases hz : C3 = 0
    · have hcd := H3.out.1.symm.trans hz
      obtain ⟨q1, q2, q3, q4, q5, q6, q7⟩ := Tm.nval_adds (p := Tm.count S) hcd h1' h2'
      rw [← H1.out.1] at q1
      rw [← H2.out.1] at q2
      rw [← H1.out.2, ← H2.out.2, ← H3.out.2] at q3
      rw [← H1.out.2] at q4 q5
      rw [← H2.out.2] at q6 q7
      clear H1 H2 H3 hcd
      subst hz
      subst q1
      subst q2
      subst q3
      go_wp2_with fail
      refine (tknown_any w4).mono ?_
      rintro e w9 ⟨rfl, hbb⟩
      go_wp2_with fail
      go_ret
      exact ⟨rfl, hA.trans (hbb.mono hA.size)⟩
    · have hne : (C3 != 0) = true := by simp [hz]
      go_wp2_with fail
      refine (tknown_any w4).mono ?_
      rintro e w9 ⟨rfl, hbb⟩
      go_wp2_with fail
      go_ret
      exact ⟨rfl, hA.trans (hbb.mono hA.size)⟩
end Go.Proofs.Ytmdkdkiejcjmaaa
