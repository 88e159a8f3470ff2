import Derived.Test.YtmdkdkiejcjmaaaSj
import Derived.Test.YtmdkdkiejcjmaaaSl
/- The law TermLatests. -/
namespace Go.Proofs.Ytmdkdkiejcjmaaa
open Go.Joins Go.Deep Go.ChangeShapes Go.WideShapes Go.ChangeAt Go.RowKit

namespace Tm
theorem ends_le {c p : Nat → Bool} {d n l x : Nat} (h : Ends c p d n x) (hl : d ≤ l) (hp : p l = true) (hn : n ≤ cnt c (d + 1) (l - d)) : x ≤ l := by
  obtain ⟨a, h1, h2⟩ := h
  have ha : a ≤ l := by
    rcases h1 with ⟨-, rfl⟩ | ⟨h3, h4⟩
    · exact hl
    · refine Nat.le_of_not_lt fun hlt => ?_
      have h5 := h4.num
      have h6 := cnt_mono (p := c) (d := d + 1) (show l - d ≤ a - (d + 1) by omega)
      omega
  refine Nat.le_of_not_lt fun hlt => ?_
  have h5 := h2.num
  have h6 := cnt_mono (p := p) (d := a) (show l - a + 1 ≤ x - a by omega)
  rw [cnt_succ, show a + (l - a) = l by omega, hp] at h6
  simp at h6
  omega
theorem ends_gt {c p : Nat → Bool} {d n l e x : Nat} (h : Ends c p d n x) (hno : ∀ y, l < y → y ≤ e → p y = false) (hl : l < d ∨ cnt c (d + 1) (l - d) < n) : e < x := by
  have hx : l < x := by
    obtain ⟨a, h1, h2⟩ := h
    have h3 := h2.le
    rcases h1 with ⟨rfl, rfl⟩ | ⟨h4, h5⟩
    · rcases hl with h | h
      · omega
      · omega
    · have h6 := h5.le
      rcases hl with h | h
      · omega
      · refine Nat.lt_of_not_le fun hle => ?_
        have h7 := h5.num
        have h8 := cnt_mono (p := c) (d := d + 1) (show a - (d + 1) + 1 ≤ l - d by omega)
        rw [cnt_succ, show d + 1 + (a - (d + 1)) = a by omega, h5.is] at h8
        simp at h8
        omega
  refine Nat.lt_of_not_le fun hle => ?_
  have := hno x hx hle
  obtain ⟨a, h1, h2⟩ := h
  rw [h2.is] at this
  cases this
theorem lat_facts {p c : Nat → Bool} {e n x : Nat} {b : Bool} (h : Lat p c e n x b) : (∀ z, Ends c p x n z → (b = true → z ≤ e) ∧ (b = false → e < z)) ∧ (∀ z, b = true → Ends c p (x + 1) n z → e < z) := by
  obtain ⟨l, o, hB, h⟩ := h
  rcases h with ⟨rfl, rfl, rfl⟩ | ⟨rfl, hL⟩
  · rcases hB with ⟨h1, -⟩ | ⟨-, rfl, h3⟩
    · cases h1
    · refine ⟨fun z hz => ⟨(fun h => by cases h), fun _ => ?_⟩, fun z h => by cases h⟩
      obtain ⟨a, -, h2⟩ := hz
      refine Nat.lt_of_not_le fun hle => ?_
      have := h3 z hle
      rw [h2.is] at this
      cases this
  · rcases hB with ⟨-, h1, h2, h3⟩ | ⟨h1, -⟩
    · rcases hL with ⟨rfl, k1, k2, k3⟩ | ⟨rfl, rfl, k3⟩
      · refine ⟨fun z hz => ⟨fun _ => Nat.le_trans (ends_le hz k1 h2 k2) h1, fun h => by cases h⟩, fun z _ hz => ends_gt hz h3 ?_⟩
        by_cases hx : x = l
        · left; omega
        · right
          exact k3 (x + 1) (by omega) (by omega)
      · refine ⟨fun z hz => ⟨(fun h => by cases h), fun _ => ends_gt hz h3 (.inr (k3 0 (Nat.zero_le _)))⟩, fun z h => by cases h⟩
    · cases h1
end Tm

namespace Tm
theorem lat_le {p c : Nat → Bool} {e n x : Nat} {b : Bool} (h : Lat p c e n x b) : x ≤ e := by
  obtain ⟨l, o, hB, h⟩ := h
  rcases h with ⟨-, rfl, -⟩ | ⟨rfl, hL⟩
  · exact Nat.zero_le _
  · rcases hB with ⟨-, h1, -⟩ | ⟨h1, -⟩
    · rcases hL with ⟨-, k1, -⟩ | ⟨-, rfl, -⟩
      · omega
      · omega
    · cases h1
theorem tcode_of {f x t : Int} {F : List Int} {S : List (Int × Int)} (hv : vcode f F S = 0) (h1 : 0 ≤ x) (h2 : x ≤ 10000) (h3 : 0 ≤ t) (h4 : t ≤ 400) : tcode f F S x [t] = 0 := by
  unfold tcode
  rw [if_neg (by simpa using dcode_of hv h1 h2), if_pos]
  unfold upTo
  simpa using ⟨h3, h4⟩
end Tm

set_option maxRecDepth 100000 in
set_option maxHeartbeats 8000000 in
theorem termLatests_any (f : Int) (F : List Int) (S : List (Int × Int)) (aoF : Option Addr) (nF cF : Nat) (aoS : Option Addr) (nS cS : Nat) (d t : Int) (w : World) (hcl : Cl w aoF nF aoS nS F S) :
    Calls Try.prog 10 #[.agg #[.int .i64 f, .slice aoF nF cF, .slice aoS nS cS], .int .i64 d, .int .i64 t] w fun e w' => e = .returned (.bool true) ∧ Below w.heap.size w w' := by
  have hA := (Below.refl _ w).alloc (Nat.le_refl _) (.cells #[.int .i64 f, .slice aoF nF cF, .slice aoS nS cS] 25)
  have rc := heap_alloc_new w (.cells #[.int .i64 f, .slice aoF nF cF, .slice aoS nS cS] 25)
  replace hcl := hcl.below hA
  go_enter Try.func10, Try.ntmps10
  go_upto_region 1 with fail
  generalize w.alloc (.cells #[.int .i64 f, .slice aoF nF cF, .slice aoS nS cS] 25) = W0 at hA rc hcl ⊢
  obtain ⟨G, hG⟩ : ∃ g, g = w.heap.size := ⟨_, rfl⟩
  rw [← hG] at rc ⊢
  have HG := Lib.hid hG
  clear hG
  have c0 := cell_of_row W0 G 0 _ _ _ rc
  have c1 := cell_of_row W0 G 1 _ _ _ rc
  have c2 := cell_of_row W0 G 2 _ _ _ rc
  simp at c0 c1 c2
  clear rc
  go_wp2_with fail
  refine ((tlong_any f F S aoF nF cF aoS nS cS W0)).mono ?_
  rintro e w1 ⟨rfl, hbb⟩
  replace hcl := hcl.below hbb
  replace c0 := keep_cell hbb c0
  replace c1 := keep_cell hbb c1
  replace c2 := keep_cell hbb c2
  replace hA := hA.trans (hbb.mono hA.size)
  clear hbb
  obtain ⟨B, hB⟩ : ∃ t, (decide (100 < nF) || decide (100 < nS)) = t := ⟨_, rfl⟩
  rw [hB]
  cases B with
  | true =>
    clear hB
    go_wp2_with fail
    refine (tknown_any w1).mono ?_
    rintro e w9 ⟨rfl, hbb⟩
    go_wp2_with fail
    go_ret
    exact ⟨rfl, hA.trans (hbb.mono hA.size)⟩
  | false =>
    rw [Bool.or_eq_false_iff, decide_eq_false_iff_not, decide_eq_false_iff_not] at hB
    obtain ⟨h9a, h8a⟩ := hB
    have h9 : nF ≤ 100000 := by omega
    have h8 : nS ≤ 100000 := by omega
    clear h9a h8a
    obtain ⟨C, hC⟩ : ∃ c, c = Tm.tcode f F S d [t] := ⟨_, rfl⟩
    have HC := Lib.hid hC
    clear hC
    have hX := Latest_any f F S aoF nF cF aoS nS cS d t w1 hcl h9 h8
    rw [← HC.out] at hX
    go_wp2_with fail
    refine hX.mono ?_
    clear hX
    rintro e w2 ⟨⟨x, b, rfl, hx⟩, hbb⟩
    replace hcl := hcl.below hbb
    replace c0 := keep_cell hbb c0
    replace c1 := keep_cell hbb c1
    replace c2 := keep_cell hbb c2
    replace hA := hA.trans (hbb.mono hA.size)
    clear hbb
    have hX := refLatest_any f F S aoF nF cF aoS nS cS d t w2 hcl h9 h8
    rw [← HC.out] at hX
    go_wp2_with fail
    refine hX.mono ?_
    clear hX
    rintro e w3 ⟨⟨x2, b2, rfl, hx2⟩, hbb⟩
    replace hcl := hcl.below hbb
    replace c0 := keep_cell hbb c0
    replace c1 := keep_cell hbb c1
    replace c2 := keep_cell hbb c2
    replace hA := hA.trans (hbb.mono hA.size)
    clear hbb
    obtain ⟨rfl, rfl⟩ := hx.unique hx2
    have HX := Lib.hid hx
    clear hx hx2
    by_cases hz : C = 0
    · have hz2 := Lib.hid (HC.out.symm.trans hz)
      obtain ⟨hv, hd, hts⟩ := Tm.tcode_ok hz2.out
      have ht := hts t (by simp)
      subst hz
      have hX : Tm.Lat (Tm.work f F) (Tm.count S) d.toNat t.toNat x b := by
        rcases HX.out with ⟨-, h⟩ | ⟨h, -⟩
        · exact h
        · exact absurd hz2.out h
      obtain ⟨d0, rfl⟩ := Int.eq_ofNat_of_zero_le hd.1
      obtain ⟨t0, rfl⟩ := Int.eq_ofNat_of_zero_le ht.1
      rw [Int.toNat_natCast, Int.toNat_natCast] at hX
      have hxb : x ≤ d0 := Tm.lat_le hX
      obtain ⟨l1, l2⟩ := Tm.lat_facts hX
      have r1 : Tm.tcode f F S (x : Int) [(t0 : Int)] = 0 := Tm.tcode_of hv (by omega) (by omega) (by omega) (by omega)
      obtain ⟨C2, hC2⟩ : ∃ c, c = Tm.tcode f F S ((x : Int) + 1) [(t0 : Int)] := ⟨_, rfl⟩
      have hE1 := Ends_any f F S aoF nF cF aoS nS cS (x : Int) (t0 : Int) w3 hcl h9 h8
      rw [r1] at hE1
      have L1 := Lib.hid l1
      have L2 := Lib.hid l2
      have HC2 := Lib.hid hC2
      have hx4 : x ≤ 10000 := by omega
      clear hts HC HX hX l1 l2 r1 hC2 hv hd ht hxb
      go_wp2_with fail
      refine hE1.mono ?_
      clear hE1
      rintro e w4 ⟨⟨z, rfl, hz3⟩, hbb⟩
      replace hcl := hcl.below hbb
      replace c0 := keep_cell hbb c0
      replace c1 := keep_cell hbb c1
      replace c2 := keep_cell hbb c2
      replace hA := hA.trans (hbb.mono hA.size)
      clear hbb
      have hz4 : Tm.Ends (Tm.count S) (Tm.work f F) x t0 z := by
        rcases hz3 with ⟨-, h, -⟩ | ⟨h, -⟩
        · simpa using h
        · exact absurd rfl h
      obtain ⟨m1, m2⟩ := L1.out z hz4
      clear hz3 hz4 L1
      have hE2 := fun w' (hb : Below w4.heap.size w4 w') => Ends_any f F S aoF nF cF aoS nS cS ((x : Int) + 1) (t0 : Int) w' (hcl.below hb) h9 h8
      rw [← HC2.out] at hE2
      cases b with
      | true =>
        have m3 := m1 rfl
        clear m1 m2
        have i1 : ¬ (d0 : Int) < (z : Int) := by omega
        go_wp2_with fail
        refine (hE2 _ (Below.refl _ _)).mono ?_
        clear hE2
        rintro e w5 ⟨⟨z2, rfl, hz3⟩, hbb⟩
        replace hcl := hcl.below hbb
        replace c0 := keep_cell hbb c0
        replace c1 := keep_cell hbb c1
        replace c2 := keep_cell hbb c2
        replace hA := hA.trans (hbb.mono hA.size)
        clear hbb
        by_cases hc2 : C2 = 0
        · have hz4 : Tm.Ends (Tm.count S) (Tm.work f F) (x + 1) t0 z2 := by
            rcases hz3 with ⟨-, h, -⟩ | ⟨h, -⟩
            · rw [show ((x : Int) + 1).toNat = x + 1 by omega] at h; simpa using h
            · exact absurd hc2 h
          have m4 := L2.out z2 (by first | rfl | trivial) hz4
          have i2 : (d0 : Int) < (z2 : Int) := by omega
          subst hc2
          clear hz3 hz4 L2 HC2
          go_wp2_with fail
          refine (tknown_any w5).mono ?_
          rintro e w9 ⟨rfl, hbb⟩
          go_wp2_with fail
          go_ret
          exact ⟨rfl, hA.trans (hbb.mono hA.size)⟩
        · have hne : (C2 != 0) = true := by simp [hc2]
          clear hz3 L2 HC2
          go_wp2_with fail
          refine (tknown_any w5).mono ?_
          rintro e w9 ⟨rfl, hbb⟩
          go_wp2_with fail
          go_ret
          exact ⟨rfl, hA.trans (hbb.mono hA.size)⟩
      | false =>
        have m3 := m2 rfl
        clear m1 m2
        have i1 : ¬ (z : Int) ≤ (d0 : Int) := by omega
        go_wp2_with fail
        refine (hE2 _ (Below.refl _ _)).mono ?_
        clear hE2
        rintro e w5 ⟨⟨z2, rfl, hz3⟩, hbb⟩
        replace hcl := hcl.below hbb
        replace c0 := keep_cell hbb c0
        replace c1 := keep_cell hbb c1
        replace c2 := keep_cell hbb c2
        replace hA := hA.trans (hbb.mono hA.size)
        clear hbb hz3
        go_wp2_with fail
        refine (tknown_any w5).mono ?_
        rintro e w9 ⟨rfl, hbb⟩
        go_wp2_with fail
        go_ret
        exact ⟨rfl, hA.trans (hbb.mono hA.size)⟩
    · have hne : (C != 0) = true := by simp [hz]
      go_wp2_with fail
      refine (tknown_any w3).mono ?_
      rintro e w9 ⟨rfl, hbb⟩
      go_wp2_with fail
      go_ret
      exact ⟨rfl, hA.trans (hbb.mono hA.size)⟩
end Go.Proofs.Ytmdkdkiejcjmaaa
