import Derived.Test.YtmdkdkiejcjmaaaSa
import Derived.Test.YtmdkdkiejcjmaaaRc
/- Package selionref08: exported functions (Sb). -/
namespace Go.Proofs.Ytmdkdkiejcjmaaa
open Go.RowKit Go.Shelf

namespace Tm
/-- The first such day from a day on, if none of the k days there is such a one and the next one is. -/
theorem nth_first {p : Nat → Bool} {d x : Nat} (h : d ≤ x) (hn : ∀ y, d ≤ y → y < x → p y = false) (hp : p x = true) : Nth p d 1 x := by
  refine ⟨h, hp, ?_⟩
  have : (up d (x - d)).filter p = [] := List.filter_eq_nil_iff.2 fun y hy => by
    have := mem_up.1 hy
    rw [hn y (by omega) (by omega)]
    decide
  unfold cnt
  rw [this]; rfl
theorem no_run {p : Nat → Bool} {M X d x : Nat} (h : ∀ x, M < x → x < X → p x = true ∨ p (x + 1) = true) (hX : x < X) (hn : ∀ y, d ≤ y → y < x → p y = false) (hp : p x = false) : x ≤ d + M + 1 := by
  refine Nat.le_of_not_lt fun hlt => ?_
  have h1 := hn (x - 1) (by omega) (by omega)
  rcases h (x - 1) (by omega) (by omega) with h2 | h2
  · rw [h1] at h2; cases h2
  · rw [show x - 1 + 1 = x by omega, hp] at h2; cases h2
/-- The end of a term: the first day on which enough days have counted and that is such a one. -/
theorem ends_first {c p : Nat → Bool} {d n k : Nat} (hn : ∀ j, j < k → cnt c (d + 1) j < n ∨ p (d + j) = false) (hc : n ≤ cnt c (d + 1) k) (hp : p (d + k) = true) : Ends c p d n (d + k) := by
  have hex : ∃ j, j ≤ k ∧ n ≤ cnt c (d + 1) j ∧ ∀ i, i < j → cnt c (d + 1) i < n := by
    clear hn hp
    induction k with
    | zero => exact ⟨0, Nat.le_refl _, hc, fun i hi => by omega⟩
    | succ k ih =>
      by_cases h : n ≤ cnt c (d + 1) k
      · obtain ⟨j, h1, h2, h3⟩ := ih h
        exact ⟨j, by omega, h2, h3⟩
      · refine ⟨k + 1, Nat.le_refl _, hc, fun i hi => ?_⟩
        have := cnt_mono (p := c) (d := d + 1) (show i ≤ k by omega)
        omega
  obtain ⟨j, h1, h2, h3⟩ := hex
  refine ⟨d + j, ?_, nth_first (by omega) (fun y hy1 hy2 => ?_) hp⟩
  · cases j with
    | zero => exact .inl ⟨by rw [cnt_zero] at h2; omega, by omega⟩
    | succ j =>
      have h4 := h3 j (by omega)
      rw [cnt_succ] at h2
      have h5 : c (d + 1 + j) = true := by
        cases hh : c (d + 1 + j) with
        | true => rfl
        | false => rw [hh] at h2; simp at h2; omega
      rw [h5] at h2
      simp at h2
      refine .inr ⟨by omega, ⟨by omega, by rw [show d + (j + 1) = d + 1 + j by omega]; exact h5, ?_⟩⟩
      rw [show d + (j + 1) - (d + 1) = j by omega]
      omega
  · obtain ⟨i, rfl⟩ : ∃ i, y = d + i := ⟨y - d, by omega⟩
    have h4 := cnt_mono (p := c) (d := d + 1) (show j ≤ i by omega)
    rcases hn i (by omega) with h | h
    · omega
    · exact h
theorem ends_run {c p : Nat → Bool} {M X d n k : Nat} (h : ∀ x, M < x → x < X → p x = true ∨ p (x + 1) = true) (hcc : ∀ x, M < x → c x = true) (hX : d + k < X) (hn : ∀ j, j < k → cnt c (d + 1) j < n ∨ p (d + j) = false) (hk : cnt c (d + 1) k < n ∨ p (d + k) = false) : k ≤ 2 * M + 2 * n + 8 := by
  refine Nat.le_of_not_lt fun hlt => ?_
  have h1 := cnt_enough (p := c) (M := M) (X := d + 1 + (M + 1 + 2 * n)) (fun x hx _ => .inl (hcc x hx)) (d + 1) n (Nat.le_refl _)
  have h2 := cnt_mono (p := c) (d := d + 1) (show M + 1 + 2 * n ≤ k - 1 by omega)
  have h3 := cnt_mono (p := c) (d := d + 1) (show k - 1 ≤ k by omega)
  have h4 : p (d + (k - 1)) = false := by rcases hn (k - 1) (by omega) with h | h; omega; exact h
  have h5 : p (d + k) = false := by rcases hk with h | h; omega; exact h
  rcases h (d + (k - 1)) (by omega) (by omega) with h6 | h6
  · rw [h4] at h6; cases h6
  · rw [show d + (k - 1) + 1 = d + k by omega, h5] at h6; cases h6
end Tm

set_option maxRecDepth 100000 in
set_option maxHeartbeats 4000000 in
theorem refWeek_any (f : Int) (F : List Int) (S : List (Int × Int)) (aoF : Option Addr) (nF cF : Nat) (aoS : Option Addr) (nS cS : Nat) (d : Int) (w : World) (hcl : Cl w aoF nF aoS nS F S) (h9 : nF ≤ 100000) (h8 : nS ≤ 100000) :
    Calls Try.prog 20 #[.agg #[.int .i64 f, .slice aoF nF cF, .slice aoS nS cS], .int .i64 d] w fun e w' => e = .returned (.tuple #[.int .i64 (Tm.dwk f F S d), .int .i64 (Tm.dcode f F S [d])]) ∧ Below w.heap.size w w' := by
  obtain ⟨C, hC⟩ : ∃ c, c = Tm.dcode f F S [d] := ⟨_, rfl⟩
  rw [← hC]
  have HC := Lib.hid hC
  clear hC
  obtain ⟨V, hV⟩ : ∃ c, c = Tm.dwk f F S d := ⟨_, rfl⟩
  rw [← hV]
  have HV := Lib.hid hV
  clear hV
  have hA := (Below.refl _ w).alloc (Nat.le_refl _) (.cells #[.int .i64 f, .slice aoF nF cF, .slice aoS nS cS] 25)
  have rc := heap_alloc_new w (.cells #[.int .i64 f, .slice aoF nF cF, .slice aoS nS cS] 25)
  replace hcl := hcl.below hA
  go_enter Try.func20, Try.ntmps20
  go_upto_region 1 with fail
  generalize w.alloc (.cells #[.int .i64 f, .slice aoF nF cF, .slice aoS nS cS] 25) = W0 at hA rc hcl ⊢
  obtain ⟨G, hG⟩ : ∃ g, g = w.heap.size := ⟨_, rfl⟩
  rw [← hG] at rc ⊢
  have HG := Lib.hid hG
  clear hG
  have c0 := cell_of_row W0 G 0 _ _ _ rc
  have c1 := cell_of_row W0 G 1 _ _ _ rc
  have c2 := cell_of_row W0 G 2 _ _ _ rc
  simp at c0 c1 c2
  clear rc
  go_wp2_with fail
  have hal := (Below.refl W0.heap.size W0).alloc (Nat.le_refl _) (.cells #[.int .i64 d] 3)
  have hX := asked_any f F S aoF nF cF aoS nS cS [d] _ 1 1 [] none 0 0 _ (hcl.below hal) h9 h8 (ints_new1 W0 d) rfl (by omega) (ints_none _ _) rfl (by omega)
  rw [Tm.acode_days, ← HC.out] at hX
  refine hX.mono ?_
  clear hX
  rintro e w1 ⟨rfl, hbb⟩
  replace hcl := hcl.below hal
  replace c0 := keep_cell hal c0
  replace c1 := keep_cell hal c1
  replace c2 := keep_cell hal c2
  replace hA := hA.trans (hal.mono hA.size)
  replace hcl := hcl.below hbb
  replace c0 := keep_cell hbb c0
  replace c1 := keep_cell hbb c1
  replace c2 := keep_cell hbb c2
  replace hA := hA.trans (hbb.mono hA.size)
  clear hal hbb
  by_cases hz : C = 0
  · have hv : Hid (V = Tm.wk f d) := Lib.hid (by rw [HV.out]; unfold Tm.dwk; rw [if_pos (HC.out.symm.trans hz)])
    subst hz
    go_wp2_with fail
    go_ret2
    exact ⟨by (rw [hv.out]; try rfl), hA⟩
  · have hne : (C != 0) = true := by simp [hz]
    have hv : Hid (V = 0) := Lib.hid (by rw [HV.out]; unfold Tm.dwk; rw [if_neg (by rw [← HC.out]; exact hz)])
    go_wp2_with fail
    go_ret2
    exact ⟨by (rw [hv.out]; try rfl), hA⟩

set_option maxRecDepth 100000 in
set_option maxHeartbeats 4000000 in
theorem refIsFree_any (f : Int) (F : List Int) (S : List (Int × Int)) (aoF : Option Addr) (nF cF : Nat) (aoS : Option Addr) (nS cS : Nat) (d : Int) (w : World) (hcl : Cl w aoF nF aoS nS F S) (h9 : nF ≤ 100000) (h8 : nS ≤ 100000) :
    Calls Try.prog 22 #[.agg #[.int .i64 f, .slice aoF nF cF, .slice aoS nS cS], .int .i64 d] w fun e w' => e = .returned (.tuple #[.bool (Tm.dfree f F S d), .int .i64 (Tm.dcode f F S [d])]) ∧ Below w.heap.size w w' := by
  obtain ⟨C, hC⟩ : ∃ c, c = Tm.dcode f F S [d] := ⟨_, rfl⟩
  rw [← hC]
  have HC := Lib.hid hC
  clear hC
  obtain ⟨V, hV⟩ : ∃ c, c = Tm.dfree f F S d := ⟨_, rfl⟩
  rw [← hV]
  have HV := Lib.hid hV
  clear hV
  have hA := (Below.refl _ w).alloc (Nat.le_refl _) (.cells #[.int .i64 f, .slice aoF nF cF, .slice aoS nS cS] 25)
  have rc := heap_alloc_new w (.cells #[.int .i64 f, .slice aoF nF cF, .slice aoS nS cS] 25)
  replace hcl := hcl.below hA
  go_enter Try.func22, Try.ntmps22
  go_upto_region 1 with fail
  generalize w.alloc (.cells #[.int .i64 f, .slice aoF nF cF, .slice aoS nS cS] 25) = W0 at hA rc hcl ⊢
  obtain ⟨G, hG⟩ : ∃ g, g = w.heap.size := ⟨_, rfl⟩
  rw [← hG] at rc ⊢
  have HG := Lib.hid hG
  clear hG
  have c0 := cell_of_row W0 G 0 _ _ _ rc
  have c1 := cell_of_row W0 G 1 _ _ _ rc
  have c2 := cell_of_row W0 G 2 _ _ _ rc
  simp at c0 c1 c2
  clear rc
  go_wp2_with fail
  have hal := (Below.refl W0.heap.size W0).alloc (Nat.le_refl _) (.cells #[.int .i64 d] 3)
  have hX := asked_any f F S aoF nF cF aoS nS cS [d] _ 1 1 [] none 0 0 _ (hcl.below hal) h9 h8 (ints_new1 W0 d) rfl (by omega) (ints_none _ _) rfl (by omega)
  rw [Tm.acode_days, ← HC.out] at hX
  refine hX.mono ?_
  clear hX
  rintro e w1 ⟨rfl, hbb⟩
  replace hcl := hcl.below hal
  replace c0 := keep_cell hal c0
  replace c1 := keep_cell hal c1
  replace c2 := keep_cell hal c2
  replace hA := hA.trans (hal.mono hA.size)
  replace hcl := hcl.below hbb
  replace c0 := keep_cell hbb c0
  replace c1 := keep_cell hbb c1
  replace c2 := keep_cell hbb c2
  replace hA := hA.trans (hbb.mono hA.size)
  clear hal hbb
  by_cases hz : C = 0
  · have hv : Hid (V = Tm.free f F d) := Lib.hid (by rw [HV.out]; unfold Tm.dfree; rw [decide_eq_true (HC.out.symm.trans hz), Bool.true_and])
    subst hz
    go_wp2_with fail
    refine (rIsFree_any f F S d aoF nF cF aoS nS cS w1 hcl h9).mono ?_
    rintro e w2 ⟨rfl, hbb⟩
    replace hcl := hcl.below hbb
    replace c0 := keep_cell hbb c0
    replace c1 := keep_cell hbb c1
    replace c2 := keep_cell hbb c2
    replace hA := hA.trans (hbb.mono hA.size)
    clear hbb
    go_wp2_with fail
    go_ret2
    exact ⟨by (rw [hv.out]; try rfl), hA⟩
  · have hne : (C != 0) = true := by simp [hz]
    have hv : Hid (V = false) := Lib.hid (by rw [HV.out]; unfold Tm.dfree; rw [decide_eq_false (by rw [← HC.out]; exact hz), Bool.false_and])
    go_wp2_with fail
    go_ret2
    exact ⟨by (rw [hv.out]; try rfl), hA⟩

set_option maxRecDepth 100000 in
set_option maxHeartbeats 4000000 in
theorem refIsStill_any (f : Int) (F : List Int) (S : List (Int × Int)) (aoF : Option Addr) (nF cF : Nat) (aoS : Option Addr) (nS cS : Nat) (d : Int) (w : World) (hcl : Cl w aoF nF aoS nS F S) (h9 : nF ≤ 100000) (h8 : nS ≤ 100000) :
    Calls Try.prog 24 #[.agg #[.int .i64 f, .slice aoF nF cF, .slice aoS nS cS], .int .i64 d] w fun e w' => e = .returned (.tuple #[.bool (Tm.dstill f F S d), .int .i64 (Tm.dcode f F S [d])]) ∧ Below w.heap.size w w' := by
  obtain ⟨C, hC⟩ : ∃ c, c = Tm.dcode f F S [d] := ⟨_, rfl⟩
  rw [← hC]
  have HC := Lib.hid hC
  clear hC
  obtain ⟨V, hV⟩ : ∃ c, c = Tm.dstill f F S d := ⟨_, rfl⟩
  rw [← hV]
  have HV := Lib.hid hV
  clear hV
  have hA := (Below.refl _ w).alloc (Nat.le_refl _) (.cells #[.int .i64 f, .slice aoF nF cF, .slice aoS nS cS] 25)
  have rc := heap_alloc_new w (.cells #[.int .i64 f, .slice aoF nF cF, .slice aoS nS cS] 25)
  replace hcl := hcl.below hA
  go_enter Try.func24, Try.ntmps24
  go_upto_region 1 with fail
  generalize w.alloc (.cells #[.int .i64 f, .slice aoF nF cF, .slice aoS nS cS] 25) = W0 at hA rc hcl ⊢
  obtain ⟨G, hG⟩ : ∃ g, g = w.heap.size := ⟨_, rfl⟩
  rw [← hG] at rc ⊢
  have HG := Lib.hid hG
  clear hG
  have c0 := cell_of_row W0 G 0 _ _ _ rc
  have c1 := cell_of_row W0 G 1 _ _ _ rc
  have c2 := cell_of_row W0 G 2 _ _ _ rc
  simp at c0 c1 c2
  clear rc
  go_wp2_with fail
  have hal := (Below.refl W0.heap.size W0).alloc (Nat.le_refl _) (.cells #[.int .i64 d] 3)
  have hX := asked_any f F S aoF nF cF aoS nS cS [d] _ 1 1 [] none 0 0 _ (hcl.below hal) h9 h8 (ints_new1 W0 d) rfl (by omega) (ints_none _ _) rfl (by omega)
  rw [Tm.acode_days, ← HC.out] at hX
  refine hX.mono ?_
  clear hX
  rintro e w1 ⟨rfl, hbb⟩
  replace hcl := hcl.below hal
  replace c0 := keep_cell hal c0
  replace c1 := keep_cell hal c1
  replace c2 := keep_cell hal c2
  replace hA := hA.trans (hal.mono hA.size)
  replace hcl := hcl.below hbb
  replace c0 := keep_cell hbb c0
  replace c1 := keep_cell hbb c1
  replace c2 := keep_cell hbb c2
  replace hA := hA.trans (hbb.mono hA.size)
  clear hal hbb
  by_cases hz : C = 0
  · have hv : Hid (V = Tm.still S d) := Lib.hid (by rw [HV.out]; unfold Tm.dstill; rw [decide_eq_true (HC.out.symm.trans hz), Bool.true_and])
    subst hz
    go_wp2_with fail
    refine (rIsStill_any f F S d aoF nF cF aoS nS cS w1 hcl h8).mono ?_
    rintro e w2 ⟨rfl, hbb⟩
    replace hcl := hcl.below hbb
    replace c0 := keep_cell hbb c0
    replace c1 := keep_cell hbb c1
    replace c2 := keep_cell hbb c2
    replace hA := hA.trans (hbb.mono hA.size)
    clear hbb
    go_wp2_with fail
    go_ret2
    exact ⟨by (rw [hv.out]; try rfl), hA⟩
  · have hne : (C != 0) = true := by simp [hz]
    have hv : Hid (V = false) := Lib.hid (by rw [HV.out]; unfold Tm.dstill; rw [decide_eq_false (by rw [← HC.out]; exact hz), Bool.false_and])
    go_wp2_with fail
    go_ret2
    exact ⟨by (rw [hv.out]; try rfl), hA⟩
end Go.Proofs.Ytmdkdkiejcjmaaa
