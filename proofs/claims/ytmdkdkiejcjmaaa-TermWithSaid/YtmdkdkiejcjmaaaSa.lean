import Derived.Test.YtmdkdkiejcjmaaaRb
/- Package term: Week, IsFree, IsStill, Next, Before, AddWork. -/
namespace Go.Proofs.Ytmdkdkiejcjmaaa
open Go.RowKit Go.Shelf

namespace Tm
theorem dcode_ok {f : Int} {F : List Int} {S : List (Int × Int)} {ds : List Int} (h : dcode f F S ds = 0) : vcode f F S = 0 ∧ ∀ x ∈ ds, 0 ≤ x ∧ x ≤ 10000 := by
  unfold dcode at h
  split at h
  · rename_i h1; exact absurd h h1
  · rename_i h1
    split at h
    · rename_i h2
      unfold upTo at h2
      exact ⟨by simpa using h1, fun x hx => by simpa using (List.all_eq_true.1 h2) x hx⟩
    · cases h
def dwk (f : Int) (F : List Int) (S : List (Int × Int)) (d : Int) : Int := if dcode f F S [d] = 0 then wk f d else 0
def dfree (f : Int) (F : List Int) (S : List (Int × Int)) (d : Int) : Bool := decide (dcode f F S [d] = 0) && free f F d
def dstill (f : Int) (F : List Int) (S : List (Int × Int)) (d : Int) : Bool := decide (dcode f F S [d] = 0) && still S d
/-- The last such day that is not behind a day; b: whether there is one. -/
def IsBef (p : Nat → Bool) (d x : Nat) (b : Bool) : Prop := (b = true ∧ x ≤ d ∧ p x = true ∧ ∀ y, x < y → y ≤ d → p y = false) ∨ (b = false ∧ x = 0 ∧ ∀ y, y ≤ d → p y = false)
theorem IsBef.unique {p : Nat → Bool} {d x y : Nat} {a b : Bool} (h : IsBef p d x a) (k : IsBef p d y b) : x = y ∧ a = b := by
  rcases h with ⟨rfl, h1, h2, h3⟩ | ⟨rfl, rfl, h3⟩ <;> rcases k with ⟨rfl, k1, k2, k3⟩ | ⟨rfl, rfl, k3⟩
  · refine ⟨?_, rfl⟩
    rcases Nat.lt_trichotomy x y with h | h | h
    · have := h3 y h k1; rw [k2] at this; cases this
    · exact h
    · have := k3 x h h1; rw [h2] at this; cases this
  · have := k3 x h1; rw [h2] at this; cases this
  · have := h3 y k1; rw [k2] at this; cases this
  · exact ⟨rfl, rfl⟩
theorem mem_down {d k x : Nat} : x ∈ down d k ↔ ∃ j, j < k ∧ x = d - j := by
  unfold down
  rw [List.mem_map]
  constructor
  · rintro ⟨j, hj, rfl⟩; exact ⟨j, List.mem_range.1 hj, rfl⟩
  · rintro ⟨j, hj, rfl⟩; exact ⟨j, List.mem_range.2 hj, rfl⟩
theorem bef_yes {p : Nat → Bool} {d k x : Nat} {pre : List Nat} (hk : k ≤ d + 1) (h : (down d k).filter p = pre ++ [x]) (hl : (pre ++ [x]).length = 1) : IsBef p d x true := by
  have hp : pre = [] := by cases pre with
    | nil => rfl
    | cons a t => simp at hl
  subst hp
  rw [List.nil_append] at h
  have hx : x ∈ (down d k).filter p := by rw [h]; simp
  rw [List.mem_filter, mem_down] at hx
  obtain ⟨⟨j, hj, rfl⟩, hpx⟩ := hx
  refine .inl ⟨rfl, by omega, hpx, fun y h1 h2 => ?_⟩
  cases hy : p y with
  | false => rfl
  | true =>
    have hm : y ∈ (down d k).filter p := List.mem_filter.2 ⟨mem_down.2 ⟨d - y, by omega, by omega⟩, hy⟩
    rw [h] at hm
    have := List.mem_singleton.1 hm
    omega
theorem bef_no {p : Nat → Bool} {d : Nat} (h : ((down d (d + 1)).filter p).length < 1) : IsBef p d 0 false := by
  refine .inr ⟨rfl, rfl, fun y hy => ?_⟩
  have h0 : (down d (d + 1)).filter p = [] := List.eq_nil_of_length_eq_zero (by omega)
  cases hp : p y with
  | false => rfl
  | true =>
    have hm : y ∈ (down d (d + 1)).filter p := List.mem_filter.2 ⟨mem_down.2 ⟨d - y, by omega, by omega⟩, hp⟩
    rw [h0] at hm
    cases hm
def Nx (f : Int) (F : List Int) (S : List (Int × Int)) (d : Int) (x : Nat) : Prop := (dcode f F S [d] = 0 ∧ Nth (work f F) d.toNat 1 x) ∨ (dcode f F S [d] ≠ 0 ∧ x = 0)
theorem Nx.unique {f d : Int} {F : List Int} {S : List (Int × Int)} {x y : Nat} (h : Nx f F S d x) (k : Nx f F S d y) : x = y := by
  rcases h with ⟨h1, h2⟩ | ⟨h1, h2⟩ <;> rcases k with ⟨k1, k2⟩ | ⟨k1, k2⟩
  · exact h2.unique k2
  · exact absurd h1 k1
  · exact absurd k1 h1
  · omega
def Bf (f : Int) (F : List Int) (S : List (Int × Int)) (d : Int) (x : Nat) (b : Bool) : Prop := (dcode f F S [d] = 0 ∧ IsBef (work f F) d.toNat x b) ∨ (dcode f F S [d] ≠ 0 ∧ x = 0 ∧ b = false)
theorem Bf.unique {f d : Int} {F : List Int} {S : List (Int × Int)} {x y : Nat} {a b : Bool} (h : Bf f F S d x a) (k : Bf f F S d y b) : x = y ∧ a = b := by
  rcases h with ⟨h1, h2⟩ | ⟨h1, rfl, rfl⟩ <;> rcases k with ⟨k1, k2⟩ | ⟨k1, rfl, rfl⟩
  · exact h2.unique k2
  · exact absurd h1 k1
  · exact absurd k1 h1
  · exact ⟨rfl, rfl⟩
def Aw (f : Int) (F : List Int) (S : List (Int × Int)) (d t : Int) (x : Nat) : Prop := (tcode f F S d [t] = 0 ∧ After (work f F) d.toNat t.toNat x ∧ x ≤ 1000000) ∨ (tcode f F S d [t] ≠ 0 ∧ x = 0)
theorem Aw.unique {f d t : Int} {F : List Int} {S : List (Int × Int)} {x y : Nat} (h : Aw f F S d t x) (k : Aw f F S d t y) : x = y := by
  rcases h with ⟨h1, h2, -⟩ | ⟨h1, h2⟩ <;> rcases k with ⟨k1, k2, -⟩ | ⟨k1, k2⟩
  · exact h2.unique k2
  · exact absurd h1 k1
  · exact absurd k1 h1
  · omega
def En (f : Int) (F : List Int) (S : List (Int × Int)) (d t : Int) (x : Nat) : Prop := (tcode f F S d [t] = 0 ∧ Ends (count S) (work f F) d.toNat t.toNat x ∧ x ≤ 1000000) ∨ (tcode f F S d [t] ≠ 0 ∧ x = 0)
theorem En.unique {f d t : Int} {F : List Int} {S : List (Int × Int)} {x y : Nat} (h : En f F S d t x) (k : En f F S d t y) : x = y := by
  rcases h with ⟨h1, h2, -⟩ | ⟨h1, h2⟩ <;> rcases k with ⟨k1, k2, -⟩ | ⟨k1, k2⟩
  · exact h2.unique k2
  · exact absurd h1 k1
  · exact absurd k1 h1
  · omega
end Tm

set_option maxRecDepth 100000 in
set_option maxHeartbeats 4000000 in
theorem Week_any (f : Int) (F : List Int) (S : List (Int × Int)) (aoF : Option Addr) (nF cF : Nat) (aoS : Option Addr) (nS cS : Nat) (d : Int) (w : World) (hcl : Cl w aoF nF aoS nS F S) (h9 : nF ≤ 100000) (h8 : nS ≤ 100000) :
    Calls Try.prog 19 #[.agg #[.int .i64 f, .slice aoF nF cF, .slice aoS nS cS], .int .i64 d] w fun e w' => e = .returned (.tuple #[.int .i64 (Tm.dwk f F S d), .int .i64 (Tm.dcode f F S [d])]) ∧ Below w.heap.size w w' := by
  obtain ⟨C, hC⟩ : ∃ c, c = Tm.dcode f F S [d] := ⟨_, rfl⟩
  rw [← hC]
  have HC := Lib.hid hC
  clear hC
  obtain ⟨V, hV⟩ : ∃ c, c = Tm.dwk f F S d := ⟨_, rfl⟩
  rw [← hV]
  have HV := Lib.hid hV
  clear hV
  have hA := (Below.refl _ w).alloc (Nat.le_refl _) (.cells #[.int .i64 f, .slice aoF nF cF, .slice aoS nS cS] 25)
  have rc := heap_alloc_new w (.cells #[.int .i64 f, .slice aoF nF cF, .slice aoS nS cS] 25)
  replace hcl := hcl.below hA
  go_enter Try.func19, Try.ntmps19
  go_upto_region 1 with fail
  generalize w.alloc (.cells #[.int .i64 f, .slice aoF nF cF, .slice aoS nS cS] 25) = W0 at hA rc hcl ⊢
  obtain ⟨G, hG⟩ : ∃ g, g = w.heap.size := ⟨_, rfl⟩
  rw [← hG] at rc ⊢
  have HG := Lib.hid hG
  clear hG
  have c0 := cell_of_row W0 G 0 _ _ _ rc
  have c1 := cell_of_row W0 G 1 _ _ _ rc
  have c2 := cell_of_row W0 G 2 _ _ _ rc
  simp at c0 c1 c2
  clear rc
  go_wp2_with fail
  have hal := (Below.refl W0.heap.size W0).alloc (Nat.le_refl _) (.cells #[.int .i64 d] 3)
  have hX := validateDays_any f F S aoF nF cF aoS nS cS [d] _ 1 1 _ (hcl.below hal) h9 h8 (ints_new1 W0 d) rfl (by omega)
  rw [← HC.out] at hX
  refine hX.mono ?_
  clear hX
  rintro e w1 ⟨rfl, hbb⟩
  replace hcl := hcl.below hal
  replace c0 := keep_cell hal c0
  replace c1 := keep_cell hal c1
  replace c2 := keep_cell hal c2
  replace hA := hA.trans (hal.mono hA.size)
  replace hcl := hcl.below hbb
  replace c0 := keep_cell hbb c0
  replace c1 := keep_cell hbb c1
  replace c2 := keep_cell hbb c2
  replace hA := hA.trans (hbb.mono hA.size)
  clear hal hbb
  by_cases hz : C = 0
  · have hv : Hid (V = Tm.wk f d) := Lib.hid (by rw [HV.out]; unfold Tm.dwk; rw [if_pos (HC.out.symm.trans hz)])
    subst hz
    go_wp2_with fail
    refine (week_any f d _ _ aoF nF cF aoS nS cS rfl rfl w1).mono ?_
    rintro e w2 ⟨rfl, hbb⟩
    replace hcl := hcl.below hbb
    replace c0 := keep_cell hbb c0
    replace c1 := keep_cell hbb c1
    replace c2 := keep_cell hbb c2
    replace hA := hA.trans (hbb.mono hA.size)
    clear hbb
    go_wp2_with fail
    go_ret2
    exact ⟨by (rw [hv.out]; try rfl), hA⟩
  · have hne : (C != 0) = true := by simp [hz]
    have hv : Hid (V = 0) := Lib.hid (by rw [HV.out]; unfold Tm.dwk; rw [if_neg (by rw [← HC.out]; exact hz)])
    go_wp2_with fail
    go_ret2
    exact ⟨by (rw [hv.out]; try rfl), hA⟩

set_option maxRecDepth 100000 in
set_option maxHeartbeats 4000000 in
theorem IsFree_any (f : Int) (F : List Int) (S : List (Int × Int)) (aoF : Option Addr) (nF cF : Nat) (aoS : Option Addr) (nS cS : Nat) (d : Int) (w : World) (hcl : Cl w aoF nF aoS nS F S) (h9 : nF ≤ 100000) (h8 : nS ≤ 100000) :
    Calls Try.prog 21 #[.agg #[.int .i64 f, .slice aoF nF cF, .slice aoS nS cS], .int .i64 d] w fun e w' => e = .returned (.tuple #[.bool (Tm.dfree f F S d), .int .i64 (Tm.dcode f F S [d])]) ∧ Below w.heap.size w w' := by
  obtain ⟨C, hC⟩ : ∃ c, c = Tm.dcode f F S [d] := ⟨_, rfl⟩
  rw [← hC]
  have HC := Lib.hid hC
  clear hC
  obtain ⟨V, hV⟩ : ∃ c, c = Tm.dfree f F S d := ⟨_, rfl⟩
  rw [← hV]
  have HV := Lib.hid hV
  clear hV
  have hA := (Below.refl _ w).alloc (Nat.le_refl _) (.cells #[.int .i64 f, .slice aoF nF cF, .slice aoS nS cS] 25)
  have rc := heap_alloc_new w (.cells #[.int .i64 f, .slice aoF nF cF, .slice aoS nS cS] 25)
  replace hcl := hcl.below hA
  go_enter Try.func21, Try.ntmps21
  go_upto_region 1 with fail
  generalize w.alloc (.cells #[.int .i64 f, .slice aoF nF cF, .slice aoS nS cS] 25) = W0 at hA rc hcl ⊢
  obtain ⟨G, hG⟩ : ∃ g, g = w.heap.size := ⟨_, rfl⟩
  rw [← hG] at rc ⊢
  have HG := Lib.hid hG
  clear hG
  have c0 := cell_of_row W0 G 0 _ _ _ rc
  have c1 := cell_of_row W0 G 1 _ _ _ rc
  have c2 := cell_of_row W0 G 2 _ _ _ rc
  simp at c0 c1 c2
  clear rc
  go_wp2_with fail
  have hal := (Below.refl W0.heap.size W0).alloc (Nat.le_refl _) (.cells #[.int .i64 d] 3)
  have hX := validateDays_any f F S aoF nF cF aoS nS cS [d] _ 1 1 _ (hcl.below hal) h9 h8 (ints_new1 W0 d) rfl (by omega)
  rw [← HC.out] at hX
  refine hX.mono ?_
  clear hX
  rintro e w1 ⟨rfl, hbb⟩
  replace hcl := hcl.below hal
  replace c0 := keep_cell hal c0
  replace c1 := keep_cell hal c1
  replace c2 := keep_cell hal c2
  replace hA := hA.trans (hal.mono hA.size)
  replace hcl := hcl.below hbb
  replace c0 := keep_cell hbb c0
  replace c1 := keep_cell hbb c1
  replace c2 := keep_cell hbb c2
  replace hA := hA.trans (hbb.mono hA.size)
  clear hal hbb
  by_cases hz : C = 0
  · have hv : Hid (V = Tm.free f F d) := Lib.hid (by rw [HV.out]; unfold Tm.dfree; rw [decide_eq_true (HC.out.symm.trans hz), Bool.true_and])
    subst hz
    go_wp2_with fail
    refine (isFree_any f F S d aoF nF cF aoS nS cS w1 hcl h9).mono ?_
    rintro e w2 ⟨rfl, hbb⟩
    replace hcl := hcl.below hbb
    replace c0 := keep_cell hbb c0
    replace c1 := keep_cell hbb c1
    replace c2 := keep_cell hbb c2
    replace hA := hA.trans (hbb.mono hA.size)
    clear hbb
    go_wp2_with fail
    go_ret2
    exact ⟨by (rw [hv.out]; try rfl), hA⟩
  · have hne : (C != 0) = true := by simp [hz]
    have hv : Hid (V = false) := Lib.hid (by rw [HV.out]; unfold Tm.dfree; rw [decide_eq_false (by rw [← HC.out]; exact hz), Bool.false_and])
    go_wp2_with fail
    go_ret2
    exact ⟨by (rw [hv.out]; try rfl), hA⟩

set_option maxRecDepth 100000 in
set_option maxHeartbeats 4000000 in
theorem IsStill_any (f : Int) (F : List Int) (S : List (Int × Int)) (aoF : Option Addr) (nF cF : Nat) (aoS : Option Addr) (nS cS : Nat) (d : Int) (w : World) (hcl : Cl w aoF nF aoS nS F S) (h9 : nF ≤ 100000) (h8 : nS ≤ 100000) :
    Calls Try.prog 23 #[.agg #[.int .i64 f, .slice aoF nF cF, .slice aoS nS cS], .int .i64 d] w fun e w' => e = .returned (.tuple #[.bool (Tm.dstill f F S d), .int .i64 (Tm.dcode f F S [d])]) ∧ Below w.heap.size w w' := by
  obtain ⟨C, hC⟩ : ∃ c, c = Tm.dcode f F S [d] := ⟨_, rfl⟩
  rw [← hC]
  have HC := Lib.hid hC
  clear hC
  obtain ⟨V, hV⟩ : ∃ c, c = Tm.dstill f F S d := ⟨_, rfl⟩
  rw [← hV]
  have HV := Lib.hid hV
  clear hV
  have hA := (Below.refl _ w).alloc (Nat.le_refl _) (.cells #[.int .i64 f, .slice aoF nF cF, .slice aoS nS cS] 25)
  have rc := heap_alloc_new w (.cells #[.int .i64 f, .slice aoF nF cF, .slice aoS nS cS] 25)
  replace hcl := hcl.below hA
  go_enter Try.func23, Try.ntmps23
  go_upto_region 1 with fail
  generalize w.alloc (.cells #[.int .i64 f, .slice aoF nF cF, .slice aoS nS cS] 25) = W0 at hA rc hcl ⊢
  obtain ⟨G, hG⟩ : ∃ g, g = w.heap.size := ⟨_, rfl⟩
  rw [← hG] at rc ⊢
  have HG := Lib.hid hG
  clear hG
  have c0 := cell_of_row W0 G 0 _ _ _ rc
  have c1 := cell_of_row W0 G 1 _ _ _ rc
  have c2 := cell_of_row W0 G 2 _ _ _ rc
  simp at c0 c1 c2
  clear rc
  go_wp2_with fail
  have hal := (Below.refl W0.heap.size W0).alloc (Nat.le_refl _) (.cells #[.int .i64 d] 3)
  have hX := validateDays_any f F S aoF nF cF aoS nS cS [d] _ 1 1 _ (hcl.below hal) h9 h8 (ints_new1 W0 d) rfl (by omega)
  rw [← HC.out] at hX
  refine hX.mono ?_
  clear hX
  rintro e w1 ⟨rfl, hbb⟩
  replace hcl := hcl.below hal
  replace c0 := keep_cell hal c0
  replace c1 := keep_cell hal c1
  replace c2 := keep_cell hal c2
  replace hA := hA.trans (hal.mono hA.size)
  replace hcl := hcl.below hbb
  replace c0 := keep_cell hbb c0
  replace c1 := keep_cell hbb c1
  replace c2 := keep_cell hbb c2
  replace hA := hA.trans (hbb.mono hA.size)
  clear hal hbb
  by_cases hz : C = 0
  · have hv : Hid (V = Tm.still S d) := Lib.hid (by rw [HV.out]; unfold Tm.dstill; rw [decide_eq_true (HC.out.symm.trans hz), Bool.true_and])
    subst hz
    go_wp2_with fail
    refine (isStill_any f F S d aoF nF cF aoS nS cS w1 hcl h8).mono ?_
    rintro e w2 ⟨rfl, hbb⟩
    replace hcl := hcl.below hbb
    replace c0 := keep_cell hbb c0
    replace c1 := keep_cell hbb c1
    replace c2 := keep_cell hbb c2
    replace hA := hA.trans (hbb.mono hA.size)
    clear hbb
    go_wp2_with fail
    go_ret2
    exact ⟨by (rw [hv.out]; try rfl), hA⟩
  · have hne : (C != 0) = true := by simp [hz]
    have hv : Hid (V = false) := Lib.hid (by rw [HV.out]; unfold Tm.dstill; rw [decide_eq_false (by rw [← HC.out]; exact hz), Bool.false_and])
    go_wp2_with fail
    go_ret2
    exact ⟨by (rw [hv.out]; try rfl), hA⟩

set_option maxRecDepth 100000 in
set_option maxHeartbeats 4000000 in
theorem before_any (d : Nat) (f : Int) (F : List Int) (S : List (Int × Int)) (aoF : Option Addr) (nF cF : Nat) (aoS : Option Addr) (nS cS : Nat) (w : World) (hcl : Cl w aoF nF aoS nS F S) (h9 : nF ≤ 100000) (hd : d ≤ 1000000) :
    Calls Try.prog 68 #[.agg #[.int .i64 f, .slice aoF nF cF, .slice aoS nS cS], .int .i64 d] w fun e w' => (∃ (x : Nat) (b : Bool), e = .returned (.tuple #[.int .i64 x, .bool b]) ∧ Tm.IsBef (Tm.work f F) d x b) ∧ Below w.heap.size w w' := by
  have hA := (Below.refl _ w).alloc (Nat.le_refl _) (.cells #[.int .i64 f, .slice aoF nF cF, .slice aoS nS cS] 71)
  have rc := heap_alloc_new w (.cells #[.int .i64 f, .slice aoF nF cF, .slice aoS nS cS] 71)
  replace hcl := hcl.below hA
  go_enter Try.func68, Try.ntmps68
  go_upto_region 1 with fail
  generalize w.alloc (.cells #[.int .i64 f, .slice aoF nF cF, .slice aoS nS cS] 71) = W0 at hA rc hcl ⊢
  obtain ⟨G, hG⟩ : ∃ g, g = w.heap.size := ⟨_, rfl⟩
  rw [← hG] at rc ⊢
  clear hG
  have c0 := cell_of_row W0 G 0 _ _ _ rc
  have c1 := cell_of_row W0 G 1 _ _ _ rc
  have c2 := cell_of_row W0 G 2 _ _ _ rc
  simp at c0 c1 c2
  have hdr : Below W0.heap.size W0 W0.drew := below_drewN (Below.refl W0.heap.size W0) 1
  have hs0 : W0.drew.heap.size = W0.heap.size := rfl
  have hb3 : Below W0.heap.size W0 (((W0.drew.alloc (.cells #[.int .i64 d] 3)).alloc (.cells #[.func (.func 113) #[] #[.pointer (some ⟨W0.heap.size, 0, none⟩)]] 85)).alloc (.cells #[.func (.func 73) #[.agg #[.int .i64 f, .slice aoF nF cF, .slice aoS nS cS]] #[]] 74)) := hdr.trans (below_alloc3 W0.drew _ _ _)
  have hb1 : Below W0.heap.size W0 (W0.drew.alloc (.cells #[.int .i64 d] 3)) := hdr.alloc (Nat.le_refl _) _
  obtain ⟨t0, t1, t2⟩ := three_boxes W0.drew (.int .i64 d) (.func (.func 113) #[] #[.pointer (some ⟨W0.heap.size, 0, none⟩)]) (.func (.func 73) #[.agg #[.int .i64 f, .slice aoF nF cF, .slice aoS nS cS]] #[]) 3 85 74
  have hX := nthBackW_any 1 d W0.heap.size (W0.heap.size + 1) (W0.heap.size + 1 + 1) f F S aoF nF cF aoS nS cS _ (by omega) (by omega) (hcl.below hb3) h9 (by omega) t0 t1 t2
  rw [show ((1 : Nat) : Int) = 1 from rfl] at hX
  have HX := Lib.hid hX
  clear hX t0 t1 t2
  go_region_held3 (fun w' => w'.cell? ⟨G, 0, none⟩ = some (.int .i64 f) ∧ w'.cell? ⟨G, 1, none⟩ = some (.slice aoF nF cF) ∧ w'.cell? ⟨G, 2, none⟩ = some (.slice aoS nS cS))
    (first | exact ⟨keep_cell hdr c0, keep_cell hdr c1, keep_cell hdr c2⟩ | exact kc | exact kb | exact ka)
    (first
      | (go_at_call 98; refine (back_any d _).mono ?_; rintro e w1 ⟨rfl, rfl⟩; have ka := And.intro (keep_cell hb1 c0) (And.intro (keep_cell hb1 c1) (keep_cell hb1 c2)))
      | (go_at_call 71; refine (only_any _ _ _ _ _ _ _).mono ?_; rintro e w2 ⟨rfl, rfl⟩; have kb := And.intro (keep_cell hb3 c0) (And.intro (keep_cell hb3 c1) (keep_cell hb3 c2)))
      | (go_at_call 96; refine HX.out.mono ?_; rintro e w3 ⟨⟨x, b, rfl, hxb⟩, hb4⟩; have hb5 := hb3.trans (hb4.mono hb3.size); have kc := And.intro (keep_cell hb5 c0) (And.intro (keep_cell hb5 c1) (keep_cell hb5 c2))))
  all_goals
    have hnth : Tm.IsBef (Tm.work f F) d x b := by
      rcases hxb with ⟨rfl, pre, k, hk, h1, h2⟩ | ⟨rfl, rfl, h1⟩
      · exact Tm.bef_yes hk h1 h2
      · exact Tm.bef_no h1
    have hA5 := hA.trans (hb5.mono hA.size)
    have HN := Lib.hid hnth
    clear hnth hxb kc
    go_wp2_with fail
    go_ret2
    exact ⟨⟨x, b, rfl, HN.out⟩, hA5⟩

set_option maxRecDepth 100000 in
set_option maxHeartbeats 4000000 in
theorem Next_any (f : Int) (F : List Int) (S : List (Int × Int)) (aoF : Option Addr) (nF cF : Nat) (aoS : Option Addr) (nS cS : Nat) (d : Int) (w : World) (hcl : Cl w aoF nF aoS nS F S) (h9 : nF ≤ 100000) (h8 : nS ≤ 100000) :
    Calls Try.prog 27 #[.agg #[.int .i64 f, .slice aoF nF cF, .slice aoS nS cS], .int .i64 d] w fun e w' => (∃ x : Nat, e = .returned (.tuple #[.int .i64 x, .int .i64 (Tm.dcode f F S [d])]) ∧ Tm.Nx f F S d x) ∧ Below w.heap.size w w' := by
  obtain ⟨C, hC⟩ : ∃ c, c = Tm.dcode f F S [d] := ⟨_, rfl⟩
  rw [← hC]
  have HC := Lib.hid hC
  clear hC
  have hA := (Below.refl _ w).alloc (Nat.le_refl _) (.cells #[.int .i64 f, .slice aoF nF cF, .slice aoS nS cS] 25)
  have rc := heap_alloc_new w (.cells #[.int .i64 f, .slice aoF nF cF, .slice aoS nS cS] 25)
  replace hcl := hcl.below hA
  go_enter Try.func27, Try.ntmps27
  go_upto_region 1 with fail
  generalize w.alloc (.cells #[.int .i64 f, .slice aoF nF cF, .slice aoS nS cS] 25) = W0 at hA rc hcl ⊢
  obtain ⟨G, hG⟩ : ∃ g, g = w.heap.size := ⟨_, rfl⟩
  rw [← hG] at rc ⊢
  have HG := Lib.hid hG
  clear hG
  have c0 := cell_of_row W0 G 0 _ _ _ rc
  have c1 := cell_of_row W0 G 1 _ _ _ rc
  have c2 := cell_of_row W0 G 2 _ _ _ rc
  simp at c0 c1 c2
  clear rc
  go_wp2_with fail
  have hal := (Below.refl W0.heap.size W0).alloc (Nat.le_refl _) (.cells #[.int .i64 d] 3)
  have hX := validateDays_any f F S aoF nF cF aoS nS cS [d] _ 1 1 _ (hcl.below hal) h9 h8 (ints_new1 W0 d) rfl (by omega)
  rw [← HC.out] at hX
  refine hX.mono ?_
  clear hX
  rintro e w1 ⟨rfl, hbb⟩
  replace hcl := hcl.below hal
  replace c0 := keep_cell hal c0
  replace c1 := keep_cell hal c1
  replace c2 := keep_cell hal c2
  replace hA := hA.trans (hal.mono hA.size)
  replace hcl := hcl.below hbb
  replace c0 := keep_cell hbb c0
  replace c1 := keep_cell hbb c1
  replace c2 := keep_cell hbb c2
  replace hA := hA.trans (hbb.mono hA.size)
  clear hal hbb
  by_cases hz : C = 0
  · have hz2 := Lib.hid (HC.out.symm.trans hz)
    obtain ⟨hv, hd⟩ := Tm.dcode_ok hz2.out
    have hd2 := hd d (by simp)
    obtain ⟨hok, -, -⟩ := Tm.vcode_ok hv
    subst hz
    obtain ⟨d0, rfl⟩ := Int.eq_ofNat_of_zero_le hd2.1
    have hE := next_any 10000 d0 f F S aoF nF cF aoS nS cS w1 hcl h9 hok (by omega) (by omega)
    clear hv hd hok HC
    go_wp2_with fail
    refine hE.mono ?_
    rintro e w2 ⟨⟨x, rfl, hx⟩, hbb⟩
    replace hcl := hcl.below hbb
    replace c0 := keep_cell hbb c0
    replace c1 := keep_cell hbb c1
    replace c2 := keep_cell hbb c2
    replace hA := hA.trans (hbb.mono hA.size)
    have HX := Lib.hid hx
    clear hbb hE hx
    go_wp2_with fail
    go_ret2
    exact ⟨⟨x, rfl, .inl ⟨hz2.out, by rw [Int.toNat_natCast]; exact HX.out⟩⟩, hA⟩
  · have hne : (C != 0) = true := by simp [hz]
    go_wp2_with fail
    go_ret2
    exact ⟨⟨0, rfl, .inr ⟨by rw [← HC.out]; exact hz, rfl⟩⟩, hA⟩

set_option maxRecDepth 100000 in
set_option maxHeartbeats 4000000 in
theorem Before_any (f : Int) (F : List Int) (S : List (Int × Int)) (aoF : Option Addr) (nF cF : Nat) (aoS : Option Addr) (nS cS : Nat) (d : Int) (w : World) (hcl : Cl w aoF nF aoS nS F S) (h9 : nF ≤ 100000) (h8 : nS ≤ 100000) :
    Calls Try.prog 29 #[.agg #[.int .i64 f, .slice aoF nF cF, .slice aoS nS cS], .int .i64 d] w fun e w' => (∃ (x : Nat) (b : Bool), e = .returned (.tuple #[.int .i64 x, .bool b, .int .i64 (Tm.dcode f F S [d])]) ∧ Tm.Bf f F S d x b) ∧ Below w.heap.size w w' := by
  obtain ⟨C, hC⟩ : ∃ c, c = Tm.dcode f F S [d] := ⟨_, rfl⟩
  rw [← hC]
  have HC := Lib.hid hC
  clear hC
  have hA := (Below.refl _ w).alloc (Nat.le_refl _) (.cells #[.int .i64 f, .slice aoF nF cF, .slice aoS nS cS] 25)
  have rc := heap_alloc_new w (.cells #[.int .i64 f, .slice aoF nF cF, .slice aoS nS cS] 25)
  replace hcl := hcl.below hA
  go_enter Try.func29, Try.ntmps29
  go_upto_region 1 with fail
  generalize w.alloc (.cells #[.int .i64 f, .slice aoF nF cF, .slice aoS nS cS] 25) = W0 at hA rc hcl ⊢
  obtain ⟨G, hG⟩ : ∃ g, g = w.heap.size := ⟨_, rfl⟩
  rw [← hG] at rc ⊢
  have HG := Lib.hid hG
  clear hG
  have c0 := cell_of_row W0 G 0 _ _ _ rc
  have c1 := cell_of_row W0 G 1 _ _ _ rc
  have c2 := cell_of_row W0 G 2 _ _ _ rc
  simp at c0 c1 c2
  clear rc
  go_wp2_with fail
  have hal := (Below.refl W0.heap.size W0).alloc (Nat.le_refl _) (.cells #[.int .i64 d] 3)
  have hX := validateDays_any f F S aoF nF cF aoS nS cS [d] _ 1 1 _ (hcl.below hal) h9 h8 (ints_new1 W0 d) rfl (by omega)
  rw [← HC.out] at hX
  refine hX.mono ?_
  clear hX
  rintro e w1 ⟨rfl, hbb⟩
  replace hcl := hcl.below hal
  replace c0 := keep_cell hal c0
  replace c1 := keep_cell hal c1
  replace c2 := keep_cell hal c2
  replace hA := hA.trans (hal.mono hA.size)
  replace hcl := hcl.below hbb
  replace c0 := keep_cell hbb c0
  replace c1 := keep_cell hbb c1
  replace c2 := keep_cell hbb c2
  replace hA := hA.trans (hbb.mono hA.size)
  clear hal hbb
  by_cases hz : C = 0
  · have hz2 := Lib.hid (HC.out.symm.trans hz)
    obtain ⟨hv, hd⟩ := Tm.dcode_ok hz2.out
    have hd2 := hd d (by simp)
    subst hz
    obtain ⟨d0, rfl⟩ := Int.eq_ofNat_of_zero_le hd2.1
    have hE := before_any d0 f F S aoF nF cF aoS nS cS w1 hcl h9 (by omega)
    clear hv hd HC
    go_wp2_with fail
    refine hE.mono ?_
    rintro e w2 ⟨⟨x, b, rfl, hx⟩, hbb⟩
    replace hcl := hcl.below hbb
    replace c0 := keep_cell hbb c0
    replace c1 := keep_cell hbb c1
    replace c2 := keep_cell hbb c2
    replace hA := hA.trans (hbb.mono hA.size)
    have HX := Lib.hid hx
    clear hbb hE hx
    go_wp2_with fail
    go_ret3
    exact ⟨⟨x, b, rfl, .inl ⟨hz2.out, by rw [Int.toNat_natCast]; exact HX.out⟩⟩, hA⟩
  · have hne : (C != 0) = true := by simp [hz]
    go_wp2_with fail
    go_ret3
    exact ⟨⟨0, false, rfl, .inr ⟨by rw [← HC.out]; exact hz, rfl, rfl⟩⟩, hA⟩

set_option maxRecDepth 100000 in
set_option maxHeartbeats 4000000 in
theorem AddWork_any (f : Int) (F : List Int) (S : List (Int × Int)) (aoF : Option Addr) (nF cF : Nat) (aoS : Option Addr) (nS cS : Nat) (d t : Int) (w : World) (hcl : Cl w aoF nF aoS nS F S) (h9 : nF ≤ 100000) (h8 : nS ≤ 100000) :
    Calls Try.prog 35 #[.agg #[.int .i64 f, .slice aoF nF cF, .slice aoS nS cS], .int .i64 d, .int .i64 t] w fun e w' => (∃ x : Nat, e = .returned (.tuple #[.int .i64 x, .int .i64 (Tm.tcode f F S d [t])]) ∧ Tm.Aw f F S d t x) ∧ Below w.heap.size w w' := by
  obtain ⟨C, hC⟩ : ∃ c, c = Tm.tcode f F S d [t] := ⟨_, rfl⟩
  rw [← hC]
  have HC := Lib.hid hC
  clear hC
  have hA := (Below.refl _ w).alloc (Nat.le_refl _) (.cells #[.int .i64 f, .slice aoF nF cF, .slice aoS nS cS] 25)
  have rc := heap_alloc_new w (.cells #[.int .i64 f, .slice aoF nF cF, .slice aoS nS cS] 25)
  replace hcl := hcl.below hA
  go_enter Try.func35, Try.ntmps35
  go_upto_region 1 with fail
  generalize w.alloc (.cells #[.int .i64 f, .slice aoF nF cF, .slice aoS nS cS] 25) = W0 at hA rc hcl ⊢
  obtain ⟨G, hG⟩ : ∃ g, g = w.heap.size := ⟨_, rfl⟩
  rw [← hG] at rc ⊢
  have HG := Lib.hid hG
  clear hG
  have c0 := cell_of_row W0 G 0 _ _ _ rc
  have c1 := cell_of_row W0 G 1 _ _ _ rc
  have c2 := cell_of_row W0 G 2 _ _ _ rc
  simp at c0 c1 c2
  clear rc
  go_wp2_with fail
  have hal := (Below.refl W0.heap.size W0).alloc (Nat.le_refl _) (.cells #[.int .i64 t] 3)
  have hX := validateTerms_any f F S aoF nF cF aoS nS cS d [t] _ 1 1 _ (hcl.below hal) h9 h8 (ints_new1 W0 t) rfl (by omega)
  rw [← HC.out] at hX
  refine hX.mono ?_
  clear hX
  rintro e w1 ⟨rfl, hbb⟩
  replace hcl := hcl.below hal
  replace c0 := keep_cell hal c0
  replace c1 := keep_cell hal c1
  replace c2 := keep_cell hal c2
  replace hA := hA.trans (hal.mono hA.size)
  replace hcl := hcl.below hbb
  replace c0 := keep_cell hbb c0
  replace c1 := keep_cell hbb c1
  replace c2 := keep_cell hbb c2
  replace hA := hA.trans (hbb.mono hA.size)
  clear hal hbb
  by_cases hz : C = 0
  · have hz2 := Lib.hid (HC.out.symm.trans hz)
    obtain ⟨hv, hd, hts⟩ := Tm.tcode_ok hz2.out
    have ht := hts t (by simp)
    obtain ⟨hok, -, -⟩ := Tm.vcode_ok hv
    subst hz
    obtain ⟨d0, rfl⟩ := Int.eq_ofNat_of_zero_le hd.1
    obtain ⟨t0, rfl⟩ := Int.eq_ofNat_of_zero_le ht.1
    have hE := afterW_any 10000 d0 t0 f F S aoF nF cF aoS nS cS w1 hcl h9 hok (by omega) (by omega) (by omega)
    have hbd : Hid (∀ x, Tm.After (Tm.work f F) d0 t0 x → x ≤ 1000000) := Lib.hid fun x hx => by have := Tm_after_le (M := 10000) (X := 4611686018427387904) (fun x h1 h2 => Tm.work_two hok x h1 h2) (by omega) hx; omega
    clear hv hts hok HC
    go_wp2_with fail
    refine hE.mono ?_
    rintro e w2 ⟨⟨x, rfl, hx⟩, hbb⟩
    replace hcl := hcl.below hbb
    replace c0 := keep_cell hbb c0
    replace c1 := keep_cell hbb c1
    replace c2 := keep_cell hbb c2
    replace hA := hA.trans (hbb.mono hA.size)
    have HX := Lib.hid hx
    clear hbb hE hx
    go_wp2_with fail
    go_ret2
    exact ⟨⟨x, rfl, .inl ⟨hz2.out, by rw [Int.toNat_natCast, Int.toNat_natCast]; exact HX.out, hbd.out _ HX.out⟩⟩, hA⟩
  · have hne : (C != 0) = true := by simp [hz]
    go_wp2_with fail
    go_ret2
    exact ⟨⟨0, rfl, .inr ⟨by rw [← HC.out]; exact hz, rfl⟩⟩, hA⟩
end Go.Proofs.Ytmdkdkiejcjmaaa
