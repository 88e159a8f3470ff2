import Derived.Test.YtmdkdkiejcjmaaaTw
/- Package term: validateRange, Work, Counting. -/
namespace Go.Proofs.Ytmdkdkiejcjmaaa
open Go.RowKit
namespace Tm
def rcode (f : Int) (F : List Int) (S : List (Int × Int)) (a b : Int) : Int := if dcode f F S [a, b] ≠ 0 then dcode f F S [a, b] else if b < a then 1 else 0
theorem rcode_ok {f a b : Int} {F : List Int} {S : List (Int × Int)} (h : rcode f F S a b = 0) : vcode f F S = 0 ∧ 0 ≤ a ∧ a ≤ b ∧ b ≤ 10000 := by
  unfold rcode at h
  split at h
  · rename_i h1; exact absurd h h1
  · rename_i h1
    split at h
    · cases h
    · rename_i h2
      have h3 : dcode f F S [a, b] = 0 := by simpa using h1
      unfold dcode at h3
      split at h3
      · rename_i h4; exact absurd h3 h4
      · rename_i h4
        split at h3
        · rename_i h5
          unfold upTo at h5
          simp at h5
          exact ⟨by simpa using h4, by omega, by omega, by omega⟩
        · cases h3
/-- How many there are of the days from one to another. -/
def nval (f : Int) (F : List Int) (S : List (Int × Int)) (p : Nat → Bool) (a b : Int) : Int := if rcode f F S a b = 0 then ((cnt p a.toNat (b.toNat + 1 - a.toNat) : Nat) : Int) else 0
end Tm
theorem ints_new2 (W : World) (x y : Int) : Ints (W.alloc (.cells #[.int .i64 x, .int .i64 y] 3)) (some ⟨W.heap.size, 0, none⟩) [x, y] := ⟨fun _ => ⟨_, 0, rfl, by simp, fun i hi => by
  match i, hi with
  | 0, _ => exact cell_of_row _ _ 0 _ _ _ (heap_alloc_new W _)
  | 1, _ => exact cell_of_row _ _ 1 _ _ _ (heap_alloc_new W _)⟩⟩
theorem four_boxes (w : World) (a b c d : Value) (ta tb tc td : TypeId) :
    ((((w.alloc (.cells #[a] ta)).alloc (.cells #[b] tb)).alloc (.cells #[c] tc)).alloc (.cells #[d] td)).cell? ⟨w.heap.size, 0, none⟩ = some a ∧
    ((((w.alloc (.cells #[a] ta)).alloc (.cells #[b] tb)).alloc (.cells #[c] tc)).alloc (.cells #[d] td)).cell? ⟨w.heap.size + 1, 0, none⟩ = some b ∧
    ((((w.alloc (.cells #[a] ta)).alloc (.cells #[b] tb)).alloc (.cells #[c] tc)).alloc (.cells #[d] td)).cell? ⟨w.heap.size + 1 + 1, 0, none⟩ = some c ∧
    ((((w.alloc (.cells #[a] ta)).alloc (.cells #[b] tb)).alloc (.cells #[c] tc)).alloc (.cells #[d] td)).cell? ⟨w.heap.size + 1 + 1 + 1, 0, none⟩ = some d := by
  obtain ⟨h0, h1, h2⟩ := heap3 w (.cells #[a] ta) (.cells #[b] tb) (.cells #[c] tc)
  have h3 := heap_alloc_new (((w.alloc (.cells #[a] ta)).alloc (.cells #[b] tb)).alloc (.cells #[c] tc)) (.cells #[d] td)
  have hs : (((w.alloc (.cells #[a] ta)).alloc (.cells #[b] tb)).alloc (.cells #[c] tc)).heap.size = w.heap.size + 1 + 1 + 1 := by simp
  rw [hs] at h3
  exact ⟨(row_one ((Below.heap_alloc _ _ _ (by omega)).trans h0)).1, (row_one ((Below.heap_alloc _ _ _ (by omega)).trans h1)).1, (row_one ((Below.heap_alloc _ _ _ (by omega)).trans h2)).1, (row_one h3).1⟩

set_option maxRecDepth 100000 in
set_option maxHeartbeats 4000000 in
theorem validateRange_any (f : Int) (F : List Int) (S : List (Int × Int)) (aoF : Option Addr) (nF cF : Nat) (aoS : Option Addr) (nS cS : Nat) (a b : Int) (w : World) (hcl : Cl w aoF nF aoS nS F S) (h9 : nF ≤ 100000) (h8 : nS ≤ 100000) :
    Calls Try.prog 69 #[.agg #[.int .i64 f, .slice aoF nF cF, .slice aoS nS cS], .int .i64 a, .int .i64 b] w fun e w' => e = .returned (.int .i64 (Tm.rcode f F S a b)) ∧ Below w.heap.size w w' := by
  obtain ⟨C, hC⟩ : ∃ c, c = Tm.rcode f F S a b := ⟨_, rfl⟩
  rw [← hC]
  have HC := Lib.hid hC
  clear hC
  have hA := (Below.refl _ w).alloc (Nat.le_refl _) (.cells #[.int .i64 f, .slice aoF nF cF, .slice aoS nS cS] 25)
  have rc := heap_alloc_new w (.cells #[.int .i64 f, .slice aoF nF cF, .slice aoS nS cS] 25)
  replace hcl := hcl.below hA
  go_enter Try.func69, Try.ntmps69
  go_upto_region 1 with fail
  generalize w.alloc (.cells #[.int .i64 f, .slice aoF nF cF, .slice aoS nS cS] 25) = W0 at hA rc hcl ⊢
  obtain ⟨G, hG⟩ : ∃ g, g = w.heap.size := ⟨_, rfl⟩
  rw [← hG] at rc ⊢
  have HG := Lib.hid hG
  clear hG
  have c0 := cell_of_row W0 G 0 _ _ _ rc
  have c1 := cell_of_row W0 G 1 _ _ _ rc
  have c2 := cell_of_row W0 G 2 _ _ _ rc
  simp at c0 c1 c2
  go_wp2_with fail
  have hal := (Below.refl W0.heap.size W0).alloc (Nat.le_refl _) (.cells #[.int .i64 a, .int .i64 b] 3)
  have hX := validateDays_any f F S aoF nF cF aoS nS cS [a, b] _ 2 2 _ (hcl.below hal) h9 h8 (ints_new2 W0 a b) rfl (by omega)
  refine hX.mono ?_
  clear hX
  rintro e w1 ⟨rfl, hbb⟩
  replace hA := hA.trans (hal.mono hA.size)
  replace hA := hA.trans (hbb.mono hA.size)
  clear hal hbb
  by_cases hz : Tm.dcode f F S [a, b] = 0
  · have hc1 : Hid (C = if b < a then 1 else 0) := Lib.hid (by rw [HC.out]; unfold Tm.rcode; rw [if_neg (by simpa using hz)])
    rw [hz]
    clear HC
    by_cases hba : b < a
    · have hc : Hid (C = 1) := Lib.hid (by rw [hc1.out, if_pos hba])
      go_wp2_with fail
      go_ret
      exact ⟨ret_int hc.out.symm, hA⟩
    · have hc : Hid (C = 0) := Lib.hid (by rw [hc1.out, if_neg hba])
      go_wp2_with fail
      go_ret
      exact ⟨ret_int hc.out.symm, hA⟩
  · have hc : Hid (C = Tm.dcode f F S [a, b]) := Lib.hid (by rw [HC.out]; unfold Tm.rcode; rw [if_pos hz])
    have hne : (Tm.dcode f F S [a, b] != 0) = true := by simp [hz]
    generalize Tm.dcode f F S [a, b] = D at hz hne hc ⊢
    go_wp2_with fail
    go_ret
    exact ⟨ret_int hc.out.symm, hA⟩

set_option maxRecDepth 100000 in
set_option maxHeartbeats 4000000 in
theorem Counting_any (f : Int) (F : List Int) (S : List (Int × Int)) (aoF : Option Addr) (nF cF : Nat) (aoS : Option Addr) (nS cS : Nat) (a b : Int) (w : World) (hcl : Cl w aoF nF aoS nS F S) (h9 : nF ≤ 100000) (h8 : nS ≤ 100000) :
    Calls Try.prog 33 #[.agg #[.int .i64 f, .slice aoF nF cF, .slice aoS nS cS], .int .i64 a, .int .i64 b] w fun e w' => e = .returned (.tuple #[.int .i64 (Tm.nval f F S (Tm.count S) a b), .int .i64 (Tm.rcode f F S a b)]) ∧ Below w.heap.size w w' := by
  obtain ⟨C, hC⟩ : ∃ c, c = Tm.rcode f F S a b := ⟨_, rfl⟩
  obtain ⟨V, hV⟩ : ∃ c, c = Tm.nval f F S (Tm.count S) a b := ⟨_, rfl⟩
  rw [← hC, ← hV]
  have HC := Lib.hid hC
  have HV := Lib.hid hV
  clear hC hV
  have hA := (Below.refl _ w).alloc (Nat.le_refl _) (.cells #[.int .i64 f, .slice aoF nF cF, .slice aoS nS cS] 25)
  have rc := heap_alloc_new w (.cells #[.int .i64 f, .slice aoF nF cF, .slice aoS nS cS] 25)
  replace hcl := hcl.below hA
  go_enter Try.func33, Try.ntmps33
  go_upto_region 1 with fail
  generalize w.alloc (.cells #[.int .i64 f, .slice aoF nF cF, .slice aoS nS cS] 25) = W0 at hA rc hcl ⊢
  obtain ⟨G, hG⟩ : ∃ g, g = w.heap.size := ⟨_, rfl⟩
  rw [← hG] at rc ⊢
  have HG := Lib.hid hG
  clear hG
  have c0 := cell_of_row W0 G 0 _ _ _ rc
  have c1 := cell_of_row W0 G 1 _ _ _ rc
  have c2 := cell_of_row W0 G 2 _ _ _ rc
  simp at c0 c1 c2
  clear rc
  have hX := validateRange_any f F S aoF nF cF aoS nS cS a b W0 hcl h9 h8
  rw [← HC.out] at hX
  go_wp2_with fail
  refine hX.mono ?_
  clear hX
  rintro e W1 ⟨rfl, hbb⟩
  replace hcl := hcl.below hbb
  replace c0 := keep_cell hbb c0
  replace c1 := keep_cell hbb c1
  replace c2 := keep_cell hbb c2
  replace hA := hA.trans (hbb.mono hA.size)
  clear hbb
  by_cases hz : C = 0
  · obtain ⟨-, k1, k2, k3⟩ := Tm.rcode_ok (HC.out.symm.trans hz)
    have hVn : Hid (V = ((Tm.cnt (Tm.count S) a.toNat (b.toNat + 1 - a.toNat) : Nat) : Int)) := Lib.hid (by rw [HV.out]; unfold Tm.nval; rw [if_pos (HC.out.symm.trans hz)])
    subst hz
    obtain ⟨a, rfl⟩ := Int.eq_ofNat_of_zero_le k1
    obtain ⟨b, rfl⟩ := Int.eq_ofNat_of_zero_le (show 0 ≤ b by omega)
    rw [Int.toNat_natCast, Int.toNat_natCast] at hVn
    have hdr : Below W1.heap.size W1 W1.drew := below_drewN (Below.refl W1.heap.size W1) 1
    have hb2 : Below W1.heap.size W1 ((W1.drew.alloc (.cells #[.int .i64 a] 3)).alloc (.cells #[.int .i64 b] 3)) := (hdr.alloc (Nat.le_refl _) _).alloc (by simp) _
    have hb4 : Below W1.heap.size W1 ((((W1.drew.alloc (.cells #[.int .i64 a] 3)).alloc (.cells #[.int .i64 b] 3)).alloc (.cells #[.func (.func 100) #[] #[.pointer (some ⟨W1.heap.size, 0, none⟩), .pointer (some ⟨W1.heap.size + 1, 0, none⟩)]] 85)).alloc (.cells #[.func (.func 74) #[.agg #[.int .i64 f, .slice aoF nF cF, .slice aoS nS cS]] #[]] 74)) := (hb2.alloc hb2.size _).alloc (hb2.alloc hb2.size _).size _
    obtain ⟨t0, t1, t2, t3⟩ := four_boxes W1.drew (.int .i64 a) (.int .i64 b) (.func (.func 100) #[] #[.pointer (some ⟨W1.heap.size, 0, none⟩), .pointer (some ⟨W1.heap.size + 1, 0, none⟩)]) (.func (.func 74) #[.agg #[.int .i64 f, .slice aoF nF cF, .slice aoS nS cS]] #[]) 3 3 85 74
    have hX := numC_any a b W1.heap.size (W1.heap.size + 1) (W1.heap.size + 1 + 1) (W1.heap.size + 1 + 1 + 1) f F S aoF nF cF aoS nS cS _ (hcl.below hb4) h8 (by omega) (by omega) t0 t1 t2 t3
    rw [← hVn.out] at hX
    have HX := Lib.hid hX
    clear hX t0 t1 t2 t3
    go_upto_region 4 with fail
    go_region_held3 (fun w' => w'.cell? ⟨G, 0, none⟩ = some (.int .i64 f) ∧ w'.cell? ⟨G, 1, none⟩ = some (.slice aoF nF cF) ∧ w'.cell? ⟨G, 2, none⟩ = some (.slice aoS nS cS))
      (first | exact ⟨keep_cell hdr c0, keep_cell hdr c1, keep_cell hdr c2⟩ | exact kc | exact kb | exact ka)
      (first
        | (go_at_call 72; refine (between_any _ _ _).mono ?_; rintro e w1 ⟨rfl, rfl⟩; have ka := And.intro (keep_cell hb2 c0) (And.intro (keep_cell hb2 c1) (keep_cell hb2 c2)))
        | (go_at_call 71; refine (only_any _ _ _ _ _ _ _).mono ?_; rintro e w2 ⟨rfl, rfl⟩; have kb := And.intro (keep_cell hb4 c0) (And.intro (keep_cell hb4 c1) (keep_cell hb4 c2)))
        | (go_at_call 70; refine HX.out.mono ?_; rintro e w3 ⟨rfl, hb5⟩; have hb6 := hb4.trans (hb5.mono hb4.size); have kc := And.intro (keep_cell hb6 c0) (And.intro (keep_cell hb6 c1) (keep_cell hb6 c2))))
    all_goals
      have hA5 := hA.trans (hb6.mono hA.size)
      clear kc
      go_wp2_with fail
      go_ret2
      exact ⟨rfl, hA5⟩
  · have hne : (C != 0) = true := by simp [hz]
    have hVn : Hid (V = 0) := Lib.hid (by rw [HV.out]; unfold Tm.nval; rw [if_neg (by rw [← HC.out]; exact hz)])
    go_wp2_with fail
    go_ret2
    exact ⟨by rw [hVn.out]; rfl, hA⟩
end Go.Proofs.Ytmdkdkiejcjmaaa
