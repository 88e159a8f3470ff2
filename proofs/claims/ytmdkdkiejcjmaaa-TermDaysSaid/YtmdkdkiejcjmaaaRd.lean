import Derived.Test.YtmdkdkiejcjmaaaRc
/- Package term: Work; package selionref08: Work, Counting. -/
namespace Go.Proofs.Ytmdkdkiejcjmaaa
open Go.RowKit

set_option maxRecDepth 100000 in
set_option maxHeartbeats 4000000 in
theorem Work_any (f : Int) (F : List Int) (S : List (Int × Int)) (aoF : Option Addr) (nF cF : Nat) (aoS : Option Addr) (nS cS : Nat) (a b : Int) (w : World) (hcl : Cl w aoF nF aoS nS F S) (h9 : nF ≤ 100000) (h8 : nS ≤ 100000) :
    Calls Try.prog 31 #[.agg #[.int .i64 f, .slice aoF nF cF, .slice aoS nS cS], .int .i64 a, .int .i64 b] w fun e w' => e = .returned (.tuple #[.int .i64 (Tm.nval f F S (Tm.work f F) a b), .int .i64 (Tm.rcode f F S a b)]) ∧ Below w.heap.size w w' := by
  obtain ⟨C, hC⟩ : ∃ c, c = Tm.rcode f F S a b := ⟨_, rfl⟩
  obtain ⟨V, hV⟩ : ∃ c, c = Tm.nval f F S (Tm.work f F) a b := ⟨_, rfl⟩
  rw [← hC, ← hV]
  have HC := Lib.hid hC
  have HV := Lib.hid hV
  clear hC hV
  have hA := (Below.refl _ w).alloc (Nat.le_refl _) (.cells #[.int .i64 f, .slice aoF nF cF, .slice aoS nS cS] 25)
  have rc := heap_alloc_new w (.cells #[.int .i64 f, .slice aoF nF cF, .slice aoS nS cS] 25)
  replace hcl := hcl.below hA
  go_enter Try.func31, Try.ntmps31
  go_upto_region 1 with fail
  generalize w.alloc (.cells #[.int .i64 f, .slice aoF nF cF, .slice aoS nS cS] 25) = W0 at hA rc hcl ⊢
  obtain ⟨G, hG⟩ : ∃ g, g = w.heap.size := ⟨_, rfl⟩
  rw [← hG] at rc ⊢
  have HG := Lib.hid hG
  clear hG
  have c0 := cell_of_row W0 G 0 _ _ _ rc
  have c1 := cell_of_row W0 G 1 _ _ _ rc
  have c2 := cell_of_row W0 G 2 _ _ _ rc
  simp at c0 c1 c2
  clear rc
  have hX := validateRange_any f F S aoF nF cF aoS nS cS a b W0 hcl h9 h8
  rw [← HC.out] at hX
  go_wp2_with fail
  refine hX.mono ?_
  clear hX
  rintro e W1 ⟨rfl, hbb⟩
  replace hcl := hcl.below hbb
  replace c0 := keep_cell hbb c0
  replace c1 := keep_cell hbb c1
  replace c2 := keep_cell hbb c2
  replace hA := hA.trans (hbb.mono hA.size)
  clear hbb
  by_cases hz : C = 0
  · obtain ⟨-, k1, k2, k3⟩ := Tm.rcode_ok (HC.out.symm.trans hz)
    have hVn : Hid (V = ((Tm.cnt (Tm.work f F) a.toNat (b.toNat + 1 - a.toNat) : Nat) : Int)) := Lib.hid (by rw [HV.out]; unfold Tm.nval; rw [if_pos (HC.out.symm.trans hz)])
    subst hz
    obtain ⟨a, rfl⟩ := Int.eq_ofNat_of_zero_le k1
    obtain ⟨b, rfl⟩ := Int.eq_ofNat_of_zero_le (show 0 ≤ b by omega)
    rw [Int.toNat_natCast, Int.toNat_natCast] at hVn
    have hdr : Below W1.heap.size W1 W1.drew := below_drewN (Below.refl W1.heap.size W1) 1
    have hb2 : Below W1.heap.size W1 ((W1.drew.alloc (.cells #[.int .i64 a] 3)).alloc (.cells #[.int .i64 b] 3)) := (hdr.alloc (Nat.le_refl _) _).alloc (by simp) _
    have hb4 : Below W1.heap.size W1 ((((W1.drew.alloc (.cells #[.int .i64 a] 3)).alloc (.cells #[.int .i64 b] 3)).alloc (.cells #[.func (.func 100) #[] #[.pointer (some ⟨W1.heap.size, 0, none⟩), .pointer (some ⟨W1.heap.size + 1, 0, none⟩)]] 85)).alloc (.cells #[.func (.func 73) #[.agg #[.int .i64 f, .slice aoF nF cF, .slice aoS nS cS]] #[]] 74)) := (hb2.alloc hb2.size _).alloc (hb2.alloc hb2.size _).size _
    obtain ⟨t0, t1, t2, t3⟩ := four_boxes W1.drew (.int .i64 a) (.int .i64 b) (.func (.func 100) #[] #[.pointer (some ⟨W1.heap.size, 0, none⟩), .pointer (some ⟨W1.heap.size + 1, 0, none⟩)]) (.func (.func 73) #[.agg #[.int .i64 f, .slice aoF nF cF, .slice aoS nS cS]] #[]) 3 3 85 74
    have hX := numW_any a b W1.heap.size (W1.heap.size + 1) (W1.heap.size + 1 + 1) (W1.heap.size + 1 + 1 + 1) f F S aoF nF cF aoS nS cS _ (hcl.below hb4) h9 (by omega) (by omega) t0 t1 t2 t3
    rw [← hVn.out] at hX
    have HX := Lib.hid hX
    clear hX t0 t1 t2 t3
    go_upto_region 4 with fail
    go_region_held3 (fun w' => w'.cell? ⟨G, 0, none⟩ = some (.int .i64 f) ∧ w'.cell? ⟨G, 1, none⟩ = some (.slice aoF nF cF) ∧ w'.cell? ⟨G, 2, none⟩ = some (.slice aoS nS cS))
      (first | exact ⟨keep_cell hdr c0, keep_cell hdr c1, keep_cell hdr c2⟩ | exact kc | exact kb | exact ka)
      (first
        | (go_at_call 72; refine (between_any _ _ _).mono ?_; rintro e w1 ⟨rfl, rfl⟩; have ka := And.intro (keep_cell hb2 c0) (And.intro (keep_cell hb2 c1) (keep_cell hb2 c2)))
        | (go_at_call 71; refine (only_any _ _ _ _ _ _ _).mono ?_; rintro e w2 ⟨rfl, rfl⟩; have kb := And.intro (keep_cell hb4 c0) (And.intro (keep_cell hb4 c1) (keep_cell hb4 c2)))
        | (go_at_call 70; refine HX.out.mono ?_; rintro e w3 ⟨rfl, hb5⟩; have hb6 := hb4.trans (hb5.mono hb4.size); have kc := And.intro (keep_cell hb6 c0) (And.intro (keep_cell hb6 c1) (keep_cell hb6 c2))))
    all_goals
      have hA5 := hA.trans (hb6.mono hA.size)
      clear kc
      go_wp2_with fail
      go_ret2
      exact ⟨rfl, hA5⟩
  · have hne : (C != 0) = true := by simp [hz]
    have hVn : Hid (V = 0) := Lib.hid (by rw [HV.out]; unfold Tm.nval; rw [if_neg (by rw [← HC.out]; exact hz)])
    go_wp2_with fail
    go_ret2
    exact ⟨by rw [hVn.out]; rfl, hA⟩

set_option maxRecDepth 100000 in
set_option maxHeartbeats 4000000 in
theorem refWork_any (f : Int) (F : List Int) (S : List (Int × Int)) (aoF : Option Addr) (nF cF : Nat) (aoS : Option Addr) (nS cS : Nat) (a b : Int) (w : World) (hcl : Cl w aoF nF aoS nS F S) (h9 : nF ≤ 100000) (h8 : nS ≤ 100000) :
    Calls Try.prog 32 #[.agg #[.int .i64 f, .slice aoF nF cF, .slice aoS nS cS], .int .i64 a, .int .i64 b] w fun e w' => e = .returned (.tuple #[.int .i64 (Tm.nval f F S (Tm.work f F) a b), .int .i64 (Tm.rcode f F S a b)]) ∧ Below w.heap.size w w' := by
  obtain ⟨C, hC⟩ : ∃ c, c = Tm.rcode f F S a b := ⟨_, rfl⟩
  obtain ⟨V, hV⟩ : ∃ c, c = Tm.nval f F S (Tm.work f F) a b := ⟨_, rfl⟩
  rw [← hC, ← hV]
  have HC := Lib.hid hC
  have HV := Lib.hid hV
  clear hC hV
  have hA := (Below.refl _ w).alloc (Nat.le_refl _) (.cells #[.int .i64 f, .slice aoF nF cF, .slice aoS nS cS] 25)
  have rc := heap_alloc_new w (.cells #[.int .i64 f, .slice aoF nF cF, .slice aoS nS cS] 25)
  replace hcl := hcl.below hA
  go_enter Try.func32, Try.ntmps32
  go_upto_region 1 with fail
  generalize w.alloc (.cells #[.int .i64 f, .slice aoF nF cF, .slice aoS nS cS] 25) = W0 at hA rc hcl ⊢
  obtain ⟨G, hG⟩ : ∃ g, g = w.heap.size := ⟨_, rfl⟩
  rw [← hG] at rc ⊢
  have HG := Lib.hid hG
  clear hG
  have c0 := cell_of_row W0 G 0 _ _ _ rc
  have c1 := cell_of_row W0 G 1 _ _ _ rc
  have c2 := cell_of_row W0 G 2 _ _ _ rc
  simp at c0 c1 c2
  clear rc
  go_wp2_with fail
  have hal := (Below.refl W0.heap.size W0).alloc (Nat.le_refl _) (.cells #[.int .i64 a, .int .i64 b] 3)
  have hX := asked_any f F S aoF nF cF aoS nS cS [a, b] _ 2 2 [] none 0 0 _ (hcl.below hal) h9 h8 (ints_new2 W0 a b) rfl (by omega) (ints_none _ _) rfl (by omega)
  rw [Tm.acode_days] at hX
  refine hX.mono ?_
  clear hX
  rintro e w1 ⟨rfl, hbb⟩
  replace hcl := hcl.below hal
  replace c0 := keep_cell hal c0
  replace c1 := keep_cell hal c1
  replace c2 := keep_cell hal c2
  replace hA := hA.trans (hal.mono hA.size)
  replace hcl := hcl.below hbb
  replace c0 := keep_cell hbb c0
  replace c1 := keep_cell hbb c1
  replace c2 := keep_cell hbb c2
  replace hA := hA.trans (hbb.mono hA.size)
  clear hal hbb
  by_cases hz : Tm.dcode f F S [a, b] = 0
  · have hc1 : Hid (C = if b < a then 1 else 0) := Lib.hid (by rw [HC.out]; unfold Tm.rcode; rw [if_neg (by simpa using hz)])
    rw [hz]
    by_cases hba : b < a
    · have hc : Hid (C = 1) := Lib.hid (by rw [hc1.out, if_pos hba])
      have hv : Hid (V = 0) := Lib.hid (by rw [HV.out]; unfold Tm.nval; rw [if_neg (by rw [← HC.out, hc.out]; decide)])
      clear HC HV hc1 hz
      go_wp2_with fail
      go_ret2
      exact ⟨by rw [hc.out, hv.out]; rfl, hA⟩
    · have hc : Hid (C = 0) := Lib.hid (by rw [hc1.out, if_neg hba])
      obtain ⟨-, k1, k2, k3⟩ := Tm.rcode_ok (HC.out.symm.trans hc.out)
      have hv : Hid (V = ((Tm.cnt (Tm.work f F) a.toNat (b.toNat + 1 - a.toNat) : Nat) : Int)) := Lib.hid (by rw [HV.out]; unfold Tm.nval; rw [if_pos (HC.out.symm.trans hc.out)])
      clear HC HV hc1 hz hba
      obtain ⟨a, rfl⟩ := Int.eq_ofNat_of_zero_le k1
      obtain ⟨b, rfl⟩ := Int.eq_ofNat_of_zero_le (show 0 ≤ b by omega)
      rw [Int.toNat_natCast, Int.toNat_natCast] at hv
      have hab : a ≤ b := by omega
      have hb4 : b ≤ 10000 := by omega
      have hbb1 : decide ((b : Int) < (a : Int)) = false := decide_eq_false (by omega)
      have hbb2 : decide (b < a) = false := decide_eq_false (by omega)
      go_wp2_with fail
      go_loopw [9, 10] (fun m d wr => ∃ k x y : Nat, k ≤ b + 1 - a ∧ d = .int .i64 x ∧ m = .int .i64 y ∧ x ≤ a + k ∧ a + k ≤ x ∧ y ≤ k ∧ Hid (y = Tm.cnt (Tm.work f F) a k) ∧ Below w1.heap.size w1 wr) (fun _ d _ => b + 1 - (intOf d).toNat)
      case atStart => exact ⟨0, a, 0, by omega, rfl, rfl, by omega, by omega, by omega, Lib.hid rfl, Below.refl _ _⟩
      case round =>
        obtain ⟨k, x, y, hk, rfl, rfl, hx1, hx2, hy, HY, hb⟩ := hrel
        have q0 := keep_cell hb c0
        have q1 := keep_cell hb c1
        have q2 := keep_cell hb c2
        by_cases hlt : x ≤ b
        · have i1 : (x : Int) ≤ (b : Int) := by omega
          have hst : Hid (Tm.cnt (Tm.work f F) a (k + 1) = y + if (Tm.work f F) x then 1 else 0) := Lib.hid (by rw [Tm.cnt_succ, ← HY.out, show a + k = x by omega])
          have hX := rIsFree_any f F S x aoF nF cF aoS nS cS wr (hcl.below hb) h9
          obtain ⟨D, hD⟩ : ∃ t, Tm.free f F (x : Int) = t := ⟨_, rfl⟩
          have hp : Hid ((Tm.work f F) x = !D) := Lib.hid (by rw [← hD]; rfl)
          rw [hD] at hX
          clear hD
          go_wp2_with fail
          refine hX.mono ?_
          clear hX
          rintro e w3 ⟨rfl, hbb⟩
          have hb2 := hb.trans (hbb.mono hb.size)
          clear hbb
          cases D with
          | true =>
            have hq : Hid (y = Tm.cnt (Tm.work f F) a (k + 1)) := Lib.hid (by rw [hst.out, hp.out]; rfl)
            clear hst hp
            go_wp2_with fail
            go_roundw
            case rel => exact ⟨k + 1, x + 1, y, by omega, by go_num, rfl, by omega, by omega, by omega, hq, hb2⟩
            case measure => simp [intOf]; omega
          | false =>
            have hq : Hid (y + 1 = Tm.cnt (Tm.work f F) a (k + 1)) := Lib.hid (by rw [hst.out, hp.out]; rfl)
            clear hst hp
            go_wp2_with fail
            go_roundw
            case rel => exact ⟨k + 1, x + 1, y + 1, by omega, by go_num, by go_num, by omega, by omega, by omega, hq, hb2⟩
            case measure => simp [intOf]; omega
        · have i1 : ¬ (x : Int) ≤ (b : Int) := by omega
          have hk2 : k = b + 1 - a := by omega
          have hq : Hid (V = ((y : Nat) : Int)) := Lib.hid (by rw [hv.out, HY.out, hk2])
          clear hk2
          go_wp2_with fail
          go_ret2
          exact ⟨by rw [hc.out, hq.out]; rfl, hA.trans (hb.mono hA.size)⟩
  · have hc : Hid (C = Tm.dcode f F S [a, b]) := Lib.hid (by rw [HC.out]; unfold Tm.rcode; rw [if_pos hz])
    have hv : Hid (V = 0) := Lib.hid (by rw [HV.out]; unfold Tm.nval; rw [if_neg (by rw [← HC.out, hc.out]; exact hz)])
    have hne : (Tm.dcode f F S [a, b] != 0) = true := by simp [hz]
    clear HC HV
    generalize Tm.dcode f F S [a, b] = D at hz hne hc ⊢
    go_wp2_with fail
    go_ret2
    exact ⟨by rw [hc.out, hv.out]; rfl, hA⟩

set_option maxRecDepth 100000 in
set_option maxHeartbeats 4000000 in
theorem refCounting_any (f : Int) (F : List Int) (S : List (Int × Int)) (aoF : Option Addr) (nF cF : Nat) (aoS : Option Addr) (nS cS : Nat) (a b : Int) (w : World) (hcl : Cl w aoF nF aoS nS F S) (h9 : nF ≤ 100000) (h8 : nS ≤ 100000) :
    Calls Try.prog 34 #[.agg #[.int .i64 f, .slice aoF nF cF, .slice aoS nS cS], .int .i64 a, .int .i64 b] w fun e w' => e = .returned (.tuple #[.int .i64 (Tm.nval f F S (Tm.count S) a b), .int .i64 (Tm.rcode f F S a b)]) ∧ Below w.heap.size w w' := by
  obtain ⟨C, hC⟩ : ∃ c, c = Tm.rcode f F S a b := ⟨_, rfl⟩
  obtain ⟨V, hV⟩ : ∃ c, c = Tm.nval f F S (Tm.count S) a b := ⟨_, rfl⟩
  rw [← hC, ← hV]
  have HC := Lib.hid hC
  have HV := Lib.hid hV
  clear hC hV
  have hA := (Below.refl _ w).alloc (Nat.le_refl _) (.cells #[.int .i64 f, .slice aoF nF cF, .slice aoS nS cS] 25)
  have rc := heap_alloc_new w (.cells #[.int .i64 f, .slice aoF nF cF, .slice aoS nS cS] 25)
  replace hcl := hcl.below hA
  go_enter Try.func34, Try.ntmps34
  go_upto_region 1 with fail
  generalize w.alloc (.cells #[.int .i64 f, .slice aoF nF cF, .slice aoS nS cS] 25) = W0 at hA rc hcl ⊢
  obtain ⟨G, hG⟩ : ∃ g, g = w.heap.size := ⟨_, rfl⟩
  rw [← hG] at rc ⊢
  have HG := Lib.hid hG
  clear hG
  have c0 := cell_of_row W0 G 0 _ _ _ rc
  have c1 := cell_of_row W0 G 1 _ _ _ rc
  have c2 := cell_of_row W0 G 2 _ _ _ rc
  simp at c0 c1 c2
  clear rc
  go_wp2_with fail
  have hal := (Below.refl W0.heap.size W0).alloc (Nat.le_refl _) (.cells #[.int .i64 a, .int .i64 b] 3)
  have hX := asked_any f F S aoF nF cF aoS nS cS [a, b] _ 2 2 [] none 0 0 _ (hcl.below hal) h9 h8 (ints_new2 W0 a b) rfl (by omega) (ints_none _ _) rfl (by omega)
  rw [Tm.acode_days] at hX
  refine hX.mono ?_
  clear hX
  rintro e w1 ⟨rfl, hbb⟩
  replace hcl := hcl.below hal
  replace c0 := keep_cell hal c0
  replace c1 := keep_cell hal c1
  replace c2 := keep_cell hal c2
  replace hA := hA.trans (hal.mono hA.size)
  replace hcl := hcl.below hbb
  replace c0 := keep_cell hbb c0
  replace c1 := keep_cell hbb c1
  replace c2 := keep_cell hbb c2
  replace hA := hA.trans (hbb.mono hA.size)
  clear hal hbb
  by_cases hz : Tm.dcode f F S [a, b] = 0
  · have hc1 : Hid (C = if b < a then 1 else 0) := Lib.hid (by rw [HC.out]; unfold Tm.rcode; rw [if_neg (by simpa using hz)])
    rw [hz]
    by_cases hba : b < a
    · have hc : Hid (C = 1) := Lib.hid (by rw [hc1.out, if_pos hba])
      have hv : Hid (V = 0) := Lib.hid (by rw [HV.out]; unfold Tm.nval; rw [if_neg (by rw [← HC.out, hc.out]; decide)])
      clear HC HV hc1 hz
      go_wp2_with fail
      go_ret2
      exact ⟨by rw [hc.out, hv.out]; rfl, hA⟩
    · have hc : Hid (C = 0) := Lib.hid (by rw [hc1.out, if_neg hba])
      obtain ⟨-, k1, k2, k3⟩ := Tm.rcode_ok (HC.out.symm.trans hc.out)
      have hv : Hid (V = ((Tm.cnt (Tm.count S) a.toNat (b.toNat + 1 - a.toNat) : Nat) : Int)) := Lib.hid (by rw [HV.out]; unfold Tm.nval; rw [if_pos (HC.out.symm.trans hc.out)])
      clear HC HV hc1 hz hba
      obtain ⟨a, rfl⟩ := Int.eq_ofNat_of_zero_le k1
      obtain ⟨b, rfl⟩ := Int.eq_ofNat_of_zero_le (show 0 ≤ b by omega)
      rw [Int.toNat_natCast, Int.toNat_natCast] at hv
      have hab : a ≤ b := by omega
      have hb4 : b ≤ 10000 := by omega
      have hbb1 : decide ((b : Int) < (a : Int)) = false := decide_eq_false (by omega)
      have hbb2 : decide (b < a) = false := decide_eq_false (by omega)
      go_wp2_with fail
      go_loopw [9, 10] (fun m d wr => ∃ k x y : Nat, k ≤ b + 1 - a ∧ d = .int .i64 x ∧ m = .int .i64 y ∧ x ≤ a + k ∧ a + k ≤ x ∧ y ≤ k ∧ Hid (y = Tm.cnt (Tm.count S) a k) ∧ Below w1.heap.size w1 wr) (fun _ d _ => b + 1 - (intOf d).toNat)
      case atStart => exact ⟨0, a, 0, by omega, rfl, rfl, by omega, by omega, by omega, Lib.hid rfl, Below.refl _ _⟩
      case round =>
        obtain ⟨k, x, y, hk, rfl, rfl, hx1, hx2, hy, HY, hb⟩ := hrel
        have q0 := keep_cell hb c0
        have q1 := keep_cell hb c1
        have q2 := keep_cell hb c2
        by_cases hlt : x ≤ b
        · have i1 : (x : Int) ≤ (b : Int) := by omega
          have hst : Hid (Tm.cnt (Tm.count S) a (k + 1) = y + if (Tm.count S) x then 1 else 0) := Lib.hid (by rw [Tm.cnt_succ, ← HY.out, show a + k = x by omega])
          have hX := rIsStill_any f F S x aoF nF cF aoS nS cS wr (hcl.below hb) h8
          obtain ⟨D, hD⟩ : ∃ t, Tm.still S (x : Int) = t := ⟨_, rfl⟩
          have hp : Hid ((Tm.count S) x = !D) := Lib.hid (by rw [← hD]; rfl)
          rw [hD] at hX
          clear hD
          go_wp2_with fail
          refine hX.mono ?_
          clear hX
          rintro e w3 ⟨rfl, hbb⟩
          have hb2 := hb.trans (hbb.mono hb.size)
          clear hbb
          cases D with
          | true =>
            have hq : Hid (y = Tm.cnt (Tm.count S) a (k + 1)) := Lib.hid (by rw [hst.out, hp.out]; rfl)
            clear hst hp
            go_wp2_with fail
            go_roundw
            case rel => exact ⟨k + 1, x + 1, y, by omega, by go_num, rfl, by omega, by omega, by omega, hq, hb2⟩
            case measure => simp [intOf]; omega
          | false =>
            have hq : Hid (y + 1 = Tm.cnt (Tm.count S) a (k + 1)) := Lib.hid (by rw [hst.out, hp.out]; rfl)
            clear hst hp
            go_wp2_with fail
            go_roundw
            case rel => exact ⟨k + 1, x + 1, y + 1, by omega, by go_num, by go_num, by omega, by omega, by omega, hq, hb2⟩
            case measure => simp [intOf]; omega
        · have i1 : ¬ (x : Int) ≤ (b : Int) := by omega
          have hk2 : k = b + 1 - a := by omega
          have hq : Hid (V = ((y : Nat) : Int)) := Lib.hid (by rw [hv.out, HY.out, hk2])
          clear hk2
          go_wp2_with fail
          go_ret2
          exact ⟨by rw [hc.out, hq.out]; rfl, hA.trans (hb.mono hA.size)⟩
  · have hc : Hid (C = Tm.dcode f F S [a, b]) := Lib.hid (by rw [HC.out]; unfold Tm.rcode; rw [if_pos hz])
    have hv : Hid (V = 0) := Lib.hid (by rw [HV.out]; unfold Tm.nval; rw [if_neg (by rw [← HC.out, hc.out]; exact hz)])
    have hne : (Tm.dcode f F S [a, b] != 0) = true := by simp [hz]
    clear HC HV
    generalize Tm.dcode f F S [a, b] = D at hz hne hc ⊢
    go_wp2_with fail
    go_ret2
    exact ⟨by rw [hc.out, hv.out]; rfl, hA⟩
end Go.Proofs.Ytmdkdkiejcjmaaa
