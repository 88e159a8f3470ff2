import Derived.Test.YtmdkdkiejcjmaaaSb
/- Package selionref08: exported functions (Sc). -/
namespace Go.Proofs.Ytmdkdkiejcjmaaa
open Go.RowKit Go.Shelf

set_option maxRecDepth 100000 in
set_option maxHeartbeats 4000000 in
theorem refNext_any (f : Int) (F : List Int) (S : List (Int × Int)) (aoF : Option Addr) (nF cF : Nat) (aoS : Option Addr) (nS cS : Nat) (d : Int) (w : World) (hcl : Cl w aoF nF aoS nS F S) (h9 : nF ≤ 100000) (h8 : nS ≤ 100000) :
    Calls Try.prog 28 #[.agg #[.int .i64 f, .slice aoF nF cF, .slice aoS nS cS], .int .i64 d] w fun e w' => (∃ x : Nat, e = .returned (.tuple #[.int .i64 x, .int .i64 (Tm.dcode f F S [d])]) ∧ Tm.Nx f F S d x) ∧ Below w.heap.size w w' := by
  obtain ⟨C, hC⟩ : ∃ c, c = Tm.dcode f F S [d] := ⟨_, rfl⟩
  rw [← hC]
  have HC := Lib.hid hC
  clear hC
  have hA := (Below.refl _ w).alloc (Nat.le_refl _) (.cells #[.int .i64 f, .slice aoF nF cF, .slice aoS nS cS] 25)
  have rc := heap_alloc_new w (.cells #[.int .i64 f, .slice aoF nF cF, .slice aoS nS cS] 25)
  replace hcl := hcl.below hA
  go_enter Try.func28, Try.ntmps28
  go_upto_region 1 with fail
  generalize w.alloc (.cells #[.int .i64 f, .slice aoF nF cF, .slice aoS nS cS] 25) = W0 at hA rc hcl ⊢
  obtain ⟨G, hG⟩ : ∃ g, g = w.heap.size := ⟨_, rfl⟩
  rw [← hG] at rc ⊢
  have HG := Lib.hid hG
  clear hG
  have c0 := cell_of_row W0 G 0 _ _ _ rc
  have c1 := cell_of_row W0 G 1 _ _ _ rc
  have c2 := cell_of_row W0 G 2 _ _ _ rc
  simp at c0 c1 c2
  clear rc
  go_wp2_with fail
  have hal := (Below.refl W0.heap.size W0).alloc (Nat.le_refl _) (.cells #[.int .i64 d] 3)
  have hX := asked_any f F S aoF nF cF aoS nS cS [d] _ 1 1 [] none 0 0 _ (hcl.below hal) h9 h8 (ints_new1 W0 d) rfl (by omega) (ints_none _ _) rfl (by omega)
  rw [Tm.acode_days, ← HC.out] at hX
  refine hX.mono ?_
  clear hX
  rintro e w1 ⟨rfl, hbb⟩
  replace hcl := hcl.below hal
  replace c0 := keep_cell hal c0
  replace c1 := keep_cell hal c1
  replace c2 := keep_cell hal c2
  replace hA := hA.trans (hal.mono hA.size)
  replace hcl := hcl.below hbb
  replace c0 := keep_cell hbb c0
  replace c1 := keep_cell hbb c1
  replace c2 := keep_cell hbb c2
  replace hA := hA.trans (hbb.mono hA.size)
  clear hal hbb
  by_cases hz : C = 0
  · have hz2 := Lib.hid (HC.out.symm.trans hz)
    obtain ⟨hv, hd⟩ := Tm.dcode_ok hz2.out
    have hd2 := hd d (by simp)
    obtain ⟨hok, -, -⟩ := Tm.vcode_ok hv
    subst hz
    obtain ⟨d0, rfl⟩ := Int.eq_ofNat_of_zero_le hd2.1
    have htw : Hid (∀ x, 10000 < x → x < 4611686018427387904 → Tm.work f F x = true ∨ Tm.work f F (x + 1) = true) := Lib.hid fun x h1 h2 => Tm.work_two hok x h1 h2
    have hd4 : d0 ≤ 10000 := by omega
    clear hv hd hok HC hd2
    go_wp2_with fail
    go_loopw [1] (fun v wr => ∃ x : Nat, v = .int .i64 x ∧ d0 ≤ x ∧ x ≤ 1000000 ∧ Hid (∀ y, d0 ≤ y → y < x → Tm.work f F y = false) ∧ Below w1.heap.size w1 wr) (fun v _ => 2000000 - (intOf v).toNat)
    case atStart => exact ⟨d0, rfl, Nat.le_refl _, by omega, Lib.hid fun y h1 h2 => by omega, Below.refl _ _⟩
    case round =>
      obtain ⟨x, rfl, hx1, hx2, HN, hb⟩ := hrel
      have q0 := keep_cell hb c0
      have q1 := keep_cell hb c1
      have q2 := keep_cell hb c2
      have hX := rIsFree_any f F S x aoF nF cF aoS nS cS wr (hcl.below hb) h9
      obtain ⟨D, hD⟩ : ∃ t, Tm.free f F (x : Int) = t := ⟨_, rfl⟩
      have hp : Hid (Tm.work f F x = !D) := Lib.hid (by rw [← hD]; rfl)
      rw [hD] at hX
      clear hD
      go_wp2_with fail
      refine hX.mono ?_
      clear hX
      rintro e w3 ⟨rfl, hbb⟩
      have hb2 := hb.trans (hbb.mono hb.size)
      clear hbb
      cases D with
      | true =>
        have hle := Tm.no_run htw.out (by omega) HN.out hp.out
        have hq : Hid (∀ y, d0 ≤ y → y < x + 1 → Tm.work f F y = false) := Lib.hid fun y h1 h2 => by
          rcases Nat.lt_or_ge y x with h | h
          · exact HN.out y h1 h
          · rw [show y = x by omega]; exact hp.out
        clear hp HN htw
        go_wp2_with fail
        go_roundw
        case rel => exact ⟨x + 1, by go_num, by omega, by omega, hq, hb2⟩
        case measure => (simp [intOf]; try omega)
      | false =>
        have hq := Lib.hid (Tm.nth_first hx1 HN.out hp.out)
        clear hp HN htw
        go_wp2_with fail
        go_ret2
        exact ⟨⟨x, rfl, .inl ⟨hz2.out, by rw [Int.toNat_natCast]; exact hq.out⟩⟩, hA.trans (hb2.mono hA.size)⟩
  · have hne : (C != 0) = true := by simp [hz]
    go_wp2_with fail
    go_ret2
    exact ⟨⟨0, rfl, .inr ⟨by rw [← HC.out]; exact hz, rfl⟩⟩, hA⟩

set_option maxRecDepth 100000 in
set_option maxHeartbeats 4000000 in
theorem refBefore_any (f : Int) (F : List Int) (S : List (Int × Int)) (aoF : Option Addr) (nF cF : Nat) (aoS : Option Addr) (nS cS : Nat) (d : Int) (w : World) (hcl : Cl w aoF nF aoS nS F S) (h9 : nF ≤ 100000) (h8 : nS ≤ 100000) :
    Calls Try.prog 30 #[.agg #[.int .i64 f, .slice aoF nF cF, .slice aoS nS cS], .int .i64 d] w fun e w' => (∃ (x : Nat) (b : Bool), e = .returned (.tuple #[.int .i64 x, .bool b, .int .i64 (Tm.dcode f F S [d])]) ∧ Tm.Bf f F S d x b) ∧ Below w.heap.size w w' := by
  obtain ⟨C, hC⟩ : ∃ c, c = Tm.dcode f F S [d] := ⟨_, rfl⟩
  rw [← hC]
  have HC := Lib.hid hC
  clear hC
  have hA := (Below.refl _ w).alloc (Nat.le_refl _) (.cells #[.int .i64 f, .slice aoF nF cF, .slice aoS nS cS] 25)
  have rc := heap_alloc_new w (.cells #[.int .i64 f, .slice aoF nF cF, .slice aoS nS cS] 25)
  replace hcl := hcl.below hA
  go_enter Try.func30, Try.ntmps30
  go_upto_region 1 with fail
  generalize w.alloc (.cells #[.int .i64 f, .slice aoF nF cF, .slice aoS nS cS] 25) = W0 at hA rc hcl ⊢
  obtain ⟨G, hG⟩ : ∃ g, g = w.heap.size := ⟨_, rfl⟩
  rw [← hG] at rc ⊢
  have HG := Lib.hid hG
  clear hG
  have c0 := cell_of_row W0 G 0 _ _ _ rc
  have c1 := cell_of_row W0 G 1 _ _ _ rc
  have c2 := cell_of_row W0 G 2 _ _ _ rc
  simp at c0 c1 c2
  clear rc
  go_wp2_with fail
  have hal := (Below.refl W0.heap.size W0).alloc (Nat.le_refl _) (.cells #[.int .i64 d] 3)
  have hX := asked_any f F S aoF nF cF aoS nS cS [d] _ 1 1 [] none 0 0 _ (hcl.below hal) h9 h8 (ints_new1 W0 d) rfl (by omega) (ints_none _ _) rfl (by omega)
  rw [Tm.acode_days, ← HC.out] at hX
  refine hX.mono ?_
  clear hX
  rintro e w1 ⟨rfl, hbb⟩
  replace hcl := hcl.below hal
  replace c0 := keep_cell hal c0
  replace c1 := keep_cell hal c1
  replace c2 := keep_cell hal c2
  replace hA := hA.trans (hal.mono hA.size)
  replace hcl := hcl.below hbb
  replace c0 := keep_cell hbb c0
  replace c1 := keep_cell hbb c1
  replace c2 := keep_cell hbb c2
  replace hA := hA.trans (hbb.mono hA.size)
  clear hal hbb
  by_cases hz : C = 0
  · have hz2 := Lib.hid (HC.out.symm.trans hz)
    obtain ⟨hv, hd⟩ := Tm.dcode_ok hz2.out
    have hd2 := hd d (by simp)
    subst hz
    obtain ⟨d0, rfl⟩ := Int.eq_ofNat_of_zero_le hd2.1
    have hd4 : d0 ≤ 10000 := by omega
    clear hv hd HC hd2
    go_wp2_with fail
    go_loopw [8] (fun v wr => ∃ k : Nat, v = .int .i64 ((d0 : Int) - (k : Int)) ∧ k ≤ d0 + 1 ∧ Hid (∀ y, d0 < y + k → y ≤ d0 → Tm.work f F y = false) ∧ Below w1.heap.size w1 wr) (fun v _ => (intOf v + 1).toNat)
    case atStart => exact ⟨0, by simp, by omega, Lib.hid fun y h1 h2 => by omega, Below.refl _ _⟩
    case round =>
      obtain ⟨k, rfl, hk, HN, hb⟩ := hrel
      have q0 := keep_cell hb c0
      have q1 := keep_cell hb c1
      have q2 := keep_cell hb c2
      by_cases hlt : k ≤ d0
      · obtain ⟨x, hx⟩ : ∃ x : Nat, x = d0 - k := ⟨_, rfl⟩
        have hxi : (d0 : Int) - (k : Int) = (x : Int) := by omega
        have hx2 : x ≤ 10000 := by omega
        have hx4 : x + k ≤ d0 := by omega
        have hx5 : d0 ≤ x + k := by omega
        rw [hxi]
        clear hx hxi
        have hX := rIsFree_any f F S x aoF nF cF aoS nS cS wr (hcl.below hb) h9
        obtain ⟨D, hD⟩ : ∃ t, Tm.free f F (x : Int) = t := ⟨_, rfl⟩
        have hp : Hid (Tm.work f F x = !D) := Lib.hid (by rw [← hD]; rfl)
        rw [hD] at hX
        clear hD
        have i1 : decide ((x : Int) < 0) = false := by simp
        go_wp2_with fail
        refine hX.mono ?_
        clear hX
        rintro e w3 ⟨rfl, hbb⟩
        have hb2 := hb.trans (hbb.mono hb.size)
        clear hbb
        cases D with
        | true =>
          have hq : Hid (∀ y, d0 < y + (k + 1) → y ≤ d0 → Tm.work f F y = false) := Lib.hid fun y h1 h2 => by
            rcases Nat.lt_or_ge d0 (y + k) with h | h
            · exact HN.out y h h2
            · rw [show y = x by omega]; exact hp.out
          clear hp HN
          go_wp2_with fail
          go_roundw
          case rel => exact ⟨k + 1, by (simp; try omega), by omega, hq, hb2⟩
          case measure => (simp [intOf]; try omega)
        | false =>
          have hq : Hid (Tm.IsBef (Tm.work f F) d0 x true) := Lib.hid (.inl ⟨rfl, by omega, hp.out, fun y h1 h2 => HN.out y (by omega) h2⟩)
          clear hp HN
          go_wp2_with fail
          go_ret3
          exact ⟨⟨x, true, rfl, .inl ⟨hz2.out, by rw [Int.toNat_natCast]; exact hq.out⟩⟩, hA.trans (hb2.mono hA.size)⟩
      · have hk2 : k = d0 + 1 := by omega
        subst hk2
        have e1 : (d0 : Int) - ((d0 + 1 : Nat) : Int) = -1 := by omega
        have hq : Hid (Tm.IsBef (Tm.work f F) d0 0 false) := Lib.hid (.inr ⟨rfl, rfl, fun y h => HN.out y (by omega) h⟩)
        rw [e1]
        clear HN e1
        go_wp2_with fail
        go_ret3
        exact ⟨⟨0, false, rfl, .inl ⟨hz2.out, by rw [Int.toNat_natCast]; exact hq.out⟩⟩, hA.trans (hb.mono hA.size)⟩
  · have hne : (C != 0) = true := by simp [hz]
    go_wp2_with fail
    go_ret3
    exact ⟨⟨0, false, rfl, .inr ⟨by rw [← HC.out]; exact hz, rfl, rfl⟩⟩, hA⟩

set_option maxRecDepth 100000 in
set_option maxHeartbeats 4000000 in
theorem refAddWork_any (f : Int) (F : List Int) (S : List (Int × Int)) (aoF : Option Addr) (nF cF : Nat) (aoS : Option Addr) (nS cS : Nat) (d t : Int) (w : World) (hcl : Cl w aoF nF aoS nS F S) (h9 : nF ≤ 100000) (h8 : nS ≤ 100000) :
    Calls Try.prog 36 #[.agg #[.int .i64 f, .slice aoF nF cF, .slice aoS nS cS], .int .i64 d, .int .i64 t] w fun e w' => (∃ x : Nat, e = .returned (.tuple #[.int .i64 x, .int .i64 (Tm.tcode f F S d [t])]) ∧ Tm.Aw f F S d t x) ∧ Below w.heap.size w w' := by
  obtain ⟨C, hC⟩ : ∃ c, c = Tm.tcode f F S d [t] := ⟨_, rfl⟩
  rw [← hC]
  have HC := Lib.hid hC
  clear hC
  have hA := (Below.refl _ w).alloc (Nat.le_refl _) (.cells #[.int .i64 f, .slice aoF nF cF, .slice aoS nS cS] 25)
  have rc := heap_alloc_new w (.cells #[.int .i64 f, .slice aoF nF cF, .slice aoS nS cS] 25)
  replace hcl := hcl.below hA
  go_enter Try.func36, Try.ntmps36
  go_upto_region 1 with fail
  generalize w.alloc (.cells #[.int .i64 f, .slice aoF nF cF, .slice aoS nS cS] 25) = W0 at hA rc hcl ⊢
  obtain ⟨G, hG⟩ : ∃ g, g = w.heap.size := ⟨_, rfl⟩
  rw [← hG] at rc ⊢
  have HG := Lib.hid hG
  clear hG
  have c0 := cell_of_row W0 G 0 _ _ _ rc
  have c1 := cell_of_row W0 G 1 _ _ _ rc
  have c2 := cell_of_row W0 G 2 _ _ _ rc
  simp at c0 c1 c2
  clear rc
  go_wp2_with fail
  have hal := ((Below.refl W0.heap.size W0).alloc (Nat.le_refl _) (.cells #[.int .i64 d] 3)).alloc (by simp) (.cells #[.int .i64 t] 3)
  have hX := asked_any f F S aoF nF cF aoS nS cS [d] (some ⟨W0.heap.size, 0, none⟩) 1 1 [t] (some ⟨W0.heap.size + 1, 0, none⟩) 1 1 _ (hcl.below hal) h9 h8 ((ints_new1 W0 d).below ((Below.refl _ _).alloc (Nat.le_refl _) _)) rfl (by omega) (by simpa using ints_new1 (W0.alloc (.cells #[.int .i64 d] 3)) t) rfl (by omega)
  rw [Tm.acode_terms, ← HC.out] at hX
  refine hX.mono ?_
  clear hX
  rintro e w1 ⟨rfl, hbb⟩
  replace hcl := hcl.below hal
  replace c0 := keep_cell hal c0
  replace c1 := keep_cell hal c1
  replace c2 := keep_cell hal c2
  replace hA := hA.trans (hal.mono hA.size)
  replace hcl := hcl.below hbb
  replace c0 := keep_cell hbb c0
  replace c1 := keep_cell hbb c1
  replace c2 := keep_cell hbb c2
  replace hA := hA.trans (hbb.mono hA.size)
  clear hal hbb
  by_cases hz : C = 0
  · have hz2 := Lib.hid (HC.out.symm.trans hz)
    obtain ⟨hv, hd, hts⟩ := Tm.tcode_ok hz2.out
    have ht := hts t (by simp)
    obtain ⟨hok, -, -⟩ := Tm.vcode_ok hv
    subst hz
    obtain ⟨d0, rfl⟩ := Int.eq_ofNat_of_zero_le hd.1
    obtain ⟨t0, rfl⟩ := Int.eq_ofNat_of_zero_le ht.1
    have hbd : Hid (∀ k, Tm.cnt (Tm.work f F) (d0 + 1) k < t0 → k < 10000 + 1 + 2 * t0) := Lib.hid fun k hk => Tm.cnt_bound (X := 4611686018427387904) (fun x h1 h2 => Tm.work_two hok x h1 h2) (d0 + 1) t0 (by omega) hk
    have hd4 : d0 ≤ 10000 := by omega
    have ht4 : t0 ≤ 400 := by omega
    clear hv hts hok HC hd ht
    go_wp2_with fail
    go_loopw [1, 9] (fun v m wr => ∃ k n : Nat, v = .int .i64 ((d0 + k : Nat) : Int) ∧ m = .int .i64 n ∧ n ≤ t0 ∧ k ≤ 20000 ∧ Hid (n = Tm.cnt (Tm.work f F) (d0 + 1) k) ∧ Hid (Tm.After (Tm.work f F) d0 n (d0 + k) ∨ n < t0) ∧ Below w1.heap.size w1 wr) (fun v _ _ => 100000 - (intOf v).toNat)
    case atStart => exact ⟨0, 0, rfl, rfl, Nat.zero_le _, by omega, Lib.hid rfl, Lib.hid (.inl (.inl ⟨rfl, rfl⟩)), Below.refl _ _⟩
    case round =>
      obtain ⟨k, n, rfl, rfl, hn, hk, HN, HX, hb⟩ := hrel
      have q0 := keep_cell hb c0
      have q1 := keep_cell hb c1
      have q2 := keep_cell hb c2
      by_cases hlt : n < t0
      · have hk2 := hbd.out k (by rw [← HN.out]; exact hlt)
        have i1 : (n : Int) < (t0 : Int) := by omega
        obtain ⟨x, hx⟩ : ∃ x, x = d0 + k := ⟨_, rfl⟩
        have hst : Hid (Tm.cnt (Tm.work f F) (d0 + 1) (k + 1) = n + if Tm.work f F (x + 1) then 1 else 0) := Lib.hid (by rw [Tm.cnt_succ, ← HN.out, show d0 + 1 + k = x + 1 by omega])
        have hX := rIsFree_any f F S ((x : Int) + 1) aoF nF cF aoS nS cS wr (hcl.below hb) h9
        obtain ⟨D, hD⟩ : ∃ t, Tm.free f F ((x : Int) + 1) = t := ⟨_, rfl⟩
        have hp : Hid (Tm.work f F (x + 1) = !D) := Lib.hid (by rw [← hD]; rfl)
        rw [hD] at hX
        rw [← hx]
        have Hx := Lib.hid hx
        have hx4 : x ≤ 100000 := by omega
        clear hD hx HX
        go_wp2_with fail
        refine hX.mono ?_
        clear hX
        rintro e w3 ⟨rfl, hbb⟩
        have hb2 := hb.trans (hbb.mono hb.size)
        clear hbb
        cases D with
        | true =>
          have hq : Hid (n = Tm.cnt (Tm.work f F) (d0 + 1) (k + 1)) := Lib.hid (by rw [hst.out, hp.out]; rfl)
          clear hst hp
          go_wp2_with fail
          go_roundw
          case rel => exact ⟨k + 1, n, by have := Hx.out; simp; omega, rfl, by omega, by omega, hq, Lib.hid (.inr hlt), hb2⟩
          case measure => have := Hx.out; simp [intOf]; omega
        | false =>
          have hq : Hid (n + 1 = Tm.cnt (Tm.work f F) (d0 + 1) (k + 1)) := Lib.hid (by rw [hst.out, hp.out]; rfl)
          have hq2 : Hid (Tm.After (Tm.work f F) d0 (n + 1) (d0 + (k + 1))) := Lib.hid (.inr ⟨by omega, by omega, by rw [show d0 + (k + 1) = x + 1 by have := Hx.out; omega]; exact hp.out, by rw [show d0 + (k + 1) - (d0 + 1) = k by omega, ← HN.out]⟩)
          clear hst hp
          go_wp2_with fail
          go_roundw
          case rel => exact ⟨k + 1, n + 1, by have := Hx.out; simp; omega, by go_num, by omega, by omega, hq, Lib.hid (.inl hq2.out), hb2⟩
          case measure => have := Hx.out; simp [intOf]; omega
      · have hn2 : n = t0 := by omega
        have hq : Hid (Tm.After (Tm.work f F) d0 t0 (d0 + k)) := Lib.hid (by rcases HX.out with h | h; rw [← hn2]; exact h; omega)
        have i1 : ¬ (n : Int) < (t0 : Int) := by omega
        clear hn2 HX
        obtain ⟨x, hx⟩ : ∃ x, x = d0 + k := ⟨_, rfl⟩
        have hx4 : x ≤ 100000 := by omega
        rw [← hx] at hq ⊢
        clear hx
        go_wp2_with fail
        go_ret2
        exact ⟨⟨x, rfl, .inl ⟨hz2.out, by rw [Int.toNat_natCast, Int.toNat_natCast]; exact hq.out, by omega⟩⟩, hA.trans (hb.mono hA.size)⟩
  · have hne : (C != 0) = true := by simp [hz]
    go_wp2_with fail
    go_ret2
    exact ⟨⟨0, rfl, .inr ⟨by rw [← HC.out]; exact hz, rfl⟩⟩, hA⟩
end Go.Proofs.Ytmdkdkiejcjmaaa
