import Derived.Test.YtmdkdkiejcjmaaaSi
/- Latest of both sides. -/
namespace Go.Proofs.Ytmdkdkiejcjmaaa
open Go.RowKit Go.Shelf

set_option maxRecDepth 100000 in
set_option maxHeartbeats 4000000 in
theorem Latest_any (f : Int) (F : List Int) (S : List (Int × Int)) (aoF : Option Addr) (nF cF : Nat) (aoS : Option Addr) (nS cS : Nat) (d t : Int) (w : World) (hcl : Cl w aoF nF aoS nS F S) (h9 : nF ≤ 100000) (h8 : nS ≤ 100000) :
    Calls Try.prog 39 #[.agg #[.int .i64 f, .slice aoF nF cF, .slice aoS nS cS], .int .i64 d, .int .i64 t] w fun e w' => (∃ (x : Nat) (b : Bool), e = .returned (.tuple #[.int .i64 x, .bool b, .int .i64 (Tm.tcode f F S d [t])]) ∧ Tm.Lt f F S d t x b) ∧ Below w.heap.size w w' := by
  obtain ⟨C, hC⟩ : ∃ c, c = Tm.tcode f F S d [t] := ⟨_, rfl⟩
  rw [← hC]
  have HC := Lib.hid hC
  clear hC
  have hA := (Below.refl _ w).alloc (Nat.le_refl _) (.cells #[.int .i64 f, .slice aoF nF cF, .slice aoS nS cS] 25)
  have rc := heap_alloc_new w (.cells #[.int .i64 f, .slice aoF nF cF, .slice aoS nS cS] 25)
  replace hcl := hcl.below hA
  go_enter Try.func39, Try.ntmps39
  go_upto_region 1 with fail
  generalize w.alloc (.cells #[.int .i64 f, .slice aoF nF cF, .slice aoS nS cS] 25) = W0 at hA rc hcl ⊢
  obtain ⟨G, hG⟩ : ∃ g, g = w.heap.size := ⟨_, rfl⟩
  rw [← hG] at rc ⊢
  have HG := Lib.hid hG
  clear hG
  have c0 := cell_of_row W0 G 0 _ _ _ rc
  have c1 := cell_of_row W0 G 1 _ _ _ rc
  have c2 := cell_of_row W0 G 2 _ _ _ rc
  simp at c0 c1 c2
  clear rc
  go_wp2_with fail
  have hal := (Below.refl W0.heap.size W0).alloc (Nat.le_refl _) (.cells #[.int .i64 t] 3)
  have hX := validateTerms_any f F S aoF nF cF aoS nS cS d [t] _ 1 1 _ (hcl.below hal) h9 h8 (ints_new1 W0 t) rfl (by omega)
  rw [← HC.out] at hX
  refine hX.mono ?_
  clear hX
  rintro e w1 ⟨rfl, hbb⟩
  replace hcl := hcl.below hal
  replace c0 := keep_cell hal c0
  replace c1 := keep_cell hal c1
  replace c2 := keep_cell hal c2
  replace hA := hA.trans (hal.mono hA.size)
  replace hcl := hcl.below hbb
  replace c0 := keep_cell hbb c0
  replace c1 := keep_cell hbb c1
  replace c2 := keep_cell hbb c2
  replace hA := hA.trans (hbb.mono hA.size)
  clear hal hbb
  by_cases hz : C = 0
  · have hz2 := Lib.hid (HC.out.symm.trans hz)
    obtain ⟨hv, hd, hts⟩ := Tm.tcode_ok hz2.out
    have ht := hts t (by simp)
    subst hz
    obtain ⟨d0, rfl⟩ := Int.eq_ofNat_of_zero_le hd.1
    obtain ⟨t0, rfl⟩ := Int.eq_ofNat_of_zero_le ht.1
    have hE := latest_any d0 t0 f F S aoF nF cF aoS nS cS w1 hcl h9 h8 (by omega) (by omega)
    clear hv hts HC
    go_wp2_with fail
    refine hE.mono ?_
    rintro e w2 ⟨⟨x, b, rfl, hx⟩, hbb⟩
    replace hcl := hcl.below hbb
    replace c0 := keep_cell hbb c0
    replace c1 := keep_cell hbb c1
    replace c2 := keep_cell hbb c2
    replace hA := hA.trans (hbb.mono hA.size)
    have HX := Lib.hid hx
    clear hbb hE hx
    go_wp2_with fail
    go_ret3
    exact ⟨⟨x, b, rfl, .inl ⟨hz2.out, by rw [Int.toNat_natCast, Int.toNat_natCast]; exact HX.out⟩⟩, hA⟩
  · have hne : (C != 0) = true := by simp [hz]
    go_wp2_with fail
    go_ret3
    exact ⟨⟨0, false, rfl, .inr ⟨by rw [← HC.out]; exact hz, rfl, rfl⟩⟩, hA⟩

set_option maxRecDepth 100000 in
set_option maxHeartbeats 4000000 in
theorem refLatest_any (f : Int) (F : List Int) (S : List (Int × Int)) (aoF : Option Addr) (nF cF : Nat) (aoS : Option Addr) (nS cS : Nat) (d t : Int) (w : World) (hcl : Cl w aoF nF aoS nS F S) (h9 : nF ≤ 100000) (h8 : nS ≤ 100000) :
    Calls Try.prog 40 #[.agg #[.int .i64 f, .slice aoF nF cF, .slice aoS nS cS], .int .i64 d, .int .i64 t] w fun e w' => (∃ (x : Nat) (b : Bool), e = .returned (.tuple #[.int .i64 x, .bool b, .int .i64 (Tm.tcode f F S d [t])]) ∧ Tm.Lt f F S d t x b) ∧ Below w.heap.size w w' := by
  obtain ⟨C, hC⟩ : ∃ c, c = Tm.tcode f F S d [t] := ⟨_, rfl⟩
  rw [← hC]
  have HC := Lib.hid hC
  clear hC
  have hA := (Below.refl _ w).alloc (Nat.le_refl _) (.cells #[.int .i64 f, .slice aoF nF cF, .slice aoS nS cS] 25)
  have rc := heap_alloc_new w (.cells #[.int .i64 f, .slice aoF nF cF, .slice aoS nS cS] 25)
  replace hcl := hcl.below hA
  go_enter Try.func40, Try.ntmps40
  go_upto_region 1 with fail
  generalize w.alloc (.cells #[.int .i64 f, .slice aoF nF cF, .slice aoS nS cS] 25) = W0 at hA rc hcl ⊢
  obtain ⟨G, hG⟩ : ∃ g, g = w.heap.size := ⟨_, rfl⟩
  rw [← hG] at rc ⊢
  have HG := Lib.hid hG
  clear hG
  have c0 := cell_of_row W0 G 0 _ _ _ rc
  have c1 := cell_of_row W0 G 1 _ _ _ rc
  have c2 := cell_of_row W0 G 2 _ _ _ rc
  simp at c0 c1 c2
  clear rc
  go_wp2_with fail
  have hal := ((Below.refl W0.heap.size W0).alloc (Nat.le_refl _) (.cells #[.int .i64 d] 3)).alloc (by simp) (.cells #[.int .i64 t] 3)
  have hX := asked_any f F S aoF nF cF aoS nS cS [d] (some ⟨W0.heap.size, 0, none⟩) 1 1 [t] (some ⟨W0.heap.size + 1, 0, none⟩) 1 1 _ (hcl.below hal) h9 h8 ((ints_new1 W0 d).below ((Below.refl _ _).alloc (Nat.le_refl _) _)) rfl (by omega) (by simpa using ints_new1 (W0.alloc (.cells #[.int .i64 d] 3)) t) rfl (by omega)
  rw [Tm.acode_terms, ← HC.out] at hX
  refine hX.mono ?_
  clear hX
  rintro e w1 ⟨rfl, hbb⟩
  replace hcl := hcl.below hal
  replace c0 := keep_cell hal c0
  replace c1 := keep_cell hal c1
  replace c2 := keep_cell hal c2
  replace hA := hA.trans (hal.mono hA.size)
  replace hcl := hcl.below hbb
  replace c0 := keep_cell hbb c0
  replace c1 := keep_cell hbb c1
  replace c2 := keep_cell hbb c2
  replace hA := hA.trans (hbb.mono hA.size)
  clear hal hbb
  by_cases hz : C = 0
  · have hz2 := Lib.hid (HC.out.symm.trans hz)
    obtain ⟨hv, hd, hts⟩ := Tm.tcode_ok hz2.out
    have ht := hts t (by simp)
    subst hz
    obtain ⟨d0, rfl⟩ := Int.eq_ofNat_of_zero_le hd.1
    obtain ⟨t0, rfl⟩ := Int.eq_ofNat_of_zero_le ht.1
    have hd4 : d0 ≤ 10000 := by omega
    have ht4 : t0 ≤ 400 := by omega
    clear hv hts HC hd ht
    go_wp2_with fail
    go_loopw [1] (fun v wr => ∃ k : Nat, v = .int .i64 ((d0 : Int) - (k : Int)) ∧ k ≤ d0 + 1 ∧ Hid (∀ y, d0 < y + k → y ≤ d0 → Tm.work f F y = false) ∧ Below w1.heap.size w1 wr) (fun v _ => (intOf v + 1).toNat)
    case atStart => exact ⟨0, by simp, by omega, Lib.hid fun y h1 h2 => by omega, Below.refl _ _⟩
    case round =>
      obtain ⟨k, rfl, hk, HN, hb⟩ := hrel
      have q0 := keep_cell hb c0
      have q1 := keep_cell hb c1
      have q2 := keep_cell hb c2
      by_cases hlt : k ≤ d0
      · obtain ⟨x, hx⟩ : ∃ x : Nat, x = d0 - k := ⟨_, rfl⟩
        have hxi : (d0 : Int) - (k : Int) = (x : Int) := by omega
        have hx2 : x ≤ 10000 := by omega
        have hx4 : x + k ≤ d0 := by omega
        have hx5 : d0 ≤ x + k := by omega
        rw [hxi]
        clear hx hxi
        have hX := rIsFree_any f F S x aoF nF cF aoS nS cS wr (hcl.below hb) h9
        obtain ⟨D, hD⟩ : ∃ t, Tm.free f F (x : Int) = t := ⟨_, rfl⟩
        have hp : Hid (Tm.work f F x = !D) := Lib.hid (by rw [← hD]; rfl)
        rw [hD] at hX
        clear hD
        have i1 : (0 : Int) ≤ (x : Int) := by omega
        go_wp2_with fail
        refine hX.mono ?_
        clear hX
        rintro e w3 ⟨rfl, hbb⟩
        have hb2 := hb.trans (hbb.mono hb.size)
        clear hbb
        cases D with
        | true =>
          have hq : Hid (∀ y, d0 < y + (k + 1) → y ≤ d0 → Tm.work f F y = false) := Lib.hid fun y h1 h2 => by
            rcases Nat.lt_or_ge d0 (y + k) with h | h
            · exact HN.out y h h2
            · rw [show y = x by omega]; exact hp.out
          clear hp HN
          go_wp2_with fail
          go_roundw
          case rel => exact ⟨k + 1, by (simp; try omega), by omega, hq, hb2⟩
          case measure => (simp [intOf]; try omega)
        | false =>
          have hq : Hid (Tm.IsBef (Tm.work f F) d0 x true) := Lib.hid (.inl ⟨rfl, by omega, hp.out, fun y h1 h2 => HN.out y (by omega) h2⟩)
          clear hp HN q0 q1 q2 hx4 hx5 hlt hk
          have c0 := keep_cell hb2 c0
          have c1 := keep_cell hb2 c1
          have c2 := keep_cell hb2 c2
          have hA2 := hA.trans (hb2.mono hA.size)
          have hcl := hcl.below hb2
          go_wp2_with fail
          go_loopw [10, 11] (fun m v wr => ∃ j n : Nat, v = .int .i64 ((x : Int) - (j : Int)) ∧ m = .int .i64 n ∧ n ≤ j ∧ j ≤ x + 1 ∧ Hid (n = Tm.cnt (Tm.count S) (x + 1 - j) j) ∧ Hid (∀ i, i < j → Tm.cnt (Tm.count S) (x + 1 - i) i < t0) ∧ Below w3.heap.size w3 wr) (fun _ v _ => (intOf v + 1).toNat)
          case atStart => exact ⟨0, 0, by simp, rfl, Nat.le_refl _, by omega, Lib.hid rfl, Lib.hid fun i hi => by omega, Below.refl _ _⟩
          case round =>
            rename World => W2
            obtain ⟨j, n, rfl, rfl, hn, hj, HM, HT, hb3⟩ := hrel
            have q0 := keep_cell hb3 c0
            have q1 := keep_cell hb3 c1
            have q2 := keep_cell hb3 c2
            by_cases hlt2 : j ≤ x
            · obtain ⟨y, hy⟩ : ∃ y : Nat, y = x - j := ⟨_, rfl⟩
              have hyi : (x : Int) - (j : Int) = (y : Int) := by omega
              have hy2 : y ≤ 10000 := by omega
              have hy4 : y + j ≤ x := by omega
              have hy5 : x ≤ y + j := by omega
              rw [hyi]
              clear hy hyi
              have i1 : (0 : Int) ≤ (y : Int) := by omega
              by_cases hnt : t0 ≤ n
              · have i2 : (t0 : Int) ≤ (n : Int) := by omega
                have hl : Hid (Tm.IsLat (Tm.count S) x t0 y true) := Lib.hid (.inl ⟨rfl, by omega, by rw [show x - y = j by omega, show y + 1 = x + 1 - j by omega, ← HM.out]; exact hnt, fun z h1 h2 => by
                  have := HT.out (x - z) (by omega)
                  rw [show x + 1 - (x - z) = z + 1 by omega] at this
                  exact this⟩)
                clear HM HT
                go_wp2_with fail
                go_ret3
                exact ⟨⟨y, true, rfl, .inl ⟨hz2.out, by rw [Int.toNat_natCast, Int.toNat_natCast]; exact ⟨x, true, hq.out, .inr ⟨rfl, hl.out⟩⟩⟩⟩, hA2.trans (hb3.mono hA2.size)⟩
              · have i2 : ¬ (t0 : Int) ≤ (n : Int) := by omega
                have hT2 : Hid (∀ i, i < j + 1 → Tm.cnt (Tm.count S) (x + 1 - i) i < t0) := Lib.hid fun i hi => by
                  rcases Nat.lt_or_ge i j with h | h
                  · exact HT.out i h
                  · rw [show i = j by omega, ← HM.out]; omega
                have hst : Hid (Tm.cnt (Tm.count S) (x + 1 - (j + 1)) (j + 1) = (if Tm.count S y then 1 else 0) + n) := Lib.hid (by rw [show j + 1 = 1 + j by omega, Tm.cnt_add, Tm.cnt_one, show x + 1 - (1 + j) = y by omega, show y + 1 = x + 1 - j by omega, ← HM.out])
                have hS := rIsStill_any f F S y aoF nF cF aoS nS cS W2 (hcl.below hb3) h8
                obtain ⟨E, hE⟩ : ∃ t, Tm.still S (y : Int) = t := ⟨_, rfl⟩
                have hp2 : Hid (Tm.count S y = !E) := Lib.hid (by rw [← hE]; rfl)
                rw [hE] at hS
                clear hE HM HT
                go_wp2_with fail
                refine hS.mono ?_
                clear hS
                rintro e w4 ⟨rfl, hbb⟩
                have hb4 := hb3.trans (hbb.mono hb3.size)
                clear hbb
                cases E with
                | true =>
                  have hq2 : Hid (n = Tm.cnt (Tm.count S) (x + 1 - (j + 1)) (j + 1)) := Lib.hid (by rw [hst.out, hp2.out]; simp)
                  clear hst hp2
                  go_wp2_with fail
                  go_roundw
                  case rel => exact ⟨j + 1, n, by (simp; try omega), rfl, by omega, by omega, hq2, hT2, hb4⟩
                  case measure => (simp [intOf]; try omega)
                | false =>
                  have hq2 : Hid (n + 1 = Tm.cnt (Tm.count S) (x + 1 - (j + 1)) (j + 1)) := Lib.hid (by rw [hst.out, hp2.out]; simp; omega)
                  clear hst hp2
                  go_wp2_with fail
                  go_roundw
                  case rel => exact ⟨j + 1, n + 1, by (simp; try omega), by go_num, by omega, by omega, hq2, hT2, hb4⟩
                  case measure => (simp [intOf]; try omega)
            · have hj2 : j = x + 1 := by omega
              subst hj2
              have e1 : (x : Int) - ((x + 1 : Nat) : Int) = -1 := by omega
              have hl : Hid (Tm.IsLat (Tm.count S) x t0 0 false) := Lib.hid (.inr ⟨rfl, rfl, fun z h2 => by
                  have := HT.out (x - z) (by omega)
                  rw [show x + 1 - (x - z) = z + 1 by omega] at this
                  exact this⟩)
              rw [e1]
              clear HM HT e1
              go_wp2_with fail
              go_ret3
              exact ⟨⟨0, false, rfl, .inl ⟨hz2.out, by rw [Int.toNat_natCast, Int.toNat_natCast]; exact ⟨x, true, hq.out, .inr ⟨rfl, hl.out⟩⟩⟩⟩, hA2.trans (hb3.mono hA2.size)⟩
      · have hk2 : k = d0 + 1 := by omega
        subst hk2
        have e1 : (d0 : Int) - ((d0 + 1 : Nat) : Int) = -1 := by omega
        have hq : Hid (Tm.IsBef (Tm.work f F) d0 0 false) := Lib.hid (.inr ⟨rfl, rfl, fun y h => HN.out y (by omega) h⟩)
        rw [e1]
        have hA2 := hA.trans (hb.mono hA.size)
        clear HN e1
        go_wp2_with fail
        go_loopw [10, 11] (fun m v wr2 => m = .int .i64 0 ∧ v = .int .i64 (-1) ∧ Below wr.heap.size wr wr2) (fun _ v _ => (intOf v + 1).toNat)
        case atStart => exact ⟨rfl, rfl, Below.refl _ _⟩
        case round =>
          rename World => W2
          obtain ⟨rfl, rfl, hb3⟩ := hrel
          go_wp2_with fail
          go_ret3
          exact ⟨⟨0, false, rfl, .inl ⟨hz2.out, by rw [Int.toNat_natCast, Int.toNat_natCast]; exact ⟨0, false, hq.out, .inl ⟨rfl, rfl, rfl⟩⟩⟩⟩, hA2.trans (hb3.mono hA2.size)⟩
  · have hne : (C != 0) = true := by simp [hz]
    go_wp2_with fail
    go_ret3
    exact ⟨⟨0, false, rfl, .inr ⟨by rw [← HC.out]; exact hz, rfl, rfl⟩⟩, hA⟩
end Go.Proofs.Ytmdkdkiejcjmaaa
