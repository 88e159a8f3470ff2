import Derived.Test.YtmdkdkiejcjmaaaSb
/- Package selionref08: exported functions (Sd). -/
namespace Go.Proofs.Ytmdkdkiejcjmaaa
open Go.RowKit Go.Shelf

set_option maxRecDepth 100000 in
set_option maxHeartbeats 4000000 in
theorem rends_any (d0 t0 : Nat) (f : Int) (F : List Int) (S : List (Int × Int)) (aoF : Option Addr) (nF cF : Nat) (aoS : Option Addr) (nS cS : Nat) (w : World) (hcl : Cl w aoF nF aoS nS F S) (h9 : nF ≤ 100000) (h8 : nS ≤ 100000) (hok : Tm.Ok 10000 f F S) (hd4 : d0 ≤ 10000) (ht4 : t0 ≤ 10000) :
    Calls Try.prog 78 #[.agg #[.int .i64 f, .slice aoF nF cF, .slice aoS nS cS], .int .i64 d0, .int .i64 t0] w fun e w' => (∃ x : Nat, e = .returned (.int .i64 x) ∧ Tm.Ends (Tm.count S) (Tm.work f F) d0 t0 x ∧ x ≤ 1000000) ∧ Below w.heap.size w w' := by
  have htw : Hid (∀ x, 10000 < x → x < 4611686018427387904 → Tm.work f F x = true ∨ Tm.work f F (x + 1) = true) := Lib.hid fun x h1 h2 => Tm.work_two hok x h1 h2
  have hcc : Hid (∀ x, 10000 < x → Tm.count S x = true) := Lib.hid fun x h1 => Tm.count_all hok x h1
  clear hok
  have hA := (Below.refl _ w).alloc (Nat.le_refl _) (.cells #[.int .i64 f, .slice aoF nF cF, .slice aoS nS cS] 25)
  have rc := heap_alloc_new w (.cells #[.int .i64 f, .slice aoF nF cF, .slice aoS nS cS] 25)
  replace hcl := hcl.below hA
  go_enter Try.func78, Try.ntmps78
  go_upto_region 1 with fail
  generalize w.alloc (.cells #[.int .i64 f, .slice aoF nF cF, .slice aoS nS cS] 25) = W0 at hA rc hcl ⊢
  obtain ⟨G, hG⟩ : ∃ g, g = w.heap.size := ⟨_, rfl⟩
  rw [← hG] at rc ⊢
  have HG := Lib.hid hG
  clear hG
  have c0 := cell_of_row W0 G 0 _ _ _ rc
  have c1 := cell_of_row W0 G 1 _ _ _ rc
  have c2 := cell_of_row W0 G 2 _ _ _ rc
  simp at c0 c1 c2
  clear rc
  go_wp2_with fail
  go_loopw [1, 7] (fun v m wr => ∃ k n : Nat, v = .int .i64 ((d0 + k : Nat) : Int) ∧ m = .int .i64 n ∧ n ≤ k ∧ k ≤ 100000 ∧ Hid (n = Tm.cnt (Tm.count S) (d0 + 1) k) ∧ Hid (∀ j, j < k → Tm.cnt (Tm.count S) (d0 + 1) j < t0 ∨ Tm.work f F (d0 + j) = false) ∧ Below W0.heap.size W0 wr) (fun v _ _ => 200000 - (intOf v).toNat)
  case atStart => exact ⟨0, 0, rfl, rfl, Nat.zero_le _, by omega, Lib.hid rfl, Lib.hid (fun j hj => by omega), Below.refl _ _⟩
  case round =>
    obtain ⟨k, n, rfl, rfl, hn, hk, HN, HX, hb⟩ := hrel
    have q0 := keep_cell hb c0
    have q1 := keep_cell hb c1
    have q2 := keep_cell hb c2
    obtain ⟨x, hx⟩ : ∃ x, x = d0 + k := ⟨_, rfl⟩
    rw [← hx]
    have Hx := Lib.hid hx
    have hx4 : x ≤ 110000 := by omega
    clear hx
    by_cases hlt : n < t0
    · have hor : Tm.cnt (Tm.count S) (d0 + 1) k < t0 ∨ Tm.work f F (d0 + k) = false := .inl (by rw [← HN.out]; exact hlt)
      have i1 : (n : Int) < (t0 : Int) := by omega
      have hkb := Tm.ends_run htw.out hcc.out (by omega) HX.out hor
      have hX2 : Hid (∀ j, j < k + 1 → Tm.cnt (Tm.count S) (d0 + 1) j < t0 ∨ Tm.work f F (d0 + j) = false) := Lib.hid fun j hj => by
        rcases Nat.lt_or_ge j k with h | h
        · exact HX.out j h
        · rw [show j = k by omega]; exact hor
      have hst : Hid (Tm.cnt (Tm.count S) (d0 + 1) (k + 1) = n + if Tm.count S (x + 1) then 1 else 0) := Lib.hid (by rw [Tm.cnt_succ, ← HN.out, show d0 + 1 + k = x + 1 by have := Hx.out; omega])
      have hS := rIsStill_any f F S ((x : Int) + 1) aoF nF cF aoS nS cS wr (hcl.below hb) h8
      obtain ⟨E, hE⟩ : ∃ t, Tm.still S ((x : Int) + 1) = t := ⟨_, rfl⟩
      have hp2 : Hid (Tm.count S (x + 1) = !E) := Lib.hid (by rw [← hE]; rfl)
      rw [hE] at hS
      clear hE hor HX HN htw hcc
      go_wp2_with fail
      refine hS.mono ?_
      clear hS
      rintro e w4 ⟨rfl, hbb⟩
      have hb4 := hb.trans (hbb.mono hb.size)
      clear hbb
      cases E with
      | true =>
        have hq : Hid (n = Tm.cnt (Tm.count S) (d0 + 1) (k + 1)) := Lib.hid (by rw [hst.out, hp2.out]; rfl)
        clear hst hp2
        go_wp2_with fail
        go_roundw
        case rel => exact ⟨k + 1, n, by have := Hx.out; simp; omega, rfl, by omega, by omega, hq, hX2, hb4⟩
        case measure => have := Hx.out; simp [intOf]; omega
      | false =>
        have hq : Hid (n + 1 = Tm.cnt (Tm.count S) (d0 + 1) (k + 1)) := Lib.hid (by rw [hst.out, hp2.out]; rfl)
        clear hst hp2
        go_wp2_with fail
        go_roundw
        case rel => exact ⟨k + 1, n + 1, by have := Hx.out; simp; omega, by go_num, by omega, by omega, hq, hX2, hb4⟩
        case measure => have := Hx.out; simp [intOf]; omega
    · have i1 : decide ((n : Int) < (t0 : Int)) = false := decide_eq_false (by omega)
      have i2 : decide (n < t0) = false := decide_eq_false hlt
      have hX := rIsFree_any f F S x aoF nF cF aoS nS cS wr (hcl.below hb) h9
      obtain ⟨D, hD⟩ : ∃ t, Tm.free f F (x : Int) = t := ⟨_, rfl⟩
      have hp : Hid (Tm.work f F (d0 + k) = !D) := Lib.hid (by rw [← hD, ← Hx.out]; rfl)
      rw [hD] at hX
      clear hD
      go_wp2_with fail
      refine hX.mono ?_
      clear hX
      rintro e w3 ⟨rfl, hbb⟩
      have hb3 := hb.trans (hbb.mono hb.size)
      have q0 := keep_cell hb3 c0
      have q1 := keep_cell hb3 c1
      have q2 := keep_cell hb3 c2
      clear hbb
      cases D with
      | true =>
        have hor : Tm.cnt (Tm.count S) (d0 + 1) k < t0 ∨ Tm.work f F (d0 + k) = false := .inr (by rw [hp.out]; rfl)
        clear hp
        have hkb := Tm.ends_run htw.out hcc.out (by omega) HX.out hor
        have hX2 : Hid (∀ j, j < k + 1 → Tm.cnt (Tm.count S) (d0 + 1) j < t0 ∨ Tm.work f F (d0 + j) = false) := Lib.hid fun j hj => by
          rcases Nat.lt_or_ge j k with h | h
          · exact HX.out j h
          · rw [show j = k by omega]; exact hor
        have hst : Hid (Tm.cnt (Tm.count S) (d0 + 1) (k + 1) = n + if Tm.count S (x + 1) then 1 else 0) := Lib.hid (by rw [Tm.cnt_succ, ← HN.out, show d0 + 1 + k = x + 1 by have := Hx.out; omega])
        have hS := rIsStill_any f F S ((x : Int) + 1) aoF nF cF aoS nS cS w3 (hcl.below hb3) h8
        obtain ⟨E, hE⟩ : ∃ t, Tm.still S ((x : Int) + 1) = t := ⟨_, rfl⟩
        have hp2 : Hid (Tm.count S (x + 1) = !E) := Lib.hid (by rw [← hE]; rfl)
        rw [hE] at hS
        clear hE hor HX HN htw hcc
        go_wp2_with fail
        refine hS.mono ?_
        clear hS
        rintro e w4 ⟨rfl, hbb⟩
        have hb4 := hb3.trans (hbb.mono hb3.size)
        clear hbb
        cases E with
        | true =>
          have hq : Hid (n = Tm.cnt (Tm.count S) (d0 + 1) (k + 1)) := Lib.hid (by rw [hst.out, hp2.out]; rfl)
          clear hst hp2
          go_wp2_with fail
          go_roundw
          case rel => exact ⟨k + 1, n, by have := Hx.out; simp; omega, rfl, by omega, by omega, hq, hX2, hb4⟩
          case measure => have := Hx.out; simp [intOf]; omega
        | false =>
          have hq : Hid (n + 1 = Tm.cnt (Tm.count S) (d0 + 1) (k + 1)) := Lib.hid (by rw [hst.out, hp2.out]; rfl)
          clear hst hp2
          go_wp2_with fail
          go_roundw
          case rel => exact ⟨k + 1, n + 1, by have := Hx.out; simp; omega, by go_num, by omega, by omega, hq, hX2, hb4⟩
          case measure => have := Hx.out; simp [intOf]; omega
      | false =>
        have hq : Hid (Tm.Ends (Tm.count S) (Tm.work f F) d0 t0 x) := Lib.hid (by rw [Hx.out]; exact Tm.ends_first HX.out (by rw [← HN.out]; omega) (by rw [hp.out]; rfl))
        clear hp HX HN htw hcc
        go_wp2_with fail
        go_ret
        exact ⟨⟨x, rfl, hq.out, by omega⟩, hA.trans (hb3.mono hA.size)⟩

set_option maxRecDepth 100000 in
set_option maxHeartbeats 4000000 in
theorem refEnds_any (f : Int) (F : List Int) (S : List (Int × Int)) (aoF : Option Addr) (nF cF : Nat) (aoS : Option Addr) (nS cS : Nat) (d t : Int) (w : World) (hcl : Cl w aoF nF aoS nS F S) (h9 : nF ≤ 100000) (h8 : nS ≤ 100000) :
    Calls Try.prog 38 #[.agg #[.int .i64 f, .slice aoF nF cF, .slice aoS nS cS], .int .i64 d, .int .i64 t] w fun e w' => (∃ x : Nat, e = .returned (.tuple #[.int .i64 x, .int .i64 (Tm.tcode f F S d [t])]) ∧ Tm.En f F S d t x) ∧ Below w.heap.size w w' := by
  obtain ⟨C, hC⟩ : ∃ c, c = Tm.tcode f F S d [t] := ⟨_, rfl⟩
  rw [← hC]
  have HC := Lib.hid hC
  clear hC
  have hA := (Below.refl _ w).alloc (Nat.le_refl _) (.cells #[.int .i64 f, .slice aoF nF cF, .slice aoS nS cS] 25)
  have rc := heap_alloc_new w (.cells #[.int .i64 f, .slice aoF nF cF, .slice aoS nS cS] 25)
  replace hcl := hcl.below hA
  go_enter Try.func38, Try.ntmps38
  go_upto_region 1 with fail
  generalize w.alloc (.cells #[.int .i64 f, .slice aoF nF cF, .slice aoS nS cS] 25) = W0 at hA rc hcl ⊢
  obtain ⟨G, hG⟩ : ∃ g, g = w.heap.size := ⟨_, rfl⟩
  rw [← hG] at rc ⊢
  have HG := Lib.hid hG
  clear hG
  have c0 := cell_of_row W0 G 0 _ _ _ rc
  have c1 := cell_of_row W0 G 1 _ _ _ rc
  have c2 := cell_of_row W0 G 2 _ _ _ rc
  simp at c0 c1 c2
  clear rc
  go_wp2_with fail
  have hal := ((Below.refl W0.heap.size W0).alloc (Nat.le_refl _) (.cells #[.int .i64 d] 3)).alloc (by simp) (.cells #[.int .i64 t] 3)
  have hX := asked_any f F S aoF nF cF aoS nS cS [d] (some ⟨W0.heap.size, 0, none⟩) 1 1 [t] (some ⟨W0.heap.size + 1, 0, none⟩) 1 1 _ (hcl.below hal) h9 h8 ((ints_new1 W0 d).below ((Below.refl _ _).alloc (Nat.le_refl _) _)) rfl (by omega) (by simpa using ints_new1 (W0.alloc (.cells #[.int .i64 d] 3)) t) rfl (by omega)
  rw [Tm.acode_terms, ← HC.out] at hX
  refine hX.mono ?_
  clear hX
  rintro e w1 ⟨rfl, hbb⟩
  replace hcl := hcl.below hal
  replace c0 := keep_cell hal c0
  replace c1 := keep_cell hal c1
  replace c2 := keep_cell hal c2
  replace hA := hA.trans (hal.mono hA.size)
  replace hcl := hcl.below hbb
  replace c0 := keep_cell hbb c0
  replace c1 := keep_cell hbb c1
  replace c2 := keep_cell hbb c2
  replace hA := hA.trans (hbb.mono hA.size)
  clear hal hbb
  by_cases hz : C = 0
  · have hz2 := Lib.hid (HC.out.symm.trans hz)
    obtain ⟨hv, hd, hts⟩ := Tm.tcode_ok hz2.out
    have ht := hts t (by simp)
    obtain ⟨hok, -, -⟩ := Tm.vcode_ok hv
    subst hz
    obtain ⟨d0, rfl⟩ := Int.eq_ofNat_of_zero_le hd.1
    obtain ⟨t0, rfl⟩ := Int.eq_ofNat_of_zero_le ht.1
    have hE := rends_any d0 t0 f F S aoF nF cF aoS nS cS w1 hcl h9 h8 hok (by omega) (by omega)
    clear hv hts hok HC
    go_wp2_with fail
    refine hE.mono ?_
    rintro e w2 ⟨⟨x, rfl, hx, hxb⟩, hbb⟩
    replace hcl := hcl.below hbb
    replace c0 := keep_cell hbb c0
    replace c1 := keep_cell hbb c1
    replace c2 := keep_cell hbb c2
    replace hA := hA.trans (hbb.mono hA.size)
    have HX := Lib.hid hx
    clear hbb hE hx
    go_wp2_with fail
    go_ret2
    exact ⟨⟨x, rfl, .inl ⟨hz2.out, by rw [Int.toNat_natCast, Int.toNat_natCast]; exact HX.out, hxb⟩⟩, hA⟩
  · have hne : (C != 0) = true := by simp [hz]
    go_wp2_with fail
    go_ret2
    exact ⟨⟨0, rfl, .inr ⟨by rw [← HC.out]; exact hz, rfl⟩⟩, hA⟩
end Go.Proofs.Ytmdkdkiejcjmaaa
