import Derived.Test.YtmdkdkiejcjmaaaTi
/- Package term: Validate, what is right of days and terms, Ends. -/
namespace Go.Proofs.Ytmdkdkiejcjmaaa
open Go.RowKit
theorem ints_new1 (W : World) (x : Int) : Ints (W.alloc (.cells #[.int .i64 x] 3)) (some ⟨W.heap.size, 0, none⟩) [x] := ⟨fun _ => ⟨_, 0, rfl, by simp, fun i hi => by
  match i, hi with
  | 0, _ => exact cell_of_row _ _ 0 _ _ _ (heap_alloc_new W _)⟩⟩

set_option maxRecDepth 100000 in
set_option maxHeartbeats 4000000 in
theorem Validate_any (f : Int) (F : List Int) (S : List (Int × Int)) (aoF : Option Addr) (nF cF : Nat) (aoS : Option Addr) (nS cS : Nat) (w : World) (hcl : Cl w aoF nF aoS nS F S) (h9 : nF ≤ 100000) (h8 : nS ≤ 100000) :
    Calls Try.prog 25 #[.agg #[.int .i64 f, .slice aoF nF cF, .slice aoS nS cS]] w fun e w' => e = .returned (.int .i64 (Tm.vcode f F S)) ∧ Below w.heap.size w w' := by
  obtain ⟨C, hC⟩ : ∃ c, c = Tm.vcode f F S := ⟨_, rfl⟩
  rw [← hC]
  have HC := Lib.hid hC
  clear hC
  have hnf := Lib.hid hcl.nf
  have hns := Lib.hid hcl.ns
  have hA := (Below.refl _ w).alloc (Nat.le_refl _) (.cells #[.int .i64 f, .slice aoF nF cF, .slice aoS nS cS] 25)
  have rc := heap_alloc_new w (.cells #[.int .i64 f, .slice aoF nF cF, .slice aoS nS cS] 25)
  replace hcl := hcl.below hA
  go_enter Try.func25, Try.ntmps25
  go_upto_region 1 with fail
  generalize w.alloc (.cells #[.int .i64 f, .slice aoF nF cF, .slice aoS nS cS] 25) = W0 at hA rc hcl ⊢
  obtain ⟨G, hG⟩ : ∃ g, g = w.heap.size := ⟨_, rfl⟩
  rw [← hG] at rc ⊢
  have HG := Lib.hid hG
  clear hG
  have c0 := cell_of_row W0 G 0 _ _ _ rc
  have c1 := cell_of_row W0 G 1 _ _ _ rc
  have c2 := cell_of_row W0 G 2 _ _ _ rc
  simp at c0 c1 c2
  go_wp2_with fail
  have hal := (Below.refl W0.heap.size W0).alloc (Nat.le_refl _) (.cells #[.int .i64 f] 3)
  have hX := areUpTo_any 6 [f] _ 1 1 _ (ints_new1 W0 f) rfl (by omega)
  refine hX.mono ?_
  clear hX
  rintro e w1 ⟨rfl, hbb⟩
  replace hcl := hcl.below hal
  replace c0 := keep_cell hal c0
  replace c1 := keep_cell hal c1
  replace c2 := keep_cell hal c2
  replace hA := hA.trans (hal.mono hA.size)
  replace hcl := hcl.below hbb
  replace c0 := keep_cell hbb c0
  replace c1 := keep_cell hbb c1
  replace c2 := keep_cell hbb c2
  replace hA := hA.trans (hbb.mono hA.size)
  clear hal hbb
  obtain ⟨b1, hb1⟩ : ∃ b, Tm.upTo 6 [f] = b := ⟨_, rfl⟩
  have hb1' : b1 = true ↔ (0 ≤ f ∧ f ≤ 6) := by rw [← hb1]; unfold Tm.upTo; simp
  rw [hb1]
  clear hb1
  cases b1 with
  | false =>
    have hc : Hid (C = 1) := Lib.hid (by rw [HC.out]; unfold Tm.vcode; rw [if_pos (by rw [← hb1']; simp)])
    clear hb1'
    go_wp2_with fail
    go_ret
    exact ⟨ret_int hc.out.symm, hA⟩
  | true =>
    have hc1 : Hid (C = if 12 < F.length ∨ 4 < S.length then 3 else if Tm.days 0 F && Tm.spans 0 S then 0 else 1) := Lib.hid (by rw [HC.out]; unfold Tm.vcode; rw [if_neg (by rw [← hb1']; simp)])
    clear hb1' HC
    by_cases h12 : 12 < nF
    · have hc : Hid (C = 3) := Lib.hid (by rw [hc1.out, if_pos (.inl (by rw [← hnf.out]; exact h12))])
      have h12i : (12 : Int) < (nF : Int) := by omega
      go_wp2_with fail
      go_ret
      exact ⟨ret_int hc.out.symm, hA⟩
    · have h12i : ¬ (12 : Int) < (nF : Int) := by omega
      by_cases h4 : 4 < nS
      · have hc : Hid (C = 3) := Lib.hid (by rw [hc1.out, if_pos (.inr (by rw [← hns.out]; exact h4))])
        have h4i : (4 : Int) < (nS : Int) := by omega
        go_wp2_with fail
        go_ret
        exact ⟨ret_int hc.out.symm, hA⟩
      · have h4i : ¬ (4 : Int) < (nS : Int) := by omega
        have hc2 : Hid (C = if Tm.days 0 F && Tm.spans 0 S then 0 else 1) := Lib.hid (by rw [hc1.out, if_neg (by rw [← hnf.out, ← hns.out]; omega)])
        clear hc1
        go_wp2_with fail
        refine (areDays_any F _ _ _ _ hcl.hF hcl.nf h9).mono ?_
        rintro e w2 ⟨rfl, rfl⟩
        obtain ⟨b2, hb2⟩ : ∃ b, Tm.days 0 F = b := ⟨_, rfl⟩
        rw [hb2] at hc2 ⊢
        clear hb2
        cases b2 with
        | false =>
          have hc : Hid (C = 1) := Lib.hid hc2.out
          go_wp2_with fail
          go_ret
          exact ⟨ret_int hc.out.symm, hA⟩
        | true =>
          go_wp2_with fail
          refine (areSpans_any S _ _ _ _ hcl.hS hcl.ns h8).mono ?_
          rintro e w3 ⟨rfl, hbb⟩
          replace hcl := hcl.below hbb
          replace c0 := keep_cell hbb c0
          replace c1 := keep_cell hbb c1
          replace c2 := keep_cell hbb c2
          replace hA := hA.trans (hbb.mono hA.size)
          clear hbb
          obtain ⟨b3, hb3⟩ : ∃ b, Tm.spans 0 S = b := ⟨_, rfl⟩
          rw [hb3] at hc2 ⊢
          clear hb3
          cases b3 with
          | false =>
            have hc : Hid (C = 1) := Lib.hid hc2.out
            go_wp2_with fail
            go_ret
            exact ⟨ret_int hc.out.symm, hA⟩
          | true =>
            have hc : Hid (C = 0) := Lib.hid hc2.out
            go_wp2_with fail
            go_ret
            exact ⟨ret_int hc.out.symm, hA⟩
namespace Tm
/-- The code where days, then terms are asked for. -/
def dcode (f : Int) (F : List Int) (S : List (Int × Int)) (ds : List Int) : Int := if vcode f F S ≠ 0 then vcode f F S else if upTo 10000 ds then 0 else 1
def tcode (f : Int) (F : List Int) (S : List (Int × Int)) (d : Int) (ts : List Int) : Int := if dcode f F S [d] ≠ 0 then dcode f F S [d] else if upTo 400 ts then 0 else 1
theorem tcode_ok {f d : Int} {F : List Int} {S : List (Int × Int)} {ts : List Int} (h : tcode f F S d ts = 0) : vcode f F S = 0 ∧ (0 ≤ d ∧ d ≤ 10000) ∧ ∀ t ∈ ts, 0 ≤ t ∧ t ≤ 400 := by
  unfold tcode at h
  split at h
  · rename_i h1; exact absurd h h1
  · rename_i h1
    split at h
    · rename_i h2
      have h3 : dcode f F S [d] = 0 := by simpa using h1
      unfold dcode at h3
      split at h3
      · rename_i h4; exact absurd h3 h4
      · rename_i h4
        split at h3
        · rename_i h5
          refine ⟨by simpa using h4, ?_, ?_⟩
          · unfold upTo at h5; simpa using h5
          · unfold upTo at h2
            intro t ht
            have := (List.all_eq_true.1 h2) t ht
            simpa using this
        · cases h3
    · cases h
end Tm

set_option maxRecDepth 100000 in
set_option maxHeartbeats 4000000 in
theorem validateDays_any (f : Int) (F : List Int) (S : List (Int × Int)) (aoF : Option Addr) (nF cF : Nat) (aoS : Option Addr) (nS cS : Nat) (ds : List Int) (ao : Option Addr) (n cap : Nat) (w : World) (hcl : Cl w aoF nF aoS nS F S) (h9 : nF ≤ 100000) (h8 : nS ≤ 100000) (hI : Ints w ao ds) (hn : n = ds.length) (hn9 : n ≤ 100000) :
    Calls Try.prog 55 #[.agg #[.int .i64 f, .slice aoF nF cF, .slice aoS nS cS], .slice ao n cap] w fun e w' => e = .returned (.int .i64 (Tm.dcode f F S ds)) ∧ Below w.heap.size w w' := by
  obtain ⟨C, hC⟩ : ∃ c, c = Tm.dcode f F S ds := ⟨_, rfl⟩
  rw [← hC]
  have HC := Lib.hid hC
  have Hn := Lib.hid hn
  clear hC hn
  have hA := (Below.refl _ w).alloc (Nat.le_refl _) (.cells #[.int .i64 f, .slice aoF nF cF, .slice aoS nS cS] 25)
  have rc := heap_alloc_new w (.cells #[.int .i64 f, .slice aoF nF cF, .slice aoS nS cS] 25)
  replace hcl := hcl.below hA
  replace hI := hI.below hA
  go_enter Try.func55, Try.ntmps55
  go_upto_region 1 with fail
  generalize w.alloc (.cells #[.int .i64 f, .slice aoF nF cF, .slice aoS nS cS] 25) = W0 at hA rc hcl hI ⊢
  obtain ⟨G, hG⟩ : ∃ g, g = w.heap.size := ⟨_, rfl⟩
  rw [← hG] at rc ⊢
  have HG := Lib.hid hG
  clear hG
  have c0 := cell_of_row W0 G 0 _ _ _ rc
  have c1 := cell_of_row W0 G 1 _ _ _ rc
  have c2 := cell_of_row W0 G 2 _ _ _ rc
  simp at c0 c1 c2
  go_wp2_with fail
  refine ((Validate_any f F S _ _ _ _ _ _ W0 hcl h9 h8)).mono ?_
  rintro e w1 ⟨rfl, hbb⟩
  replace hcl := hcl.below hbb
  replace c0 := keep_cell hbb c0
  replace c1 := keep_cell hbb c1
  replace c2 := keep_cell hbb c2
  replace hA := hA.trans (hbb.mono hA.size)
  replace hI := hI.below hbb
  clear hbb
  by_cases hz : Tm.vcode f F S = 0
  · have hc1 : Hid (C = if Tm.upTo 10000 ds then 0 else 1) := Lib.hid (by rw [HC.out]; unfold Tm.dcode; rw [if_neg (by simpa using hz)])
    rw [hz]
    clear HC
    go_wp2_with fail
    refine ((areUpTo_any 10000 ds _ _ _ w1 hI Hn.out hn9)).mono ?_
    rintro e w2 ⟨rfl, hbb⟩
    replace hcl := hcl.below hbb
    replace c0 := keep_cell hbb c0
    replace c1 := keep_cell hbb c1
    replace c2 := keep_cell hbb c2
    replace hA := hA.trans (hbb.mono hA.size)
    replace hI := hI.below hbb
    clear hbb
    obtain ⟨b1, hb1⟩ : ∃ b, Tm.upTo 10000 ds = b := ⟨_, rfl⟩
    rw [hb1] at hc1 ⊢
    clear hb1
    cases b1 with
    | false =>
      have hc : Hid (C = 1) := Lib.hid hc1.out
      go_wp2_with fail
      go_ret
      exact ⟨ret_int hc.out.symm, hA⟩
    | true =>
      have hc : Hid (C = 0) := Lib.hid hc1.out
      go_wp2_with fail
      go_ret
      exact ⟨ret_int hc.out.symm, hA⟩
  · have hc : Hid (C = Tm.vcode f F S) := Lib.hid (by rw [HC.out]; unfold Tm.dcode; rw [if_pos hz])
    have hne : (Tm.vcode f F S != 0) = true := by simp [hz]
    generalize Tm.vcode f F S = D at hz hne hc ⊢
    go_wp2_with fail
    go_ret
    exact ⟨ret_int hc.out.symm, hA⟩

set_option maxRecDepth 100000 in
set_option maxHeartbeats 4000000 in
theorem validateTerms_any (f : Int) (F : List Int) (S : List (Int × Int)) (aoF : Option Addr) (nF cF : Nat) (aoS : Option Addr) (nS cS : Nat) (d : Int) (ts : List Int) (ao : Option Addr) (n cap : Nat) (w : World) (hcl : Cl w aoF nF aoS nS F S) (h9 : nF ≤ 100000) (h8 : nS ≤ 100000) (hI : Ints w ao ts) (hn : n = ts.length) (hn9 : n ≤ 100000) :
    Calls Try.prog 75 #[.agg #[.int .i64 f, .slice aoF nF cF, .slice aoS nS cS], .int .i64 d, .slice ao n cap] w fun e w' => e = .returned (.int .i64 (Tm.tcode f F S d ts)) ∧ Below w.heap.size w w' := by
  obtain ⟨C, hC⟩ : ∃ c, c = Tm.tcode f F S d ts := ⟨_, rfl⟩
  rw [← hC]
  have HC := Lib.hid hC
  have Hn := Lib.hid hn
  clear hC hn
  have hA := (Below.refl _ w).alloc (Nat.le_refl _) (.cells #[.int .i64 f, .slice aoF nF cF, .slice aoS nS cS] 25)
  have rc := heap_alloc_new w (.cells #[.int .i64 f, .slice aoF nF cF, .slice aoS nS cS] 25)
  replace hcl := hcl.below hA
  replace hI := hI.below hA
  go_enter Try.func75, Try.ntmps75
  go_upto_region 1 with fail
  generalize w.alloc (.cells #[.int .i64 f, .slice aoF nF cF, .slice aoS nS cS] 25) = W0 at hA rc hcl hI ⊢
  obtain ⟨G, hG⟩ : ∃ g, g = w.heap.size := ⟨_, rfl⟩
  rw [← hG] at rc ⊢
  have HG := Lib.hid hG
  clear hG
  have c0 := cell_of_row W0 G 0 _ _ _ rc
  have c1 := cell_of_row W0 G 1 _ _ _ rc
  have c2 := cell_of_row W0 G 2 _ _ _ rc
  simp at c0 c1 c2
  go_wp2_with fail
  have hal := (Below.refl W0.heap.size W0).alloc (Nat.le_refl _) (.cells #[.int .i64 d] 3)
  have hX := validateDays_any f F S aoF nF cF aoS nS cS [d] _ 1 1 _ (hcl.below hal) h9 h8 (ints_new1 W0 d) rfl (by omega)
  refine hX.mono ?_
  clear hX
  rintro e w1 ⟨rfl, hbb⟩
  replace hcl := hcl.below hal
  replace c0 := keep_cell hal c0
  replace c1 := keep_cell hal c1
  replace c2 := keep_cell hal c2
  replace hA := hA.trans (hal.mono hA.size)
  replace hI := hI.below hal
  replace hcl := hcl.below hbb
  replace c0 := keep_cell hbb c0
  replace c1 := keep_cell hbb c1
  replace c2 := keep_cell hbb c2
  replace hA := hA.trans (hbb.mono hA.size)
  replace hI := hI.below hbb
  clear hal hbb
  by_cases hz : Tm.dcode f F S [d] = 0
  · have hc1 : Hid (C = if Tm.upTo 400 ts then 0 else 1) := Lib.hid (by rw [HC.out]; unfold Tm.tcode; rw [if_neg (by simpa using hz)])
    rw [hz]
    clear HC
    go_wp2_with fail
    refine ((areUpTo_any 400 ts _ _ _ w1 hI Hn.out hn9)).mono ?_
    rintro e w1 ⟨rfl, hbb⟩
    replace hcl := hcl.below hbb
    replace c0 := keep_cell hbb c0
    replace c1 := keep_cell hbb c1
    replace c2 := keep_cell hbb c2
    replace hA := hA.trans (hbb.mono hA.size)
    replace hI := hI.below hbb
    clear hbb
    obtain ⟨b1, hb1⟩ : ∃ b, Tm.upTo 400 ts = b := ⟨_, rfl⟩
    rw [hb1] at hc1 ⊢
    clear hb1
    cases b1 with
    | false =>
      have hc : Hid (C = 1) := Lib.hid hc1.out
      go_wp2_with fail
      go_ret
      exact ⟨ret_int hc.out.symm, hA⟩
    | true =>
      have hc : Hid (C = 0) := Lib.hid hc1.out
      go_wp2_with fail
      go_ret
      exact ⟨ret_int hc.out.symm, hA⟩
  · have hc : Hid (C = Tm.dcode f F S [d]) := Lib.hid (by rw [HC.out]; unfold Tm.tcode; rw [if_pos hz])
    have hne : (Tm.dcode f F S [d] != 0) = true := by simp [hz]
    generalize Tm.dcode f F S [d] = D at hz hne hc ⊢
    go_wp2_with fail
    go_ret
    exact ⟨ret_int hc.out.symm, hA⟩

set_option maxRecDepth 100000 in
set_option maxHeartbeats 4000000 in
theorem Ends_any (f : Int) (F : List Int) (S : List (Int × Int)) (aoF : Option Addr) (nF cF : Nat) (aoS : Option Addr) (nS cS : Nat) (d t : Int) (w : World) (hcl : Cl w aoF nF aoS nS F S) (h9 : nF ≤ 100000) (h8 : nS ≤ 100000) :
    Calls Try.prog 37 #[.agg #[.int .i64 f, .slice aoF nF cF, .slice aoS nS cS], .int .i64 d, .int .i64 t] w fun e w' => (∃ x : Nat, e = .returned (.tuple #[.int .i64 x, .int .i64 (Tm.tcode f F S d [t])]) ∧ ((Tm.tcode f F S d [t] = 0 ∧ Tm.Ends (Tm.count S) (Tm.work f F) d.toNat t.toNat x ∧ x ≤ 1000000) ∨ (Tm.tcode f F S d [t] ≠ 0 ∧ x = 0))) ∧ Below w.heap.size w w' := by
  obtain ⟨C, hC⟩ : ∃ c, c = Tm.tcode f F S d [t] := ⟨_, rfl⟩
  rw [← hC]
  have HC := Lib.hid hC
  clear hC
  have hA := (Below.refl _ w).alloc (Nat.le_refl _) (.cells #[.int .i64 f, .slice aoF nF cF, .slice aoS nS cS] 25)
  have rc := heap_alloc_new w (.cells #[.int .i64 f, .slice aoF nF cF, .slice aoS nS cS] 25)
  replace hcl := hcl.below hA
  go_enter Try.func37, Try.ntmps37
  go_upto_region 1 with fail
  generalize w.alloc (.cells #[.int .i64 f, .slice aoF nF cF, .slice aoS nS cS] 25) = W0 at hA rc hcl ⊢
  obtain ⟨G, hG⟩ : ∃ g, g = w.heap.size := ⟨_, rfl⟩
  rw [← hG] at rc ⊢
  have HG := Lib.hid hG
  clear hG
  have c0 := cell_of_row W0 G 0 _ _ _ rc
  have c1 := cell_of_row W0 G 1 _ _ _ rc
  have c2 := cell_of_row W0 G 2 _ _ _ rc
  simp at c0 c1 c2
  go_wp2_with fail
  have hal := (Below.refl W0.heap.size W0).alloc (Nat.le_refl _) (.cells #[.int .i64 t] 3)
  have hX := validateTerms_any f F S aoF nF cF aoS nS cS d [t] _ 1 1 _ (hcl.below hal) h9 h8 (ints_new1 W0 t) rfl (by omega)
  rw [← HC.out] at hX
  refine hX.mono ?_
  clear hX
  rintro e w1 ⟨rfl, hbb⟩
  replace hcl := hcl.below hal
  replace c0 := keep_cell hal c0
  replace c1 := keep_cell hal c1
  replace c2 := keep_cell hal c2
  replace hA := hA.trans (hal.mono hA.size)
  replace hcl := hcl.below hbb
  replace c0 := keep_cell hbb c0
  replace c1 := keep_cell hbb c1
  replace c2 := keep_cell hbb c2
  replace hA := hA.trans (hbb.mono hA.size)
  clear hal hbb
  by_cases hz : C = 0
  · obtain ⟨hv, hd, hts⟩ := Tm.tcode_ok (HC.out.symm.trans hz)
    have ht := hts t (by simp)
    obtain ⟨hok, -, -⟩ := Tm.vcode_ok hv
    have HZ := Lib.hid hz
    obtain ⟨d0, rfl⟩ := Int.eq_ofNat_of_zero_le hd.1
    obtain ⟨t0, rfl⟩ := Int.eq_ofNat_of_zero_le ht.1
    have hE := ends_any 10000 d0 t0 f F S aoF nF cF aoS nS cS w1 hcl h9 h8 hok (by omega) (by omega) (by omega)
    rw [hz]
    clear hz hv hts hok
    go_wp2_with fail
    refine hE.mono ?_
    rintro e w2 ⟨⟨x, rfl, hx, hxb⟩, hbb⟩
    replace hcl := hcl.below hbb
    replace c0 := keep_cell hbb c0
    replace c1 := keep_cell hbb c1
    replace c2 := keep_cell hbb c2
    replace hA := hA.trans (hbb.mono hA.size)
    clear hbb hE
    have HX := Lib.hid hx
    clear hx
    go_wp2_with fail
    go_ret2
    rw [HZ.out]
    exact ⟨⟨x, rfl, .inl ⟨rfl, by rw [Int.toNat_natCast, Int.toNat_natCast]; exact HX.out, hxb⟩⟩, hA⟩
  · have hne : (C != 0) = true := by simp [hz]
    go_wp2_with fail
    go_ret2
    exact ⟨⟨0, rfl, .inr ⟨hz, rfl⟩⟩, hA⟩
end Go.Proofs.Ytmdkdkiejcjmaaa
