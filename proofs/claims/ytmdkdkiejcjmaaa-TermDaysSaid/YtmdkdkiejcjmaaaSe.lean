import Derived.Test.YtmdkdkiejcjmaaaSb
import Derived.Test.YtmdkdkiejcjmaaaTr
import Derived.Test.YtmdkdkiejcjmaaaRd
/- The law TermDays. -/
namespace Go.Proofs.Ytmdkdkiejcjmaaa
open Go.Joins Go.Deep Go.ChangeShapes Go.WideShapes Go.ChangeAt Go.RowKit

set_option maxRecDepth 100000 in
set_option maxHeartbeats 8000000 in
theorem termDays_any (f : Int) (F : List Int) (S : List (Int × Int)) (aoF : Option Addr) (nF cF : Nat) (aoS : Option Addr) (nS cS : Nat) (d : Int) (w : World) (hcl : Cl w aoF nF aoS nS F S) :
    Calls Try.prog 3 #[.agg #[.int .i64 f, .slice aoF nF cF, .slice aoS nS cS], .int .i64 d] w fun e w' => e = .returned (.bool true) ∧ Below w.heap.size w w' := by
  have hA := (Below.refl _ w).alloc (Nat.le_refl _) (.cells #[.int .i64 f, .slice aoF nF cF, .slice aoS nS cS] 25)
  have rc := heap_alloc_new w (.cells #[.int .i64 f, .slice aoF nF cF, .slice aoS nS cS] 25)
  replace hcl := hcl.below hA
  go_enter Try.func3, Try.ntmps3
  go_upto_region 1 with fail
  generalize w.alloc (.cells #[.int .i64 f, .slice aoF nF cF, .slice aoS nS cS] 25) = W0 at hA rc hcl ⊢
  obtain ⟨G, hG⟩ : ∃ g, g = w.heap.size := ⟨_, rfl⟩
  rw [← hG] at rc ⊢
  have HG := Lib.hid hG
  clear hG
  have c0 := cell_of_row W0 G 0 _ _ _ rc
  have c1 := cell_of_row W0 G 1 _ _ _ rc
  have c2 := cell_of_row W0 G 2 _ _ _ rc
  simp at c0 c1 c2
  clear rc
  go_wp2_with fail
  refine ((tlong_any f F S aoF nF cF aoS nS cS W0)).mono ?_
  rintro e w1 ⟨rfl, hbb⟩
  replace hcl := hcl.below hbb
  replace c0 := keep_cell hbb c0
  replace c1 := keep_cell hbb c1
  replace c2 := keep_cell hbb c2
  replace hA := hA.trans (hbb.mono hA.size)
  clear hbb
  obtain ⟨B, hB⟩ : ∃ t, (decide (100 < nF) || decide (100 < nS)) = t := ⟨_, rfl⟩
  rw [hB]
  cases B with
  | true =>
    clear hB
    go_wp2_with fail
    refine (tknown_any w1).mono ?_
    rintro e w9 ⟨rfl, hbb⟩
    go_wp2_with fail
    go_ret
    exact ⟨rfl, hA.trans (hbb.mono hA.size)⟩
  | false =>
    rw [Bool.or_eq_false_iff, decide_eq_false_iff_not, decide_eq_false_iff_not] at hB
    obtain ⟨h9a, h8a⟩ := hB
    have h9 : nF ≤ 100000 := by omega
    have h8 : nS ≤ 100000 := by omega
    clear h9a h8a
    obtain ⟨C, hC⟩ : ∃ c, c = Tm.dcode f F S [d] := ⟨_, rfl⟩
    have HC := Lib.hid hC
    clear hC
    obtain ⟨V, hV⟩ : ∃ c, c = Tm.dwk f F S d := ⟨_, rfl⟩
    have HV := Lib.hid hV
    clear hV
    obtain ⟨X, hX⟩ : ∃ c, c = Tm.dfree f F S d := ⟨_, rfl⟩
    have HX := Lib.hid hX
    clear hX
    obtain ⟨U, hU⟩ : ∃ c, c = Tm.dstill f F S d := ⟨_, rfl⟩
    have HU := Lib.hid hU
    clear hU
    obtain ⟨K, hK⟩ : ∃ c, c = Tm.vcode f F S := ⟨_, rfl⟩
    have HK := Lib.hid hK
    clear hK
    have hX := Week_any f F S aoF nF cF aoS nS cS d w1 hcl h9 h8
    rw [← HC.out, ← HV.out] at hX
    go_wp2_with fail
    refine hX.mono ?_
    clear hX
    rintro e w2 ⟨rfl, hbb⟩
    replace hcl := hcl.below hbb
    replace c0 := keep_cell hbb c0
    replace c1 := keep_cell hbb c1
    replace c2 := keep_cell hbb c2
    replace hA := hA.trans (hbb.mono hA.size)
    clear hbb
    have hX := refWeek_any f F S aoF nF cF aoS nS cS d w2 hcl h9 h8
    rw [← HC.out, ← HV.out] at hX
    go_wp2_with fail
    refine hX.mono ?_
    clear hX
    rintro e w3 ⟨rfl, hbb⟩
    replace hcl := hcl.below hbb
    replace c0 := keep_cell hbb c0
    replace c1 := keep_cell hbb c1
    replace c2 := keep_cell hbb c2
    replace hA := hA.trans (hbb.mono hA.size)
    clear hbb
    have hX := IsFree_any f F S aoF nF cF aoS nS cS d w3 hcl h9 h8
    rw [← HC.out, ← HX.out] at hX
    go_wp2_with fail
    refine hX.mono ?_
    clear hX
    rintro e w4 ⟨rfl, hbb⟩
    replace hcl := hcl.below hbb
    replace c0 := keep_cell hbb c0
    replace c1 := keep_cell hbb c1
    replace c2 := keep_cell hbb c2
    replace hA := hA.trans (hbb.mono hA.size)
    clear hbb
    have hX := refIsFree_any f F S aoF nF cF aoS nS cS d w4 hcl h9 h8
    rw [← HC.out, ← HX.out] at hX
    go_wp2_with fail
    refine hX.mono ?_
    clear hX
    rintro e w5 ⟨rfl, hbb⟩
    replace hcl := hcl.below hbb
    replace c0 := keep_cell hbb c0
    replace c1 := keep_cell hbb c1
    replace c2 := keep_cell hbb c2
    replace hA := hA.trans (hbb.mono hA.size)
    clear hbb
    have hX := IsStill_any f F S aoF nF cF aoS nS cS d w5 hcl h9 h8
    rw [← HC.out, ← HU.out] at hX
    go_wp2_with fail
    refine hX.mono ?_
    clear hX
    rintro e w6 ⟨rfl, hbb⟩
    replace hcl := hcl.below hbb
    replace c0 := keep_cell hbb c0
    replace c1 := keep_cell hbb c1
    replace c2 := keep_cell hbb c2
    replace hA := hA.trans (hbb.mono hA.size)
    clear hbb
    have hX := refIsStill_any f F S aoF nF cF aoS nS cS d w6 hcl h9 h8
    rw [← HC.out, ← HU.out] at hX
    go_wp2_with fail
    refine hX.mono ?_
    clear hX
    rintro e w7 ⟨rfl, hbb⟩
    replace hcl := hcl.below hbb
    replace c0 := keep_cell hbb c0
    replace c1 := keep_cell hbb c1
    replace c2 := keep_cell hbb c2
    replace hA := hA.trans (hbb.mono hA.size)
    clear hbb
    cases X <;> cases U
    all_goals
      have HX1 := fun w' (hb : Below w7.heap.size w7 w') => Validate_any f F S aoF nF cF aoS nS cS w' (hcl.below hb) h9 h8
      have HX2 := fun w' (hb : Below w7.heap.size w7 w') => rValidate_any f F S aoF nF cF aoS nS cS w' (hcl.below hb) h9 h8
      rw [← HK.out] at HX1 HX2
      have hdr : Below w7.heap.size w7 w7.drew := below_drewN (Below.refl w7.heap.size w7) 1
      have h1 := HX1 _ hdr
      have H1 := Lib.hid h1
      have H2 := Lib.hid HX2
      clear HX1 HX2 h1
      go_upto_region 60 with fail
      go_region_held3 (fun w' => w'.cell? ⟨G, 0, none⟩ = some (.int .i64 f) ∧ w'.cell? ⟨G, 1, none⟩ = some (.slice aoF nF cF) ∧ w'.cell? ⟨G, 2, none⟩ = some (.slice aoS nS cS))
        (first | exact ⟨keep_cell hdr c0, keep_cell hdr c1, keep_cell hdr c2⟩ | exact kc | exact kb | exact ka)
        (first
          | (go_at_call 25; refine H1.out.mono ?_; rintro e q1 ⟨rfl, hq1⟩; have hb1 := hdr.trans (hq1.mono hdr.size); have ka := And.intro (keep_cell hb1 c0) (And.intro (keep_cell hb1 c1) (keep_cell hb1 c2)))
          | (go_at_call 26; refine (H2.out _ hb1).mono ?_; rintro e q2 ⟨rfl, hq2⟩; have hb2 := hb1.trans (hq2.mono hb1.size); have kb := And.intro (keep_cell hb2 c0) (And.intro (keep_cell hb2 c1) (keep_cell hb2 c2)))
          | (go_at_call 18; refine (tknown_any _).mono ?_; rintro e q3 ⟨rfl, hq3⟩; have hb3 := hb2.trans (hq3.mono hb2.size); have kc := And.intro (keep_cell hb3 c0) (And.intro (keep_cell hb3 c1) (keep_cell hb3 c2))))
      all_goals
        have hA5 := hA.trans (hb3.mono hA.size)
        clear ka kb kc
        go_wp2_with fail
        go_ret
        exact ⟨rfl, hA5⟩
end Go.Proofs.Ytmdkdkiejcjmaaa
