import Derived.Test.YtcciglcihigdhaaTr
/- The law TermGrows. -/
namespace Go.Proofs.Ytcciglcihigdhaa
open Go.Joins Go.Deep Go.ChangeShapes Go.WideShapes Go.ChangeAt Go.RowKit

set_option maxRecDepth 100000 in
set_option maxHeartbeats 8000000 in
theorem termGrows_any (f : Int) (F : List Int) (S : List (Int × Int)) (aoF : Option Addr) (nF cF : Nat) (aoS : Option Addr) (nS cS : Nat) (a b a2 b2 : Int) (w : World) (hcl : Cl w aoF nF aoS nS F S) :
    Calls Try.prog 9 #[.agg #[.int .i64 f, .slice aoF nF cF, .slice aoS nS cS], .agg #[.int .i64 a, .int .i64 b], .agg #[.int .i64 a2, .int .i64 b2]] w fun e w' => e = .returned (.bool true) ∧ Below w.heap.size w w' := by
  have hA := below_alloc3 w (.cells #[.int .i64 f, .slice aoF nF cF, .slice aoS nS cS] 25) (.cells #[.int .i64 a, .int .i64 b] 38) (.cells #[.int .i64 a2, .int .i64 b2] 38)
  obtain ⟨rc, rx, ry⟩ := heap3 w (.cells #[.int .i64 f, .slice aoF nF cF, .slice aoS nS cS] 25) (.cells #[.int .i64 a, .int .i64 b] 38) (.cells #[.int .i64 a2, .int .i64 b2] 38)
  go_enter Try.func9, Try.ntmps9
  go_upto_region 1 with fail
  generalize ((w.alloc (.cells #[.int .i64 f, .slice aoF nF cF, .slice aoS nS cS] 25)).alloc (.cells #[.int .i64 a, .int .i64 b] 38)).alloc (.cells #[.int .i64 a2, .int .i64 b2] 38) = W0 at hA rc rx ry ⊢
  obtain ⟨G, hG⟩ : ∃ g, g = w.heap.size := ⟨_, rfl⟩
  rw [← hG] at rc rx ry ⊢
  have HG := Lib.hid hG
  clear hG
  replace hcl := hcl.below hA
  have c0 := cell_of_row W0 G 0 _ _ _ rc
  have c1 := cell_of_row W0 G 1 _ _ _ rc
  have c2 := cell_of_row W0 G 2 _ _ _ rc
  simp at c0 c1 c2
  obtain ⟨⟨d0, d1⟩, -, -⟩ := row_fr rx
  obtain ⟨⟨e0, e1⟩, -, -⟩ := row_fr ry
  clear rc rx ry
  go_wp2_with fail
  refine ((tlong_any f F S aoF nF cF aoS nS cS W0)).mono ?_
  rintro e w1 ⟨rfl, hbb⟩
  replace hcl := hcl.below hbb
  replace hA := hA.trans (hbb.mono hA.size)
  replace c0 := keep_cell hbb c0
  replace c1 := keep_cell hbb c1
  replace c2 := keep_cell hbb c2
  replace d0 := keep_cell hbb d0
  replace d1 := keep_cell hbb d1
  replace e0 := keep_cell hbb e0
  replace e1 := keep_cell hbb e1
  clear hbb
  obtain ⟨B, hB⟩ : ∃ t, (decide (100 < nF) || decide (100 < nS)) = t := ⟨_, rfl⟩
  rw [hB]
  cases B with
  | true =>
    clear hB
    go_wp2_with fail
    refine (tknown_any w1).mono ?_
    rintro e w4 ⟨rfl, hbb⟩
    go_wp2_with fail
    go_ret
    exact ⟨rfl, hA.trans (hbb.mono hA.size)⟩
  | false =>
    rw [Bool.or_eq_false_iff, decide_eq_false_iff_not, decide_eq_false_iff_not] at hB
    obtain ⟨h9, h8⟩ := hB
    have hX := Ends_any f F S aoF nF cF aoS nS cS a b w1 hcl (by omega) (by omega)
    obtain ⟨C1, hC1⟩ : ∃ c, c = Tm.tcode f F S a [b] := ⟨_, rfl⟩
    rw [← hC1] at hX
    have HC1 := Lib.hid hC1
    clear hC1
    go_wp2_with fail
    refine hX.mono ?_
    clear hX
    rintro e w2 ⟨⟨x, rfl, hx⟩, hbb⟩
    have HX := Lib.hid hx
    replace hcl := hcl.below hbb
    replace hA := hA.trans (hbb.mono hA.size)
    replace c0 := keep_cell hbb c0
    replace c1 := keep_cell hbb c1
    replace c2 := keep_cell hbb c2
    replace d0 := keep_cell hbb d0
    replace d1 := keep_cell hbb d1
    replace e0 := keep_cell hbb e0
    replace e1 := keep_cell hbb e1
    clear hbb hx
    have hX := Ends_any f F S aoF nF cF aoS nS cS a2 b2 w2 hcl (by omega) (by omega)
    obtain ⟨C2, hC2⟩ : ∃ c, c = Tm.tcode f F S a2 [b2] := ⟨_, rfl⟩
    rw [← hC2] at hX
    have HC2 := Lib.hid hC2
    clear hC2
    go_wp2_with fail
    refine hX.mono ?_
    clear hX
    rintro e w3 ⟨⟨y, rfl, hy⟩, hbb⟩
    have HY := Lib.hid hy
    replace hcl := hcl.below hbb
    replace hA := hA.trans (hbb.mono hA.size)
    replace c0 := keep_cell hbb c0
    replace c1 := keep_cell hbb c1
    replace c2 := keep_cell hbb c2
    replace d0 := keep_cell hbb d0
    replace d1 := keep_cell hbb d1
    replace e0 := keep_cell hbb e0
    replace e1 := keep_cell hbb e1
    clear hbb hy h9 h8
    by_cases hz1 : C1 = 0
    · by_cases hz2 : C2 = 0
      · have E1 : Tm.Ends (Tm.count S) (Tm.work f F) a.toNat b.toNat x := by
          rcases HX.out with h | h
          · exact h.2.1
          · exact absurd hz1 h.1
        have E2 : Tm.Ends (Tm.count S) (Tm.work f F) a2.toNat b2.toNat y := by
          rcases HY.out with h | h
          · exact h.2.1
          · exact absurd hz2 h.1
        have m1 := Lib.hid (fun (h : a ≤ a2 ∧ b ≤ b2) => Tm.Ends.mono (Int.toNat_le_toNat h.1) (Int.toNat_le_toNat h.2) E1 E2)
        have m2 := Lib.hid (fun (h : a2 ≤ a ∧ b2 ≤ b) => Tm.Ends.mono (Int.toNat_le_toNat h.1) (Int.toNat_le_toNat h.2) E2 E1)
        subst hz1
        subst hz2
        clear HX HY HC1 HC2 E1 E2 hcl
        by_cases h1 : a2 < a
        · have h1' : ¬ a < a2 := by omega
          by_cases h2 : b < b2
          · go_wp2_with fail
            refine (tknown_any w3).mono ?_
            rintro e w4 ⟨rfl, hbb⟩
            go_wp2_with fail
            go_ret
            exact ⟨rfl, hA.trans (hbb.mono hA.size)⟩
          · have h3 : (y : Int) ≤ (x : Int) := by have := m2.out ⟨by omega, by omega⟩; omega
            go_wp2_with fail
            refine (tknown_any w3).mono ?_
            rintro e w4 ⟨rfl, hbb⟩
            go_wp2_with fail
            go_ret
            exact ⟨rfl, hA.trans (hbb.mono hA.size)⟩
        · by_cases h1b : b2 < b
          · by_cases h2 : a < a2
            · go_wp2_with fail
              refine (tknown_any w3).mono ?_
              rintro e w4 ⟨rfl, hbb⟩
              go_wp2_with fail
              go_ret
              exact ⟨rfl, hA.trans (hbb.mono hA.size)⟩
            · have h2b : ¬ b < b2 := by omega
              have h3 : (y : Int) ≤ (x : Int) := by have := m2.out ⟨by omega, by omega⟩; omega
              go_wp2_with fail
              refine (tknown_any w3).mono ?_
              rintro e w4 ⟨rfl, hbb⟩
              go_wp2_with fail
              go_ret
              exact ⟨rfl, hA.trans (hbb.mono hA.size)⟩
          · have h4 : (x : Int) ≤ (y : Int) := by have := m1.out ⟨by omega, by omega⟩; omega
            by_cases h2 : a < a2
            · go_wp2_with fail
              refine (tknown_any w3).mono ?_
              rintro e w4 ⟨rfl, hbb⟩
              go_wp2_with fail
              go_ret
              exact ⟨rfl, hA.trans (hbb.mono hA.size)⟩
            · by_cases h3 : b < b2
              · go_wp2_with fail
                refine (tknown_any w3).mono ?_
                rintro e w4 ⟨rfl, hbb⟩
                go_wp2_with fail
                go_ret
                exact ⟨rfl, hA.trans (hbb.mono hA.size)⟩
              · have h5 : (y : Int) ≤ (x : Int) := by have := m2.out ⟨by omega, by omega⟩; omega
                go_wp2_with fail
                refine (tknown_any w3).mono ?_
                rintro e w4 ⟨rfl, hbb⟩
                go_wp2_with fail
                go_ret
                exact ⟨rfl, hA.trans (hbb.mono hA.size)⟩
      · have hne : (C2 != 0) = true := by simp [hz2]
        subst hz1
        go_wp2_with fail
        refine (tknown_any w3).mono ?_
        rintro e w4 ⟨rfl, hbb⟩
        go_wp2_with fail
        go_ret
        exact ⟨rfl, hA.trans (hbb.mono hA.size)⟩
    · have hne : (C1 != 0) = true := by simp [hz1]
      go_wp2_with fail
      refine (tknown_any w3).mono ?_
      rintro e w4 ⟨rfl, hbb⟩
      go_wp2_with fail
      go_ret
      exact ⟨rfl, hA.trans (hbb.mono hA.size)⟩
end Go.Proofs.Ytcciglcihigdhaa
