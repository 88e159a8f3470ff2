import Derived.Test.YtcciglcihigdhaaRd
import Derived.Test.YtcciglcihigdhaaTr
/- The law TermCounts. -/
namespace Go.Proofs.Ytcciglcihigdhaa
open Go.Joins Go.Deep Go.ChangeShapes Go.WideShapes Go.ChangeAt Go.RowKit

set_option maxRecDepth 100000 in
set_option maxHeartbeats 8000000 in
theorem termCounts_any (f : Int) (F : List Int) (S : List (Int × Int)) (aoF : Option Addr) (nF cF : Nat) (aoS : Option Addr) (nS cS : Nat) (a b : Int) (w : World) (hcl : Cl w aoF nF aoS nS F S) :
    Calls Try.prog 5 #[.agg #[.int .i64 f, .slice aoF nF cF, .slice aoS nS cS], .agg #[.int .i64 a, .int .i64 b]] w fun e w' => e = .returned (.bool true) ∧ Below w.heap.size w w' := by
  have hA := below_alloc2 w (.cells #[.int .i64 f, .slice aoF nF cF, .slice aoS nS cS] 25) (.cells #[.int .i64 a, .int .i64 b] 38)
  have rc := heap_alloc2_old w (.cells #[.int .i64 f, .slice aoF nF cF, .slice aoS nS cS] 25) (.cells #[.int .i64 a, .int .i64 b] 38)
  have rx := heap_alloc2_new w (.cells #[.int .i64 f, .slice aoF nF cF, .slice aoS nS cS] 25) (.cells #[.int .i64 a, .int .i64 b] 38)
  go_enter Try.func5, Try.ntmps5
  go_upto_region 1 with fail
  generalize (w.alloc (.cells #[.int .i64 f, .slice aoF nF cF, .slice aoS nS cS] 25)).alloc (.cells #[.int .i64 a, .int .i64 b] 38) = W0 at hA rc rx ⊢
  obtain ⟨G, hG⟩ : ∃ g, g = w.heap.size := ⟨_, rfl⟩
  rw [← hG] at rc rx ⊢
  have HG := Lib.hid hG
  clear hG
  replace hcl := hcl.below hA
  have c0 := cell_of_row W0 G 0 _ _ _ rc
  have c1 := cell_of_row W0 G 1 _ _ _ rc
  have c2 := cell_of_row W0 G 2 _ _ _ rc
  simp at c0 c1 c2
  obtain ⟨⟨d0, d1⟩, -, -⟩ := row_fr rx
  clear rc rx
  go_wp2_with fail
  refine ((tlong_any f F S aoF nF cF aoS nS cS W0)).mono ?_
  rintro e w1 ⟨rfl, hbb⟩
  replace hcl := hcl.below hbb
  replace hA := hA.trans (hbb.mono hA.size)
  replace c0 := keep_cell hbb c0
  replace c1 := keep_cell hbb c1
  replace c2 := keep_cell hbb c2
  replace d0 := keep_cell hbb d0
  replace d1 := keep_cell hbb d1
  clear hbb
  obtain ⟨B, hB⟩ : ∃ t, (decide (100 < nF) || decide (100 < nS)) = t := ⟨_, rfl⟩
  rw [hB]
  cases B with
  | true =>
    clear hB
    go_wp2_with fail
    refine (tknown_any w1).mono ?_
    rintro e w9 ⟨rfl, hbb⟩
    go_wp2_with fail
    go_ret
    exact ⟨rfl, hA.trans (hbb.mono hA.size)⟩
  | false =>
    rw [Bool.or_eq_false_iff, decide_eq_false_iff_not, decide_eq_false_iff_not] at hB
    obtain ⟨h9, h8⟩ := hB
    obtain ⟨C, hC⟩ : ∃ c, c = Tm.rcode f F S a b := ⟨_, rfl⟩
    obtain ⟨V, hV⟩ : ∃ c, c = Tm.nval f F S (Tm.work f F) a b := ⟨_, rfl⟩
    obtain ⟨U, hU⟩ : ∃ c, c = Tm.nval f F S (Tm.count S) a b := ⟨_, rfl⟩
    have HC := Lib.hid hC
    have HV := Lib.hid hV
    have HU := Lib.hid hU
    clear hC hV hU
    have hX := Work_any f F S aoF nF cF aoS nS cS a b w1 hcl (by omega) (by omega)
    rw [← HC.out, ← HV.out] at hX
    go_wp2_with fail
    refine hX.mono ?_
    clear hX
    rintro e w2 ⟨rfl, hbb⟩
    replace hcl := hcl.below hbb
    replace hA := hA.trans (hbb.mono hA.size)
    replace c0 := keep_cell hbb c0
    replace c1 := keep_cell hbb c1
    replace c2 := keep_cell hbb c2
    replace d0 := keep_cell hbb d0
    replace d1 := keep_cell hbb d1
    clear hbb
    have hX := refWork_any f F S aoF nF cF aoS nS cS a b w2 hcl (by omega) (by omega)
    rw [← HC.out, ← HV.out] at hX
    go_wp2_with fail
    refine hX.mono ?_
    clear hX
    rintro e w3 ⟨rfl, hbb⟩
    replace hcl := hcl.below hbb
    replace hA := hA.trans (hbb.mono hA.size)
    replace c0 := keep_cell hbb c0
    replace c1 := keep_cell hbb c1
    replace c2 := keep_cell hbb c2
    replace d0 := keep_cell hbb d0
    replace d1 := keep_cell hbb d1
    clear hbb
    have hX := Counting_any f F S aoF nF cF aoS nS cS a b w3 hcl (by omega) (by omega)
    rw [← HC.out, ← HU.out] at hX
    go_wp2_with fail
    refine hX.mono ?_
    clear hX
    rintro e w4 ⟨rfl, hbb⟩
    replace hcl := hcl.below hbb
    replace hA := hA.trans (hbb.mono hA.size)
    replace c0 := keep_cell hbb c0
    replace c1 := keep_cell hbb c1
    replace c2 := keep_cell hbb c2
    replace d0 := keep_cell hbb d0
    replace d1 := keep_cell hbb d1
    clear hbb
    have hX := refCounting_any f F S aoF nF cF aoS nS cS a b w4 hcl (by omega) (by omega)
    rw [← HC.out, ← HU.out] at hX
    go_wp2_with fail
    refine hX.mono ?_
    clear hX
    rintro e w5 ⟨rfl, hbb⟩
    replace hcl := hcl.below hbb
    replace hA := hA.trans (hbb.mono hA.size)
    replace c0 := keep_cell hbb c0
    replace c1 := keep_cell hbb c1
    replace c2 := keep_cell hbb c2
    replace d0 := keep_cell hbb d0
    replace d1 := keep_cell hbb d1
    clear hbb
    go_wp2_with fail
    refine (tknown_any w5).mono ?_
    rintro e w9 ⟨rfl, hbb⟩
    go_wp2_with fail
    go_ret
    exact ⟨rfl, hA.trans (hbb.mono hA.size)⟩
end Go.Proofs.Ytcciglcihigdhaa
