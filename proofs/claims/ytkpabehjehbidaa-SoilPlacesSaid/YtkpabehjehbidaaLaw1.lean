import Derived.Test.YtkpabehjehbidaaRl
import Derived.Test.YtkpabehjehbidaaKno
namespace Go.Proofs.Ytkpabehjehbidaa
open Go.RowKit

set_option maxHeartbeats 400000 in
theorem long_any (n m cap cap2 : Nat) (ao ao2 : Option Addr) (w : World) :
    Calls Try.prog 15 #[.slice ao n cap, .slice ao2 m cap2] w fun e w' => e = .returned (.bool (decide (100 < n) || decide (100 < m))) ∧ w = w' := by
  go_enter Try.func15, Try.ntmps15
  go_wp2
  all_goals
    go_ret
    refine ⟨ret_bool ?_, rfl⟩
    rw [Bool.eq_iff_iff]
    simp
    omega

theorem frOr_pair (c : Int) (q : Rat) : ∃ a b : Int, frOr c q = .agg #[.int .i64 a, .int .i64 b] := by
  unfold frOr; split
  · exact ⟨_, _, rfl⟩
  · exact ⟨_, _, rfl⟩

set_option maxRecDepth 100000 in
set_option maxHeartbeats 2000000 in
theorem soilFields_any (l : List (Int × Int)) (ao : Option Addr) (n cap : Nat) (w : World) (hp : Pts w ao l) (hln : n = l.length) :
    Calls Try.prog 3 #[.slice ao n cap] w fun e w' => e = .returned (.bool true) ∧ Below w.heap.size w w' := by
  have Hn := Lib.hid hln
  clear hln
  by_cases hlong : 100 < n
  · have hd : (decide (100 < n) || decide (100 < 0)) = true := by simp [hlong]
    go_enter Try.func3, Try.ntmps3
    go_wp2_with fail
    refine (long_any n 0 cap 0 ao none _).mono ?_
    rintro e w1 ⟨rfl, rfl⟩
    rw [hd]
    go_wp2_with fail
    refine (known_any _).mono ?_
    rintro e w1 ⟨rfl, hb⟩
    go_wp2
    go_ret
    exact ⟨rfl, hb⟩
  · have hd : (decide (100 < n) || decide (100 < 0)) = false := by simp; omega
    have hn : n ≤ 100000 := by omega
    clear hlong
    have hB := Below.refl w.heap.size w
    obtain ⟨a, b, hab⟩ := frOr_pair (Fl.validate l) ((Fl.tot l : Rat) / (Fl.len l : Rat))
    have Hab := Lib.hid hab
    clear hab
    obtain ⟨L, hL⟩ : ∃ L, (if Fl.validate l = 0 then Fl.len l else 0) = L := ⟨_, rfl⟩
    obtain ⟨T, hT⟩ : ∃ L, (if Fl.validate l = 0 then Fl.tot l else 0) = L := ⟨_, rfl⟩
    obtain ⟨C, hC⟩ : ∃ L, Fl.validate l = L := ⟨_, rfl⟩
    have HL := Lib.hid hL
    have HT := Lib.hid hT
    have HC := Lib.hid hC
    clear hL hT hC
    go_enter Try.func3, Try.ntmps3
    go_wp2_with fail
    refine (long_any n 0 cap 0 ao none _).mono ?_
    rintro e w1 ⟨rfl, rfl⟩
    rw [hd]
    clear hd
    go_wp2_with fail
    refine (Length_any l _ _ _ _ hp Hn.out hn).mono ?_
    rintro e w1 ⟨rfl, hbb⟩
    replace hp := hp.below hbb
    replace hB := hB.trans (hbb.mono hB.size)
    clear hbb
    rw [HL.out, HC.out]
    go_wp2_with fail
    refine (rLength_any l _ _ _ _ hp Hn.out hn).mono ?_
    rintro e w2 ⟨rfl, hbb⟩
    replace hp := hp.below hbb
    replace hB := hB.trans (hbb.mono hB.size)
    clear hbb
    rw [HL.out, HC.out]
    go_wp2_with fail
    refine (Total_any l _ _ _ _ hp Hn.out hn).mono ?_
    rintro e w3 ⟨rfl, hbb⟩
    replace hp := hp.below hbb
    replace hB := hB.trans (hbb.mono hB.size)
    clear hbb
    rw [HT.out, HC.out]
    go_wp2_with fail
    refine (rTotal_any l _ _ _ _ hp Hn.out hn).mono ?_
    rintro e w4 ⟨rfl, hbb⟩
    replace hp := hp.below hbb
    replace hB := hB.trans (hbb.mono hB.size)
    clear hbb
    rw [HT.out, HC.out]
    go_wp2_with fail
    refine (Mean_any l _ _ _ _ hp Hn.out hn).mono ?_
    rintro e w5 ⟨rfl, hbb⟩
    replace hp := hp.below hbb
    replace hB := hB.trans (hbb.mono hB.size)
    clear hbb
    rw [Hab.out, HC.out]
    have hA := (Below.refl _ w5).alloc (Nat.le_refl _) (.cells #[.int .i64 a, .int .i64 b] 29)
    have r1 := heap_alloc_new w5 (.cells #[.int .i64 a, .int .i64 b] 29)
    replace hp := hp.below hA
    replace hB := hB.trans (hA.mono hB.size)
    clear hA
    go_wp2_with fail
    refine (rMean_any l _ _ _ _ hp Hn.out hn).mono ?_
    rintro e w6 ⟨rfl, hbb⟩
    replace hp := hp.below hbb
    replace r1 := heap_keep hbb r1
    replace hB := hB.trans (hbb.mono hB.size)
    clear hbb
    rw [Hab.out, HC.out]
    have hA := (Below.refl _ w6).alloc (Nat.le_refl _) (.cells #[.int .i64 a, .int .i64 b] 29)
    have r2 := heap_alloc_new w6 (.cells #[.int .i64 a, .int .i64 b] 29)
    replace hp := hp.below hA
    replace r1 := heap_keep hA r1
    replace hB := hB.trans (hA.mono hB.size)
    clear hA
    go_wp2_with fail
    refine (validate_any l _ _ _ _ hp Hn.out hn).mono ?_
    rintro e w7 ⟨rfl, hbb⟩
    replace hp := hp.below hbb
    replace r1 := heap_keep hbb r1
    replace r2 := heap_keep hbb r2
    replace hB := hB.trans (hbb.mono hB.size)
    clear hbb
    rw [HC.out]
    obtain ⟨⟨c0, c1⟩, -, -⟩ := row_fr r1
    obtain ⟨⟨c2, c3⟩, -, -⟩ := row_fr r2
    have q1 := run_eq_rt a b a b
    simp only [decide_true] at q1
    go_wp2_with fail
    refine (rvalidate_any l _ _ _ _ hp Hn.out hn).mono ?_
    rintro e w9 ⟨rfl, hw9⟩
    rw [HC.out]
    subst hw9
    go_wp2_with fail
    refine (known_any _).mono ?_
    rintro e w10 ⟨rfl, hb⟩
    go_wp2
    go_ret
    exact ⟨rfl, hB.trans (hb.mono hB.size)⟩
end Go.Proofs.Ytkpabehjehbidaa
