import Derived.Test.YtnllhhamebmlnaaVeq
import Derived.Test.YtnllhhamebmlnaaRtl
namespace Go.Proofs.Ytnllhhamebmlnaa
open Go.RowKit

theorem twiceOf_eq (l : List (Int × Int)) : rtwiceOf l = twiceOf l := by
  unfold rtwiceOf twiceOf
  rw [validate_eq]
  by_cases h : rvalidate l = 0
  · rw [if_pos h, if_pos h, Geo.area_fan l (rvalidate_len h).1]
    unfold absI
    split <;> omega
  · rw [if_neg h, if_neg h]
theorem turnsOf_eq (l : List (Int × Int)) : rturnsOf l = turnsOf l := by
  unfold rturnsOf turnsOf
  rw [validate_eq]
  by_cases h : rvalidate l = 0
  · rw [if_pos h, if_pos h, Geo.area_fan l (rvalidate_len h).1]
  · rw [if_neg h, if_neg h]

set_option maxRecDepth 100000 in
set_option maxHeartbeats 1000000 in
theorem plotAreas_any (l : List (Int × Int)) (ao : Option Addr) (n cap : Nat) (w : World) (hp : Pts w ao l) (hln : n = l.length) (hcap : n ≤ cap) :
    Calls Try.prog 3 #[.slice ao n cap] w fun e w' => e = .returned (.bool true) ∧ Below w.heap.size w w' := by
  have Hn := Lib.hid hln
  clear hln
  go_enter Try.func3, Try.ntmps3
  go_wp2_with fail
  refine (long_any ao n cap w).mono ?_
  rintro e w' ⟨rfl, rfl⟩
  by_cases hl : 40 < n
  · rw [show decide (40 < n) = true from decide_eq_true hl]
    go_wp2_with fail
    refine (known_any w).mono ?_
    rintro e w1 ⟨rfl, hb⟩
    go_wp2
    go_ret
    exact ⟨rfl, hb⟩
  · rw [show decide (40 < n) = false from decide_eq_false hl]
    have hn2 : n ≤ 100000 := by omega
    go_wp2_with fail
    refine (twice_any l ao n cap _ hp Hn.out hn2 hcap).mono ?_
    rintro e w1 ⟨rfl, hb1⟩
    have hp1 := hp.below hb1
    go_wp2_with fail
    refine (rtwiceOf_any l ao n cap _ hp1 Hn.out hn2).mono ?_
    rintro e w2 ⟨rfl, hb2⟩
    have hp2 := hp1.below hb2
    have hb2 := hb1.trans (hb2.mono hb1.size)
    go_wp2_with fail
    refine (turns_any l ao n cap _ hp2 Hn.out hn2 hcap).mono ?_
    rintro e w3 ⟨rfl, hb3⟩
    have hp3 := hp2.below hb3
    have hb3 := hb2.trans (hb3.mono hb2.size)
    go_wp2_with fail
    refine (rturnsOf_any l ao n cap _ hp3 Hn.out hn2).mono ?_
    rintro e w4 ⟨rfl, hb4⟩
    have hp4 := hp3.below hb4
    have hb4 := hb3.trans (hb4.mono hb3.size)
    rw [twiceOf_eq, turnsOf_eq, ← validate_eq]
    clear hp hb1 hp1 hb2 hp2 hb3 hp3
    go_wp2_with fail
    refine (validate_any l ao n cap _ hp4 Hn.out hn2 hcap).mono ?_
    rintro e w5 ⟨rfl, hb5⟩
    have hp5 := hp4.below hb5
    have hb5 := hb4.trans (hb5.mono hb4.size)
    go_wp2_with fail
    refine (rvalidate_any l ao n cap _ hp5 Hn.out hn2).mono ?_
    rintro e w6 ⟨rfl, hb6⟩
    have hb6 := hb5.trans (hb6.mono hb5.size)
    rw [← validate_eq]
    clear hp4 hb4 hp5 hb5
    go_wp2_with fail
    refine (known_any _).mono ?_
    rintro e w7 ⟨rfl, hb7⟩
    have hb7 := hb6.trans (hb7.mono hb6.size)
    go_wp2
    go_ret
    exact ⟨rfl, hb7⟩
end Go.Proofs.Ytnllhhamebmlnaa
