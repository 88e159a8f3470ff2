import Derived.Test.YtnllhhamebmlnaaOnb
import Derived.Deep.RegionWith
namespace Go.Proofs.Ytnllhhamebmlnaa
open Go.RowKit

attribute [local go_sem ↓] loadAt_ring

/-- What each of these answers: the value of a plot, nothing beside an error. -/
def twiceOf (l : List (Int × Int)) : Int := if validate l = 0 then absI (Geo.area l) else 0
def turnsOf (l : List (Int × Int)) : Bool := if validate l = 0 then decide (0 < Geo.area l) else false
def borderOf (l : List (Int × Int)) : Int := if validate l = 0 then borderSum l else 0
def insideOf (l : List (Int × Int)) : Int := if validate l = 0 then (absI (Geo.area l) - borderSum l + 2).tdiv 2 else 0

theorem absI_bound {x : Int} {n : Int} (h1 : -n ≤ x) (h2 : x ≤ n) : 0 ≤ absI x ∧ absI x ≤ n := by unfold absI; split <;> omega
theorem border_bound {l : List (Int × Int)} (h : Geo.AllSm l) (h10 : l.length ≤ 10) : -80000 ≤ borderSum l ∧ borderSum l ≤ 80000 := by
  have := Geo.sumOf_bound (stepOf_bound h) (List.range l.length)
  unfold borderSum
  rw [List.length_range] at this
  omega
theorem half_bound {x : Int} (h1 : -1000000000 ≤ x) (h2 : x ≤ 1000000000) : -9223372036854775808 ≤ x.tdiv 2 ∧ x.tdiv 2 ≤ 9223372036854775807 := by
  have h := Int.natAbs_tdiv x 2
  have h3 : (x.tdiv 2).natAbs ≤ 1000000000 := by
    rw [h]
    exact Nat.le_trans (Nat.div_le_self _ _) (by omega)
  generalize x.tdiv 2 = b at h3
  omega
theorem readRow_info (l : List (Int × Int)) : (Try.prog.info? 51).map (·.size) = some (readRow l).size := by rw [Try.infoRing, readRow_size]

theorem twiceOf_ok {l : List (Int × Int)} (h : validate l = 0) : twiceOf l = absI (Geo.area l) := by unfold twiceOf; rw [if_pos h]
theorem twiceOf_no {l : List (Int × Int)} (h : validate l ≠ 0) : twiceOf l = 0 := by unfold twiceOf; rw [if_neg h]

set_option maxRecDepth 100000 in
set_option maxHeartbeats 2000000 in
theorem twice_any (l : List (Int × Int)) (ao : Option Addr) (n cap : Nat) (w : World) (hp : Pts w ao l) (hln : n = l.length) (hn : n ≤ 100000) (hcap : n ≤ cap) :
    Calls Try.prog 17 #[.slice ao n cap] w fun e w' => e = .returned (.tuple #[.int .i64 (twiceOf l), .int .i64 (validate l)]) ∧ Below w.heap.size w w' := by
  have Hn := Lib.hid hln
  clear hln
  have Hsz := Lib.hid (readRow_info l)
  obtain ⟨c, hc⟩ : ∃ c, c = validate l := ⟨_, rfl⟩
  have Hc := Lib.hid hc
  have hc0 : c = 0 ∨ (c == 0) = false ∧ (c != 0) = true := by by_cases h : c = 0 <;> simp [h]
  clear hc
  go_enter Try.func17, Try.ntmps17
  go_wp2_with fail
  refine (read_any l ao n cap _ hp Hn.out hn hcap).mono ?_
  rintro e w1 ⟨rfl, hb1⟩
  rw [← Hc.out]
  have HZ := Lib.hid (heap_alloc_new w1 (.cells (z21 0) 51))
  rcases hc0 with rfl | ⟨hc0, hc1⟩
  · have hX := isRing_read Hc.out.symm
    have hlen := validate_len Hc.out.symm
    have hS := allSm_of (validate_sm Hc.out.symm) (by omega)
    obtain ⟨hA1, hA2⟩ := area_bound hS hlen.2
    have Hlen := Lib.hid hlen
    have Hval := Lib.hid (twiceOf_ok Hc.out.symm)
    clear hlen
    go_wp2_with (refine wpList_store_row_b rfl _ _ _ rfl _ (readRow l) rfl rfl _ _ HZ.out Hsz.out (by rw [readRow_size]; rfl) (readRow_one l) ?_; intro w4 hw4 hb4 hs4; have Hw4 := Lib.hid hw4; have hl4 := run_loadRing hw4 hX.size; clear hw4; have Hb := Lib.hid (And.intro hb4 hs4); clear hb4 hs4)
    go_wp2_with (first | (go_at_call 56; refine (area_any _ l _ hX (by have := Hlen.out; omega) Hlen.out.2 hS).mono ?_; rintro e w5 ⟨rfl, hb5⟩; have hb5 := hb5) | (go_at_call 55; refine (absolute_any _ _ (by omega) (by omega)).mono ?_; rintro e w6 ⟨rfl, rfl⟩))
    go_ret2
    refine ⟨?_, hb1.trans ((((Below.refl _ _).alloc (Nat.le_refl _) _).trans (Hb.out.1.trans (hb5.mono (by rw [Hb.out.2]; simp)))).mono hb1.size)⟩
    rw [Hval.out, ← Hc.out]
    rfl
  · have Hval := Lib.hid (twiceOf_no (l := l) (by rw [← Hc.out]; intro h; rw [h] at hc0; cases hc0))
    go_wp2_with (refine wpList_store_row_b rfl _ _ _ rfl _ (readRow l) rfl rfl _ _ HZ.out Hsz.out (by rw [readRow_size]; rfl) (readRow_one l) ?_; intro w4 hw4 hb4 hs4; clear hw4; have Hb := Lib.hid (And.intro hb4 hs4); clear hb4 hs4)
    go_ret2
    refine ⟨?_, hb1.trans ((((Below.refl _ _).alloc (Nat.le_refl _) _).trans Hb.out.1).mono hb1.size)⟩
    rw [Hval.out, ← Hc.out]
    rfl

theorem turnsOf_ok {l : List (Int × Int)} (h : validate l = 0) : turnsOf l = decide (0 < Geo.area l) := by unfold turnsOf; rw [if_pos h]
theorem turnsOf_no {l : List (Int × Int)} (h : validate l ≠ 0) : turnsOf l = false := by unfold turnsOf; rw [if_neg h]

set_option maxRecDepth 100000 in
set_option maxHeartbeats 2000000 in
theorem turns_any (l : List (Int × Int)) (ao : Option Addr) (n cap : Nat) (w : World) (hp : Pts w ao l) (hln : n = l.length) (hn : n ≤ 100000) (hcap : n ≤ cap) :
    Calls Try.prog 19 #[.slice ao n cap] w fun e w' => e = .returned (.tuple #[.bool (turnsOf l), .int .i64 (validate l)]) ∧ Below w.heap.size w w' := by
  have Hn := Lib.hid hln
  clear hln
  have Hsz := Lib.hid (readRow_info l)
  obtain ⟨c, hc⟩ : ∃ c, c = validate l := ⟨_, rfl⟩
  have Hc := Lib.hid hc
  have hc0 : c = 0 ∨ (c == 0) = false ∧ (c != 0) = true := by by_cases h : c = 0 <;> simp [h]
  clear hc
  go_enter Try.func19, Try.ntmps19
  go_wp2_with fail
  refine (read_any l ao n cap _ hp Hn.out hn hcap).mono ?_
  rintro e w1 ⟨rfl, hb1⟩
  rw [← Hc.out]
  have HZ := Lib.hid (heap_alloc_new w1 (.cells (z21 0) 51))
  rcases hc0 with rfl | ⟨hc0, hc1⟩
  · have hX := isRing_read Hc.out.symm
    have hlen := validate_len Hc.out.symm
    have hS := allSm_of (validate_sm Hc.out.symm) (by omega)
    obtain ⟨hA1, hA2⟩ := area_bound hS hlen.2
    have Hlen := Lib.hid hlen
    have Hval := Lib.hid (turnsOf_ok Hc.out.symm)
    clear hlen
    go_wp2_with (refine wpList_store_row_b rfl _ _ _ rfl _ (readRow l) rfl rfl _ _ HZ.out Hsz.out (by rw [readRow_size]; rfl) (readRow_one l) ?_; intro w4 hw4 hb4 hs4; have Hw4 := Lib.hid hw4; have hl4 := run_loadRing hw4 hX.size; clear hw4; have Hb := Lib.hid (And.intro hb4 hs4); clear hb4 hs4)
    go_wp2_with (first | (go_at_call 56; refine (area_any _ l _ hX (by have := Hlen.out; omega) Hlen.out.2 hS).mono ?_; rintro e w5 ⟨rfl, hb5⟩; have hb5 := hb5))
    go_ret2
    refine ⟨?_, hb1.trans ((((Below.refl _ _).alloc (Nat.le_refl _) _).trans (Hb.out.1.trans (hb5.mono (by rw [Hb.out.2]; simp)))).mono hb1.size)⟩
    rw [Hval.out, ← Hc.out]
    rfl
  · have Hval := Lib.hid (turnsOf_no (l := l) (by rw [← Hc.out]; intro h; rw [h] at hc0; cases hc0))
    go_wp2_with (refine wpList_store_row_b rfl _ _ _ rfl _ (readRow l) rfl rfl _ _ HZ.out Hsz.out (by rw [readRow_size]; rfl) (readRow_one l) ?_; intro w4 hw4 hb4 hs4; clear hw4; have Hb := Lib.hid (And.intro hb4 hs4); clear hb4 hs4)
    go_ret2
    refine ⟨?_, hb1.trans ((((Below.refl _ _).alloc (Nat.le_refl _) _).trans Hb.out.1).mono hb1.size)⟩
    rw [Hval.out, ← Hc.out]
    rfl

theorem borderOf_ok {l : List (Int × Int)} (h : validate l = 0) : borderOf l = borderSum l := by unfold borderOf; rw [if_pos h]
theorem borderOf_no {l : List (Int × Int)} (h : validate l ≠ 0) : borderOf l = 0 := by unfold borderOf; rw [if_neg h]

set_option maxRecDepth 100000 in
set_option maxHeartbeats 2000000 in
theorem border_any (l : List (Int × Int)) (ao : Option Addr) (n cap : Nat) (w : World) (hp : Pts w ao l) (hln : n = l.length) (hn : n ≤ 100000) (hcap : n ≤ cap) :
    Calls Try.prog 25 #[.slice ao n cap] w fun e w' => e = .returned (.tuple #[.int .i64 (borderOf l), .int .i64 (validate l)]) ∧ Below w.heap.size w w' := by
  have Hn := Lib.hid hln
  clear hln
  have Hsz := Lib.hid (readRow_info l)
  obtain ⟨c, hc⟩ : ∃ c, c = validate l := ⟨_, rfl⟩
  have Hc := Lib.hid hc
  have hc0 : c = 0 ∨ (c == 0) = false ∧ (c != 0) = true := by by_cases h : c = 0 <;> simp [h]
  clear hc
  go_enter Try.func25, Try.ntmps25
  go_wp2_with fail
  refine (read_any l ao n cap _ hp Hn.out hn hcap).mono ?_
  rintro e w1 ⟨rfl, hb1⟩
  rw [← Hc.out]
  have HZ := Lib.hid (heap_alloc_new w1 (.cells (z21 0) 51))
  rcases hc0 with rfl | ⟨hc0, hc1⟩
  · have hX := isRing_read Hc.out.symm
    have hlen := validate_len Hc.out.symm
    have hS := allSm_of (validate_sm Hc.out.symm) (by omega)
    obtain ⟨hA1, hA2⟩ := area_bound hS hlen.2
    have Hlen := Lib.hid hlen
    have Hval := Lib.hid (borderOf_ok Hc.out.symm)
    clear hlen
    go_wp2_with (refine wpList_store_row_b rfl _ _ _ rfl _ (readRow l) rfl rfl _ _ HZ.out Hsz.out (by rw [readRow_size]; rfl) (readRow_one l) ?_; intro w4 hw4 hb4 hs4; have Hw4 := Lib.hid hw4; have hl4 := run_loadRing hw4 hX.size; clear hw4; have Hb := Lib.hid (And.intro hb4 hs4); clear hb4 hs4)
    go_wp2_with (first | (go_at_call 69; refine (onBorder_any _ l _ hX (by have := Hlen.out; omega) Hlen.out.2 hS).mono ?_; rintro e w5 ⟨rfl, hb5⟩))
    go_ret2
    refine ⟨?_, hb1.trans ((((Below.refl _ _).alloc (Nat.le_refl _) _).trans (Hb.out.1.trans (hb5.mono (by rw [Hb.out.2]; simp)))).mono hb1.size)⟩
    rw [Hval.out, ← Hc.out]
    rfl
  · have Hval := Lib.hid (borderOf_no (l := l) (by rw [← Hc.out]; intro h; rw [h] at hc0; cases hc0))
    go_wp2_with (refine wpList_store_row_b rfl _ _ _ rfl _ (readRow l) rfl rfl _ _ HZ.out Hsz.out (by rw [readRow_size]; rfl) (readRow_one l) ?_; intro w4 hw4 hb4 hs4; clear hw4; have Hb := Lib.hid (And.intro hb4 hs4); clear hb4 hs4)
    go_ret2
    refine ⟨?_, hb1.trans ((((Below.refl _ _).alloc (Nat.le_refl _) _).trans Hb.out.1).mono hb1.size)⟩
    rw [Hval.out, ← Hc.out]
    rfl

theorem insideOf_ok {l : List (Int × Int)} (h : validate l = 0) : insideOf l = (absI (Geo.area l) - borderSum l + 2).tdiv 2 := by unfold insideOf; rw [if_pos h]
theorem insideOf_no {l : List (Int × Int)} (h : validate l ≠ 0) : insideOf l = 0 := by unfold insideOf; rw [if_neg h]

set_option maxRecDepth 100000 in
set_option maxHeartbeats 2000000 in
theorem inside_any (l : List (Int × Int)) (ao : Option Addr) (n cap : Nat) (w : World) (hp : Pts w ao l) (hln : n = l.length) (hn : n ≤ 100000) (hcap : n ≤ cap) :
    Calls Try.prog 27 #[.slice ao n cap] w fun e w' => e = .returned (.tuple #[.int .i64 (insideOf l), .int .i64 (validate l)]) ∧ Below w.heap.size w w' := by
  have Hn := Lib.hid hln
  clear hln
  have Hsz := Lib.hid (readRow_info l)
  obtain ⟨c, hc⟩ : ∃ c, c = validate l := ⟨_, rfl⟩
  have Hc := Lib.hid hc
  have hc0 : c = 0 ∨ (c == 0) = false ∧ (c != 0) = true := by by_cases h : c = 0 <;> simp [h]
  clear hc
  go_enter Try.func27, Try.ntmps27
  go_wp2_with fail
  refine (read_any l ao n cap _ hp Hn.out hn hcap).mono ?_
  rintro e w1 ⟨rfl, hb1⟩
  rw [← Hc.out]
  have HZ := Lib.hid (heap_alloc_new w1 (.cells (z21 0) 51))
  rcases hc0 with rfl | ⟨hc0, hc1⟩
  · have hX := isRing_read Hc.out.symm
    have hlen := validate_len Hc.out.symm
    have hS := allSm_of (validate_sm Hc.out.symm) (by omega)
    obtain ⟨hA1, hA2⟩ := area_bound hS hlen.2
    have Hlen := Lib.hid hlen
    have Hval := Lib.hid (insideOf_ok Hc.out.symm)
    clear hlen
    go_wp2_with (refine wpList_store_row_b rfl _ _ _ rfl _ (readRow l) rfl rfl _ _ HZ.out Hsz.out (by rw [readRow_size]; rfl) (readRow_one l) ?_; intro w4 hw4 hb4 hs4; have Hw4 := Lib.hid hw4; have hl4 := run_loadRing hw4 hX.size; clear hw4; have Hb := Lib.hid (And.intro hb4 hs4); clear hb4 hs4)
    obtain ⟨hB1, hB2⟩ := border_bound hS Hlen.out.2
    obtain ⟨hA3, hA4⟩ := absI_bound hA1 hA2
    have e1 : IntKind.i64.wrap (absI (Geo.area l) - borderSum l) = absI (Geo.area l) - borderSum l := IntWalk.i64_in _ (by omega)
    have e2 : IntKind.i64.wrap (absI (Geo.area l) - borderSum l + 2) = absI (Geo.area l) - borderSum l + 2 := IntWalk.i64_in _ (by omega)
    have hl5 := run_loadRing (w := w4.drew) Hw4.out hX.size
    go_wp2
    go_region_with (first | (go_at_call 56; refine (area_any _ l _ hX (by have := Hlen.out; omega) Hlen.out.2 hS).mono ?_; rintro e w5 ⟨rfl, hb5⟩; have hl6 := run_loadRing ((hb5.block _ (show w1.heap.size < w4.drew.heap.size by show w1.heap.size < w4.heap.size; rw [Hb.out.2]; simp)).trans Hw4.out) hX.size) | (go_at_call 55; refine (absolute_any _ _ (by omega) (by omega)).mono ?_; rintro e w6 ⟨rfl, rfl⟩) | (go_at_call 69; refine (onBorder_any _ l _ hX (by have := Hlen.out; omega) Hlen.out.2 hS).mono ?_; rintro e w7 ⟨rfl, hb7⟩))
    all_goals
      have hsz4 : w4.heap.size = w1.heap.size + 1 := by rw [Hb.out.2]; simp
      have a1 : Below w1.heap.size w1 w4 := ((Below.refl _ _).alloc (Nat.le_refl _) _).trans Hb.out.1
      have a2 : Below w1.heap.size w1 w5 := a1.drew.trans (hb5.mono (by show w1.heap.size ≤ w4.heap.size; omega))
      have a3 : Below w1.heap.size w1 w7 := a2.trans (hb7.mono a2.size)
      have Ha := Lib.hid (And.intro hsz4 (And.intro a1 (And.intro a2 a3)))
      clear hsz4 a1 a2 a3
      go_wp2
      go_ret2
      refine ⟨?_, hb1.trans (Ha.out.2.2.2.mono hb1.size)⟩
      rw [Hval.out, ← Hc.out]
      show Ending.returned (.tuple #[.int .i64 (IntKind.i64.wrap ((absI (Geo.area l) - borderSum l + 2).tdiv 2)), .int .i64 0]) = _
      rw [IntWalk.i64_in _ (half_bound (by omega) (by omega))]
  · have Hval := Lib.hid (insideOf_no (l := l) (by rw [← Hc.out]; intro h; rw [h] at hc0; cases hc0))
    go_wp2_with (refine wpList_store_row_b rfl _ _ _ rfl _ (readRow l) rfl rfl _ _ HZ.out Hsz.out (by rw [readRow_size]; rfl) (readRow_one l) ?_; intro w4 hw4 hb4 hs4; clear hw4; have Hb := Lib.hid (And.intro hb4 hs4); clear hb4 hs4)
    go_ret2
    refine ⟨?_, hb1.trans ((((Below.refl _ _).alloc (Nat.le_refl _) _).trans Hb.out.1).mono hb1.size)⟩
    rw [Hval.out, ← Hc.out]
    rfl
end Go.Proofs.Ytnllhhamebmlnaa
