import Derived.Test.YtnllhhamebmlnaaMth
import Derived.Test.YtnllhhamebmlnaaKnw
namespace Go.Proofs.Ytnllhhamebmlnaa
open Go.RowKit

theorem pb_step {w0 W w' : World} {ao : Option Addr} {l : List (Int × Int)} {N : Nat} (h : Pts W ao l ∧ Below N w0 W ∧ N ≤ W.heap.size) (hb : Below W.heap.size W w') : Pts w' ao l ∧ Below N w0 w' ∧ N ≤ w'.heap.size :=
  ⟨h.1.below hb, h.2.1.trans (hb.mono h.2.2), Nat.le_trans h.2.2 hb.size⟩
theorem pts_drew {w : World} {ao : Option Addr} {l : List (Int × Int)} (h : Pts w ao l) : Pts w.drew ao l := h.below (below_drewN (Below.refl _ _) 1)

theorem rvalidate_len {l : List (Int × Int)} (h : rvalidate l = 0) : 3 ≤ l.length ∧ l.length ≤ 10 := by
  unfold rvalidate at h
  by_cases ho : l.length < 3 ∨ 10 < l.length
  · rw [if_pos ho] at h; cases h
  · omega
theorem rvalidate_sm {l : List (Int × Int)} (h : rvalidate l = 0) : Geo.AllSm l := by
  have hl := rvalidate_len h
  unfold rvalidate at h
  rw [if_neg (by omega)] at h
  cases hc : (l.all fun p => Geo.within p.1 p.2 30) with
  | false => rw [hc] at h; cases h
  | true => exact allSm_of hc (by omega)
def rtwiceOf (l : List (Int × Int)) : Int := if rvalidate l = 0 then max (fan l) (-(fan l)) else 0
def rturnsOf (l : List (Int × Int)) : Bool := if rvalidate l = 0 then decide (0 < fan l) else false
theorem fan_bound {l : List (Int × Int)} (h : Geo.AllSm l) (hl : l.length ≤ 10) : -1280000000 ≤ fan l ∧ fan l ≤ 1280000000 := by
  have p3 := Geo.sumOf_bound (fanOf_bound h) (List.range (l.length - 2))
  rw [List.length_range] at p3
  unfold fan
  obtain ⟨p3, p4⟩ := p3
  constructor <;> omega

set_option maxRecDepth 100000 in
set_option maxHeartbeats 1000000 in
theorem rtwiceOf_any (l : List (Int × Int)) (ao : Option Addr) (n cap : Nat) (w : World) (hp : Pts w ao l) (hln : n = l.length) (hn : n ≤ 100000) :
    Calls Try.prog 18 #[.slice ao n cap] w fun e w' => e = .returned (.tuple #[.int .i64 (rtwiceOf l), .int .i64 (rvalidate l)]) ∧ Below w.heap.size w w' := by
  have Hn := Lib.hid hln
  clear hln
  obtain ⟨c, hc⟩ : ∃ c, c = rvalidate l := ⟨_, rfl⟩
  have Hc := Lib.hid hc
  have hc0 : c = 0 ∨ (c != 0) = true := by by_cases h : c = 0 <;> simp [h]
  clear hc
  go_enter Try.func18, Try.ntmps18
  go_wp2_with fail
  refine (rvalidate_any l ao n cap _ hp Hn.out hn).mono ?_
  rintro e w1 ⟨rfl, hb1⟩
  rw [← Hc.out]
  have hp1 := hp.below hb1
  rcases hc0 with rfl | hc0
  · have hlen := rvalidate_len Hc.out.symm
    have hS := rvalidate_sm Hc.out.symm
    have hbd := fan_bound hS hlen.2
    have Hlen := Lib.hid hlen
    clear hlen
    have Hval : Hid (rtwiceOf l = max (fan l) (-(fan l))) := Lib.hid (by unfold rtwiceOf; rw [if_pos Hc.out.symm])
    obtain ⟨f, hf⟩ : ∃ f, f = fan l := ⟨_, rfl⟩
    rw [← hf] at hbd
    have e1 : IntKind.i64.wrap (-f) = -f := IntWalk.i64_in _ (by omega)
    have Hf := Lib.hid hf
    clear hf
    go_wp2_with fail
    go_wp2_with (first | (go_at_call 57; refine (rtwice_any l _ _ _ _ (by assumption) Hn.out (by have := Hn.out; have := Hlen.out; omega) (by have := Hn.out; have := Hlen.out; omega) hS).mono ?_; rintro e w' ⟨rfl, hb'⟩; rw [← Hf.out]; have hp1 := hp1.below hb'; have hb1 := hb1.trans (hb'.mono hb1.size)))
    all_goals
      go_ret2
      refine ⟨?_, hb1⟩
      rw [Hval.out, ← Hc.out, ← Hf.out]
      first | rfl | (rw [show max f (-f) = f by omega]; rfl) | (rw [show max f (-f) = -f by omega]; rfl)
  · have Hval : Hid (rtwiceOf l = 0) := Lib.hid (by unfold rtwiceOf; rw [if_neg (by rw [← Hc.out]; intro h; rw [h] at hc0; cases hc0)])
    go_wp2
    go_ret2
    refine ⟨?_, hb1⟩
    rw [Hval.out, ← Hc.out]
    rfl
set_option maxRecDepth 100000 in
set_option maxHeartbeats 1000000 in
theorem rturnsOf_any (l : List (Int × Int)) (ao : Option Addr) (n cap : Nat) (w : World) (hp : Pts w ao l) (hln : n = l.length) (hn : n ≤ 100000) :
    Calls Try.prog 20 #[.slice ao n cap] w fun e w' => e = .returned (.tuple #[.bool (rturnsOf l), .int .i64 (rvalidate l)]) ∧ Below w.heap.size w w' := by
  have Hn := Lib.hid hln
  clear hln
  obtain ⟨c, hc⟩ : ∃ c, c = rvalidate l := ⟨_, rfl⟩
  have Hc := Lib.hid hc
  have hc0 : c = 0 ∨ (c != 0) = true := by by_cases h : c = 0 <;> simp [h]
  clear hc
  go_enter Try.func20, Try.ntmps20
  go_wp2_with fail
  refine (rvalidate_any l ao n cap _ hp Hn.out hn).mono ?_
  rintro e w1 ⟨rfl, hb1⟩
  rw [← Hc.out]
  have hp1 := hp.below hb1
  rcases hc0 with rfl | hc0
  · have hlen := rvalidate_len Hc.out.symm
    have hS := rvalidate_sm Hc.out.symm
    have hbd := fan_bound hS hlen.2
    have Hlen := Lib.hid hlen
    clear hlen
    have Hval : Hid (rturnsOf l = decide (0 < fan l)) := Lib.hid (by unfold rturnsOf; rw [if_pos Hc.out.symm])
    obtain ⟨f, hf⟩ : ∃ f, f = fan l := ⟨_, rfl⟩
    rw [← hf] at hbd
    have Hf := Lib.hid hf
    clear hf
    go_wp2_with fail
    go_wp2_with (first | (go_at_call 57; refine (rtwice_any l _ _ _ _ (by assumption) Hn.out (by have := Hn.out; have := Hlen.out; omega) (by have := Hn.out; have := Hlen.out; omega) hS).mono ?_; rintro e w' ⟨rfl, hb'⟩; rw [← Hf.out]; have hp1 := hp1.below hb'; have hb1 := hb1.trans (hb'.mono hb1.size)))
    go_ret2
    refine ⟨?_, hb1⟩
    rw [Hval.out, ← Hc.out, ← Hf.out]
    rfl
  · have Hval : Hid (rturnsOf l = false) := Lib.hid (by unfold rturnsOf; rw [if_neg (by rw [← Hc.out]; intro h; rw [h] at hc0; cases hc0)])
    go_wp2
    go_ret2
    refine ⟨?_, hb1⟩
    rw [Hval.out, ← Hc.out]
    rfl

theorem long_any (ao : Option Addr) (n cap : Nat) (w : World) :
    Calls Try.prog 15 #[.slice ao n cap] w fun e w' => e = .returned (.bool (decide (40 < n))) ∧ w = w' := by
  have hc : (n : Int) > 40 ∨ ¬ (n : Int) > 40 := by omega
  go_enter Try.func15, Try.ntmps15
  go_wp2
  go_ret
  refine ⟨ret_bool ?_, rfl⟩
  rw [Bool.eq_iff_iff]
  simp
  try omega
end Go.Proofs.Ytnllhhamebmlnaa
