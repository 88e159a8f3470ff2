import Derived.Test.YtnllhhamebmlnaaRows
import Derived.Test.YtnllhhamebmlnaaGeo
import Derived.Test.YtnllhhamebmlnaaWp
import Derived.WalkKit
import Derived.WalkSpells
import Derived.WalkLawsBesides
import Derived.Lib.Hide
namespace Go.Proofs.Ytnllhhamebmlnaa
open Go.RowKit

set_option maxHeartbeats 400000 in
theorem turn_any (ax ay bx b_y cx cy : Int) (w : World) (h1 : Geo.Sm ax) (h2 : Geo.Sm ay) (h3 : Geo.Sm bx) (h4 : Geo.Sm b_y) (h5 : Geo.Sm cx) (h6 : Geo.Sm cy) :
    Calls Try.prog 101 #[.agg #[.int .i64 ax, .int .i64 ay], .agg #[.int .i64 bx, .int .i64 b_y], .agg #[.int .i64 cx, .int .i64 cy]] w fun e w' =>
      e = .returned (.int .i64 (Geo.turn ax ay bx b_y cx cy)) ∧ Below w.heap.size w w' := by
  have H := Lib.hid (Geo.turn_bound h1 h2 h3 h4 h5 h6)
  unfold Geo.Sm at *
  go_enter Try.func101, Try.ntmps101
  go_wp2
  go_ret
  obtain ⟨⟨a, b⟩, c, d⟩ := H.out
  refine ⟨ret_int ?_, ?_⟩
  · show wrap64 (wrap64 ((bx - ax) * (cy - ay)) - wrap64 ((b_y - ay) * (cx - ax))) = _
    rw [IntWalk.wrap64_in ((bx - ax) * (cy - ay)) ⟨by omega, by omega⟩, IntWalk.wrap64_in ((b_y - ay) * (cx - ax)) ⟨by omega, by omega⟩, IntWalk.wrap64_in _ ⟨by omega, by omega⟩]
    rfl
  · exact (((Below.refl _ _).alloc (Nat.le_refl _) _).alloc (by simp) _).alloc (by simp; omega) _

set_option maxHeartbeats 400000 in
theorem rturn_any (ax ay bx b_y cx cy : Int) (w : World) (h1 : Geo.Sm ax) (h2 : Geo.Sm ay) (h3 : Geo.Sm bx) (h4 : Geo.Sm b_y) (h5 : Geo.Sm cx) (h6 : Geo.Sm cy) :
    Calls Try.prog 73 #[.agg #[.int .i64 ax, .int .i64 ay], .agg #[.int .i64 bx, .int .i64 b_y], .agg #[.int .i64 cx, .int .i64 cy]] w fun e w' =>
      e = .returned (.int .i64 (Geo.turn ax ay bx b_y cx cy)) ∧ Below w.heap.size w w' := by
  have H := Lib.hid (Geo.turn_bound h1 h2 h3 h4 h5 h6)
  unfold Geo.Sm at *
  go_enter Try.func73, Try.ntmps73
  go_wp2
  go_ret
  obtain ⟨⟨a, b⟩, c, d⟩ := H.out
  refine ⟨ret_int ?_, ?_⟩
  · show wrap64 (wrap64 ((bx - ax) * (cy - ay)) - wrap64 ((b_y - ay) * (cx - ax))) = _
    rw [IntWalk.wrap64_in ((bx - ax) * (cy - ay)) ⟨by omega, by omega⟩, IntWalk.wrap64_in ((b_y - ay) * (cx - ax)) ⟨by omega, by omega⟩, IntWalk.wrap64_in _ ⟨by omega, by omega⟩]
    rfl
  · exact (((Below.refl _ _).alloc (Nat.le_refl _) _).alloc (by simp) _).alloc (by simp; omega) _

set_option maxHeartbeats 400000 in
theorem between_any (a x b : Int) (w : World) :
    Calls Try.prog 117 #[.int .i64 a, .int .i64 x, .int .i64 b] w fun e w' => e = .returned (.bool (Geo.btw a x b)) ∧ w = w' := by
  by_cases h : min a b ≤ x
  all_goals
    go_enter Try.func117, Try.ntmps117
    go_wp2
    all_goals
      go_ret
      refine ⟨ret_bool ?_, rfl⟩
      unfold Geo.btw
      rw [Bool.eq_iff_iff]
      simp
      omega

theorem has_no {ax ay bx b_y x y : Int} (h : ¬ Geo.turn ax ay bx b_y x y = 0) : Geo.has ax ay bx b_y x y = false := by
  unfold Geo.has; simp [h]
theorem has_no2 {ax ay bx b_y x y : Int} (h : Geo.btw ax x bx = false) : Geo.has ax ay bx b_y x y = false := by
  unfold Geo.has; simp [h]
theorem has_yes {ax ay bx b_y x y : Int} (h : Geo.turn ax ay bx b_y x y = 0) (h2 : Geo.btw ax x bx = true) : Geo.has ax ay bx b_y x y = Geo.btw ay y b_y := by
  unfold Geo.has; simp [h, h2]

set_option maxHeartbeats 400000 in
theorem has_any (ax ay bx b_y x y : Int) (w : World) (h1 : Geo.Sm ax) (h2 : Geo.Sm ay) (h3 : Geo.Sm bx) (h4 : Geo.Sm b_y) (h5 : Geo.Sm x) (h6 : Geo.Sm y) :
    Calls Try.prog 100 #[.agg #[.int .i64 ax, .int .i64 ay, .int .i64 bx, .int .i64 b_y], .agg #[.int .i64 x, .int .i64 y]] w fun e w' =>
      e = .returned (.bool (Geo.has ax ay bx b_y x y)) ∧ Below w.heap.size w w' := by
  go_enter Try.func100, Try.ntmps100
  go_wp2_with fail
  refine (turn_any _ _ _ _ _ _ _ h1 h2 h3 h4 h5 h6).mono ?_
  rintro e w1 ⟨rfl, hb⟩
  obtain ⟨hc, hf⟩ := bcell hb
  go_wp2_with (first | (go_at_call 117; refine (between_any _ _ _ _).mono ?_; rintro e w' ⟨rfl, rfl⟩))
  all_goals
    clear hc hf
    go_ret
    refine ⟨ret_bool ?_, ((((Below.refl _ _).alloc (Nat.le_refl _) _).alloc (by simp) _).trans (hb.mono (by simp; omega)))⟩
    unfold Geo.has
    simp [*]

def lineV (ax ay bx b_y : Int) : Value := .agg #[.int .i64 ax, .int .i64 ay, .int .i64 bx, .int .i64 b_y]

set_option maxHeartbeats 400000 in
theorem divides_any (ax ay bx b_y cx cy dx dy : Int) (w : World) (h1 : Geo.Sm ax) (h2 : Geo.Sm ay) (h3 : Geo.Sm bx) (h4 : Geo.Sm b_y) (h5 : Geo.Sm cx) (h6 : Geo.Sm cy) (h7 : Geo.Sm dx) (h8 : Geo.Sm dy) :
    Calls Try.prog 124 #[.agg #[.int .i64 ax, .int .i64 ay, .int .i64 bx, .int .i64 b_y], .agg #[.int .i64 cx, .int .i64 cy, .int .i64 dx, .int .i64 dy]] w fun e w' =>
      e = .returned (.bool (Geo.divides ax ay bx b_y cx cy dx dy)) ∧ Below w.heap.size w w' := by
  have hb := Below.refl ((w.alloc (.cells #[.int .i64 ax, .int .i64 ay, .int .i64 bx, .int .i64 b_y] 82)).alloc (.cells #[.int .i64 cx, .int .i64 cy, .int .i64 dx, .int .i64 dy] 82)).heap.size ((w.alloc (.cells #[.int .i64 ax, .int .i64 ay, .int .i64 bx, .int .i64 b_y] 82)).alloc (.cells #[.int .i64 cx, .int .i64 cy, .int .i64 dx, .int .i64 dy] 82))
  go_enter Try.func124, Try.ntmps124
  go_wp2_with (first | (go_at_call 101; refine (turn_any _ _ _ _ _ _ _ (by assumption) (by assumption) (by assumption) (by assumption) (by assumption) (by assumption)).mono ?_; rintro e w' ⟨rfl, hb'⟩; have hb := hb.trans (hb'.mono hb.size); obtain ⟨hc, hf⟩ := bcell hb))
  all_goals
    clear hc hf
    go_ret
    refine ⟨ret_bool ?_, ((((Below.refl _ _).alloc (Nat.le_refl _) _).alloc (by simp) _).trans (hb.mono (by simp; omega)))⟩
    unfold Geo.divides
    rw [Bool.eq_iff_iff]
    simp
    omega

set_option maxHeartbeats 800000 in
theorem meets_any (ax ay bx b_y cx cy dx dy : Int) (w : World) (h1 : Geo.Sm ax) (h2 : Geo.Sm ay) (h3 : Geo.Sm bx) (h4 : Geo.Sm b_y) (h5 : Geo.Sm cx) (h6 : Geo.Sm cy) (h7 : Geo.Sm dx) (h8 : Geo.Sm dy) :
    Calls Try.prog 116 #[.agg #[.int .i64 ax, .int .i64 ay, .int .i64 bx, .int .i64 b_y], .agg #[.int .i64 cx, .int .i64 cy, .int .i64 dx, .int .i64 dy]] w fun e w' =>
      e = .returned (.bool (Geo.meets ax ay bx b_y cx cy dx dy)) ∧ Below w.heap.size w w' := by
  have hb := Below.refl ((w.alloc (.cells #[.int .i64 ax, .int .i64 ay, .int .i64 bx, .int .i64 b_y] 82)).alloc (.cells #[.int .i64 cx, .int .i64 cy, .int .i64 dx, .int .i64 dy] 82)).heap.size ((w.alloc (.cells #[.int .i64 ax, .int .i64 ay, .int .i64 bx, .int .i64 b_y] 82)).alloc (.cells #[.int .i64 cx, .int .i64 cy, .int .i64 dx, .int .i64 dy] 82))
  go_enter Try.func116, Try.ntmps116
  go_wp2_with (first | (go_at_call 100; refine (has_any _ _ _ _ _ _ _ (by assumption) (by assumption) (by assumption) (by assumption) (by assumption) (by assumption)).mono ?_; rintro e w' ⟨rfl, hb'⟩; have hb := hb.trans (hb'.mono hb.size); obtain ⟨hc, hf⟩ := bcell hb) | (go_at_call 124; refine (divides_any _ _ _ _ _ _ _ _ _ (by assumption) (by assumption) (by assumption) (by assumption) (by assumption) (by assumption) (by assumption) (by assumption)).mono ?_; rintro e w' ⟨rfl, hb'⟩; have hb := hb.trans (hb'.mono hb.size); obtain ⟨hc, hf⟩ := bcell hb))
  all_goals
    clear hc hf
    go_ret
    refine ⟨ret_bool ?_, ((((Below.refl _ _).alloc (Nat.le_refl _) _).alloc (by simp) _).trans (hb.mono (by simp; omega)))⟩
    unfold Geo.meets
    simp [*]

set_option maxHeartbeats 1600000 in
theorem clashes_any (ax ay bx b_y cx cy dx dy : Int) (w : World) (h1 : Geo.Sm ax) (h2 : Geo.Sm ay) (h3 : Geo.Sm bx) (h4 : Geo.Sm b_y) (h5 : Geo.Sm cx) (h6 : Geo.Sm cy) (h7 : Geo.Sm dx) (h8 : Geo.Sm dy) :
    Calls Try.prog 99 #[.agg #[.int .i64 ax, .int .i64 ay, .int .i64 bx, .int .i64 b_y], .agg #[.int .i64 cx, .int .i64 cy, .int .i64 dx, .int .i64 dy]] w fun e w' =>
      e = .returned (.bool (Geo.clashes ax ay bx b_y cx cy dx dy)) ∧ Below w.heap.size w w' := by
  have hb := Below.refl ((w.alloc (.cells #[.int .i64 ax, .int .i64 ay, .int .i64 bx, .int .i64 b_y] 82)).alloc (.cells #[.int .i64 cx, .int .i64 cy, .int .i64 dx, .int .i64 dy] 82)).heap.size ((w.alloc (.cells #[.int .i64 ax, .int .i64 ay, .int .i64 bx, .int .i64 b_y] 82)).alloc (.cells #[.int .i64 cx, .int .i64 cy, .int .i64 dx, .int .i64 dy] 82))
  go_enter Try.func99, Try.ntmps99
  go_wp2_with (first | (refine wpList_eq_pt rfl _ _ rfl _ _ _ _ rfl rfl ?_) | (go_at_call 100; refine (has_any _ _ _ _ _ _ _ (by assumption) (by assumption) (by assumption) (by assumption) (by assumption) (by assumption)).mono ?_; rintro e w' ⟨rfl, hb'⟩; have hb := hb.trans (hb'.mono hb.size); obtain ⟨hc, hf⟩ := bcell hb) | (go_at_call 116; refine (meets_any _ _ _ _ _ _ _ _ _ (by assumption) (by assumption) (by assumption) (by assumption) (by assumption) (by assumption) (by assumption) (by assumption)).mono ?_; rintro e w' ⟨rfl, hb'⟩; have hb := hb.trans (hb'.mono hb.size); obtain ⟨hc, hf⟩ := bcell hb))
  all_goals
    clear hc hf
    go_ret
    refine ⟨ret_bool ?_, ((((Below.refl _ _).alloc (Nat.le_refl _) _).alloc (by simp) _).trans (hb.mono (by simp; omega)))⟩
    unfold Geo.clashes
    simp [*]
end Go.Proofs.Ytnllhhamebmlnaa
