import Derived.Test.YtnllhhamebmlnaaRead
namespace Go.Proofs.Ytnllhhamebmlnaa
open Go.RowKit

/-- The absolute value. -/
def absI (x : Int) : Int := if x < 0 then -x else x
theorem absI_neg {x : Int} (h : x < 0) : absI x = -x := if_pos h
theorem absI_pos {x : Int} (h : ¬ x < 0) : absI x = x := if_neg h

set_option maxHeartbeats 400000 in
theorem absolute_any (x : Int) (w : World) (h1 : -9000000000000000000 ≤ x) (h2 : x ≤ 9000000000000000000) :
    Calls Try.prog 55 #[.int .i64 x] w fun e w' => e = .returned (.int .i64 (absI x)) ∧ w = w' := by
  by_cases h : x < 0
  · have H := Lib.hid (absI_neg h)
    go_enter Try.func55, Try.ntmps55
    go_wp2
    go_ret
    exact ⟨ret_int H.out.symm, rfl⟩
  · have H := Lib.hid (absI_pos h)
    go_enter Try.func55, Try.ntmps55
    go_wp2
    go_ret
    exact ⟨ret_int H.out.symm, rfl⟩

theorem area_bound {l : List (Int × Int)} (h : Geo.AllSm l) (h10 : l.length ≤ 10) : -320000000 ≤ Geo.area l ∧ Geo.area l ≤ 320000000 := by
  have := Geo.sumOf_bound (Geo.cross_bound h) (List.range l.length)
  unfold Geo.area
  rw [List.length_range] at this
  omega

theorem isRing_read {l : List (Int × Int)} (h : validate l = 0) : IsRing (readRow l) l := by
  rw [readRow_ok h]; exact isRing_cells (validate_len h).2

theorem readRow_size (l : List (Int × Int)) : (readRow l).size = 21 := by
  by_cases h : validate l = 0
  · exact (isRing_read h).size
  · rw [readRow_no h]; rfl
theorem readRow_one (l : List (Int × Int)) : (readRow l).all (·.oneCell') = true := by
  by_cases h : validate l = 0
  · exact (isRing_read h).one
  · rw [readRow_no h]; exact z21_one 0

end Go.Proofs.Ytnllhhamebmlnaa
