import Derived.Test.YtnllhhamebmlnaaRdr
namespace Go.Proofs.Ytnllhhamebmlnaa
open Go.RowKit

def fieldL : List (Int × Int) := [(0, 0), (4, 0), (4, 2), (0, 2)]
def fieldC : Array Value := #[.int .i64 0, .int .i64 0, .int .i64 4, .int .i64 0, .int .i64 4, .int .i64 2, .int .i64 0, .int .i64 2]
theorem field_ok : validate fieldL = 0 := by decide +kernel
theorem field_twice : twiceOf fieldL = 16 := by decide +kernel
theorem field_border : borderOf fieldL = 12 := by decide +kernel
theorem field_inside : insideOf fieldL = 3 := by decide +kernel

set_option maxHeartbeats 400000 in
theorem field_any (w : World) : Calls Try.prog 53 #[] w fun e w' => e = .returned (.slice (some ⟨w.heap.size, 0, none⟩) 4 4) ∧ w' = w.alloc (.cells fieldC 32) := by
  go_enter Try.func53, Try.ntmps53
  go_wp2
  go_outline
  go_ret
  exact ⟨rfl, rfl⟩

theorem field_pts (w : World) : Pts (w.alloc (.cells fieldC 32)) (some ⟨w.heap.size, 0, none⟩) fieldL := by
  have hc : ∀ j v, fieldC[j]? = some v → (w.alloc (.cells fieldC 32)).cell? ⟨w.heap.size, j, none⟩ = some v := fun j v h => by
    unfold World.cell?
    rw [heap_alloc_new]
    simpa using h
  refine ⟨fun _ => ⟨_, 0, rfl, by simp, fun i hi => ?_⟩⟩
  match i, hi with
  | 0, _ => exact ⟨hc _ _ rfl, hc _ _ rfl⟩
  | 1, _ => exact ⟨hc _ _ rfl, hc _ _ rfl⟩
  | 2, _ => exact ⟨hc _ _ rfl, hc _ _ rfl⟩
  | 3, _ => exact ⟨hc _ _ rfl, hc _ _ rfl⟩

set_option maxHeartbeats 1000000 in
theorem known_any (w : World) : Calls Try.prog 16 #[] w fun e w' => e = .returned (.bool true) ∧ Below w.heap.size w w' := by
  have F1 := Lib.hid field_ok
  go_enter Try.func16, Try.ntmps16
  go_wp2_with fail
  refine (field_any w).mono ?_
  rintro e w1 ⟨rfl, rfl⟩
  have hb1 := Lib.hid ((Below.refl w.heap.size w).alloc (Nat.le_refl _) (.cells fieldC 32))
  go_wp2_with fail
  refine (twice_any fieldL _ 4 4 _ (field_pts w) rfl (by omega) (by omega)).mono ?_
  rintro e w2 ⟨rfl, hb2⟩
  rw [F1.out, field_twice]
  have hb2' := Lib.hid (hb1.out.trans (hb2.mono hb1.out.size))
  clear hb2
  go_wp2_with fail
  refine (field_any w2).mono ?_
  rintro e w3 ⟨rfl, rfl⟩
  have hb3 := Lib.hid (hb2'.out.alloc hb2'.out.size (.cells fieldC 32))
  go_wp2_with fail
  refine (border_any fieldL _ 4 4 _ (field_pts w2) rfl (by omega) (by omega)).mono ?_
  rintro e w4 ⟨rfl, hb4⟩
  rw [F1.out, field_border]
  have hb4' := Lib.hid (hb3.out.trans (hb4.mono hb3.out.size))
  clear hb4
  go_wp2_with fail
  refine (field_any w4).mono ?_
  rintro e w5 ⟨rfl, rfl⟩
  have hb5 := Lib.hid (hb4'.out.alloc hb4'.out.size (.cells fieldC 32))
  go_wp2_with fail
  refine (inside_any fieldL _ 4 4 _ (field_pts w4) rfl (by omega) (by omega)).mono ?_
  rintro e w6 ⟨rfl, hb6⟩
  rw [F1.out, field_inside]
  have hb6' := Lib.hid (hb5.out.trans (hb6.mono hb5.out.size))
  clear hb6
  go_wp2_with fail
  go_ret
  exact ⟨rfl, hb6'.out⟩
end Go.Proofs.Ytnllhhamebmlnaa
