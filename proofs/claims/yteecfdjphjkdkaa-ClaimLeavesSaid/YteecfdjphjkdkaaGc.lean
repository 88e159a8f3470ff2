import Derived.Test.YteecfdjphjkdkaaGb
import Derived.Test.YteecfdjphjkdkaaFp
namespace Go.Proofs.Yteecfdjphjkdkaa
open Go.RowKit
theorem ints_lit {w : World} {g : Nat} {cs : Array Value} {t : TypeId} {fr : Nat × Nat} (l : List Int) (h : w.heap[g]? = some (.cells cs t fr)) (hc : cs = (l.map (Value.int .i64)).toArray) : Ints w (some ⟨g, 0, none⟩) l := by
  subst hc
  refine ⟨fun _ => ⟨g, 0, rfl, heap_lt h, fun i hi => ?_⟩⟩
  rw [Nat.zero_add, cell_of_row w g i _ _ _ h, List.getD_eq_getElem?_getD, List.getElem?_eq_getElem hi]
  simp [hi]
theorem pts_lit {w : World} {g : Nat} {cs : Array Value} {t : TypeId} {fr : Nat × Nat} (l : List (Int × Int)) (h : w.heap[g]? = some (.cells cs t fr)) (hc : cs = (flat2 l).toArray) : Pts w (some ⟨g, 0, none⟩) l := by
  subst hc
  refine ⟨fun _ => ⟨g, 0, rfl, heap_lt h, fun i hi => ?_⟩⟩
  have hf := flat2_at hi
  rw [Nat.zero_add, cell_of_row w g _ _ _ _ h, cell_of_row w g _ _ _ _ h, List.getD_eq_getElem?_getD, List.getElem?_eq_getElem hi]
  simp only [List.getElem?_toArray, Option.getD_some]
  exact hf
namespace Cl
theorem known_q {q : Rat} {a d : Int} (h : LevS [100, 200, 300] (2 * 200) a d) (hq : q = mkRat a d.toNat) : q = 150 := by
  have h1 := levS_q h
  rw [← hq] at h1
  have h2 : Lev [100, 200, 300] (2 * 200) 150 1 := ⟨by omega, by omega, by decide, 200, by simp, by omega⟩
  have h3 := lev_unique h1.2.2.2 h2
  rw [Int.mul_one] at h3
  have h4 := Rat.mkRat_self q
  rw [h3] at h4
  have h5 : mkRat (150 * (q.den : Int)) (1 * q.den) = mkRat 150 1 := Rat.mkRat_mul_right q.den_nz
  rw [Nat.one_mul] at h5
  rw [← h4, h5]
  rfl
end Cl
set_option maxRecDepth 100000 in
set_option maxHeartbeats 1000000 in
theorem known_any (w : World) : Calls Try.prog 16 #[] w fun e w' => e = .returned (.bool true) ∧ Below w.heap.size w w' := by
  have a1 := heap_alloc_new w (.cells #[.int .i64 100, .int .i64 200, .int .i64 300] 3)
  have hb0 : Below w.heap.size w (w.alloc (.cells #[.int .i64 100, .int .i64 200, .int .i64 300] 3)) := (Below.refl _ w).alloc (Nat.le_refl _) _
  go_enter Try.func16, Try.ntmps16
  go_wp2_with fail
  have hI := ints_lit [100, 200, 300] a1 rfl
  generalize w.alloc (.cells #[.int .i64 100, .int .i64 200, .int .i64 300] 3) = w1 at hI hb0 ⊢
  generalize w.heap.size = G at hI ⊢
  refine (byCourtLo_any [100, 200, 300] 200 _ 3 3 w1 hI rfl (by decide) (by omega) (by decide)).mono ?_
  rintro e w2 ⟨q, v, ⟨a, d, hL, hq⟩, rfl, hov, hb2⟩
  have hq1 := Cl.known_q hL hq
  rw [show (List.map (fun c : Int => mkRat (min (c * (q.den : Int)) q.num) (2 * q.den)) [100, 200, 300]).map pr = [(50, 1), (75, 1), (75, 1)] by rw [hq1]; decide +kernel] at hov
  clear hq1 hL hq hI a1
  obtain ⟨ao, cap, rfl, -, hP⟩ := own_pts2 hov rfl
  replace hb0 := hb0.trans (hb2.mono hb0.size)
  clear hb2 hov
  have a2 := heap_alloc_new w2 (.cells #[.int .i64 1, .int .i64 1, .int .i64 1] 3)
  have hb2 : Below w2.heap.size w2 (w2.alloc (.cells #[.int .i64 1, .int .i64 1, .int .i64 1] 3)) := (Below.refl _ w2).alloc (Nat.le_refl _) _
  go_wp2_with fail
  have hI := ints_lit [1, 1, 1] a2 rfl
  replace hP := hP.below hb2
  replace hb0 := hb0.trans (hb2.mono hb0.size)
  clear hb2 a2
  generalize w2.alloc (.cells #[.int .i64 1, .int .i64 1, .int .i64 1] 3) = w3 at hI hP hb0 ⊢
  generalize w2.heap.size = G2 at hI ⊢
  refine (whole_any [1, 1, 1] 2 _ 3 3 w3 hI rfl (by decide) (by omega) (by decide)).mono ?_
  rintro e w4 ⟨v2, rfl, hov2, hb4⟩
  rw [show Cl.whole [1, 1, 1] 2 = [1, 1, 0] by decide +kernel] at hov2
  obtain ⟨ao2, cap2, rfl, -, hI2⟩ := own_ints hov2 rfl
  replace hP := hP.below hb4
  replace hb0 := hb0.trans (hb4.mono hb0.size)
  clear hb4 hov2 hI
  have a3 := heap_alloc_new w4 (.cells #[.int .i64 50, .int .i64 1, .int .i64 75, .int .i64 1, .int .i64 75, .int .i64 1] 35)
  have hb4 : Below w4.heap.size w4 (w4.alloc (.cells #[.int .i64 50, .int .i64 1, .int .i64 75, .int .i64 1, .int .i64 75, .int .i64 1] 35)) := (Below.refl _ w4).alloc (Nat.le_refl _) _
  go_wp2_with fail
  have hP2 := pts_lit [(50, 1), (75, 1), (75, 1)] a3 rfl
  replace hP := hP.below hb4
  replace hI2 := hI2.below hb4
  replace hb0 := hb0.trans (hb4.mono hb0.size)
  clear hb4 a3
  generalize w4.alloc (.cells #[.int .i64 50, .int .i64 1, .int .i64 75, .int .i64 1, .int .i64 75, .int .i64 1] 35) = w5 at hI2 hP hP2 hb0 ⊢
  generalize w4.heap.size = G4 at hP2 ⊢
  refine (sameRats_any [(50, 1), (75, 1), (75, 1)] [(50, 1), (75, 1), (75, 1)] _ 3 cap _ 3 3 w5 hP hP2 rfl rfl (by omega) (by omega)).mono ?_
  rintro e w6 ⟨rfl, hb6⟩
  rw [show decide ([((50 : Int), (1 : Int)), (75, 1), (75, 1)] = [(50, 1), (75, 1), (75, 1)]) = true from rfl]
  replace hI2 := hI2.below hb6
  replace hb0 := hb0.trans (hb6.mono hb0.size)
  clear hb6 hP hP2
  have a5 := heap_alloc_new w6 (.cells #[.int .i64 1, .int .i64 1, .int .i64 0] 3)
  have hb5 : Below w6.heap.size w6 (w6.alloc (.cells #[.int .i64 1, .int .i64 1, .int .i64 0] 3)) := (Below.refl _ w6).alloc (Nat.le_refl _) _
  go_wp2_with fail
  have hI3 := ints_lit [1, 1, 0] a5 rfl
  replace hI2 := hI2.below hb5
  replace hb0 := hb0.trans (hb5.mono hb0.size)
  clear hb5 a5
  generalize w6.alloc (.cells #[.int .i64 1, .int .i64 1, .int .i64 0] 3) = w7 at hI2 hI3 hb0 ⊢
  generalize w6.heap.size = G6 at hI3 ⊢
  refine (sameInts_any [1, 1, 0] [1, 1, 0] _ 3 cap2 _ 3 3 w7 hI2 hI3 rfl rfl (by omega) (by omega)).mono ?_
  rintro e w8 ⟨rfl, hb8⟩
  rw [show decide ([(1 : Int), 1, 0] = [1, 1, 0]) = true from rfl]
  replace hb0 := hb0.trans (hb8.mono hb0.size)
  clear hb8 hI2 hI3
  go_wp2_with fail
  go_ret
  exact ⟨rfl, hb0⟩
end Go.Proofs.Yteecfdjphjkdkaa
