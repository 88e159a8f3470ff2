import Derived.Test.YtkpabehjehbidaaDsr
namespace Go.Proofs.Ytkpabehjehbidaa
open Go.RowKit

def fl : List (Int × Int) := [(4, 3), (2, 6)]
theorem fl_ok : Fl.validate fl = 0 := by decide +kernel
theorem fl_len : Fl.len fl = 6 := by decide +kernel
theorem fl_each : eachs fl 3 = [8, 8] := by decide +kernel
theorem fl_place1 : Fl.place fl 0 8 = 8 / 3 := by decide +kernel
theorem fl_cuts : (Fl.cutsF fl 0 (eachs fl 3)).map pr = [(8, 3), (14, 3)] := by decide +kernel
theorem fl_cutok : Fl.CutOk fl 0 (eachs fl 3) := by
  rw [fl_each]
  refine ⟨⟨by decide +kernel, by decide +kernel, by decide +kernel, by decide +kernel, by decide +kernel⟩, ?_, trivial⟩
  rw [fl_place1]
  exact ⟨by decide +kernel, by decide +kernel, by decide +kernel, by decide +kernel, by decide +kernel⟩
theorem fl_dear : (Fl.dear fl 3).1 = 3 ∧ (Fl.dear fl 3).2 = 15 := by decide +kernel

theorem fl_pts (w : World) : Pts (w.alloc (.cells #[.int .i64 4, .int .i64 3, .int .i64 2, .int .i64 6] 52)) (some ⟨w.heap.size, 0, none⟩) fl := by
  have hc := fun j => cell_of_row (w.alloc (.cells #[.int .i64 4, .int .i64 3, .int .i64 2, .int .i64 6] 52)) w.heap.size j _ _ _ (heap_alloc_new w _)
  refine ⟨fun _ => ⟨_, 0, rfl, by simp, fun i hi => ?_⟩⟩
  match i, hi with
  | 0, _ => exact ⟨hc 0, hc 1⟩
  | 1, _ => exact ⟨hc 2, hc 3⟩

theorem fr3 : Fr ((3 : Int) : Rat) = .agg #[.int .i64 3, .int .i64 1] := rfl
theorem fr15 : Fr (15 : Rat) = .agg #[.int .i64 15, .int .i64 1] := rfl

set_option maxRecDepth 100000 in
set_option maxHeartbeats 2000000 in
theorem known_any (w : World) : Calls Try.prog 16 #[] w fun e w' => e = .returned (.bool true) ∧ Below w.heap.size w w' := by
  have hA : Below w.heap.size w (w.alloc (.cells #[.int .i64 4, .int .i64 3, .int .i64 2, .int .i64 6] 52)) := (Below.refl _ w).alloc (Nat.le_refl _) _
  have hp := fl_pts w
  have HA := Lib.hid (And.intro hA hp)
  clear hA hp
  go_enter Try.func16, Try.ntmps16
  go_wp2_with fail
  refine (equal_ok fl 3 _ _ _ _ HA.out.2 rfl (by decide) fl_ok (by decide) (by decide) fl_cutok).mono ?_
  rintro e w1 ⟨v, rfl, hown, hb1⟩
  rw [fl_cuts] at hown
  have hp1 := HA.out.2.below hb1
  have hB1 := HA.out.1.trans (hb1.mono HA.out.1.size)
  have Hown := Lib.hid hown
  clear hown hb1 HA
  go_wp2_with fail
  refine (dear_ok fl 3 _ _ _ _ hp1 rfl (by decide) fl_ok (by decide) (by rw [fl_len]; decide)).mono ?_
  rintro e w2 ⟨rfl, hb2⟩
  rw [fl_dear.1, fl_dear.2, fr3, fr15]
  have hown2 := own_below Hown.out hb2
  obtain ⟨ao2, cap2, rfl, hcap, hpts⟩ := own_pts2 hown2 rfl
  have hB2 := hB1.trans (hb2.mono hB1.size)
  clear hown2 Hown hb2 hp1
  have ha2 := below_alloc3 w2 (.cells #[.int .i64 3, .int .i64 1] 29) (.cells #[.int .i64 15, .int .i64 1] 29) (.cells #[.int .i64 8, .int .i64 3, .int .i64 14, .int .i64 3] 29)
  have hpts2 := hpts.below ha2
  have hB3 := hB2.trans (ha2.mono hB2.size)
  have hq : Pts (((w2.alloc (.cells #[.int .i64 3, .int .i64 1] 29)).alloc (.cells #[.int .i64 15, .int .i64 1] 29)).alloc (.cells #[.int .i64 8, .int .i64 3, .int .i64 14, .int .i64 3] 29)) (some ⟨w2.heap.size + 1 + 1, 0, none⟩) [(8, 3), (14, 3)] := by
    have hc := fun j => cell_of_row _ (w2.heap.size + 1 + 1) j _ _ _ (heap_alloc3 w2 (.cells #[.int .i64 3, .int .i64 1] 29) (.cells #[.int .i64 15, .int .i64 1] 29) (.cells #[.int .i64 8, .int .i64 3, .int .i64 14, .int .i64 3] 29))
    refine ⟨fun _ => ⟨_, 0, rfl, by simp, fun i hi => ?_⟩⟩
    match i, hi with
    | 0, _ => exact ⟨hc 0, hc 1⟩
    | 1, _ => exact ⟨hc 2, hc 3⟩
  have h4 : (((w2.alloc (.cells #[.int .i64 3, .int .i64 1] 29)).alloc (.cells #[.int .i64 15, .int .i64 1] 29)).alloc (.cells #[.int .i64 8, .int .i64 3, .int .i64 14, .int .i64 3] 29)).heap[w2.heap.size]? = _ := (heap_alloc_old _ _ (by simp; try omega)).trans (heap_alloc2_old w2 _ _)
  have h5 : (((w2.alloc (.cells #[.int .i64 3, .int .i64 1] 29)).alloc (.cells #[.int .i64 15, .int .i64 1] 29)).alloc (.cells #[.int .i64 8, .int .i64 3, .int .i64 14, .int .i64 3] 29)).heap[w2.heap.size + 1]? = _ := (heap_alloc_old _ _ (by simp; try omega)).trans (heap_alloc2_new w2 _ _)
  have HH := Lib.hid (And.intro hpts2 (And.intro hq (And.intro hB3 (And.intro h4 h5))))
  clear hpts hpts2 hq ha2 hB2 hB3 h4 h5 hcap
  go_wp2_with fail
  refine (sameRats_any _ _ _ _ _ _ _ _ _ HH.out.1 HH.out.2.1 rfl rfl (by decide) (by decide)).mono ?_
  rintro e w3 ⟨rfl, hb3⟩
  have h4 := heap_keep hb3 HH.out.2.2.2.1
  have h5 := heap_keep hb3 HH.out.2.2.2.2
  have hB := HH.out.2.2.1.trans (hb3.mono HH.out.2.2.1.size)
  obtain ⟨⟨c0, c1⟩, -, -⟩ := row_fr h4
  obtain ⟨⟨d0, d1⟩, -, -⟩ := row_fr h5
  have q1 := run_eq_rt 3 1 3 1
  have q2 := run_eq_rt 15 1 15 1
  clear hb3 h4 h5 HH
  go_wp2_with fail
  go_ret
  exact ⟨ret_bool (by simp), hB⟩
end Go.Proofs.Ytkpabehjehbidaa
