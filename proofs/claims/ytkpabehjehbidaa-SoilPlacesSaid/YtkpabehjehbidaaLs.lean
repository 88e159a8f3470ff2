import Derived.Test.YtkpabehjehbidaaCm
namespace Go.Proofs.Ytkpabehjehbidaa
open Go.RowKit

set_option maxRecDepth 100000 in
set_option maxHeartbeats 1000000 in
theorem later_any (a b : Rat) (w : World) (ha : 0 ≤ a.num) (hb : 0 ≤ b.num) (ha2 : a.num ≤ 9223372036854775807) (hb2 : b.num ≤ 9223372036854775807) (hd : (a.den : Int) * (b.den : Int) ≤ 4000000000000000000) :
    Calls Try.prog 94 #[Fr a, Fr b] w fun e w' => e = .returned (Fr (Fl.later a b)) ∧ Below w.heap.size w w' := by
  have hh0 := heap_alloc3 w (.cells #[.int .i64 a.num, .int .i64 a.den] 70) (.cells #[.int .i64 b.num, .int .i64 b.den] 70) (.cells #[.int .i64 0, .int .i64 0] 70)
  have H0 := Lib.hid hh0
  clear hh0
  by_cases hab : a < b
  · have hc : Fl.cmpR a b = -1 := by unfold Fl.cmpR; rw [if_pos hab]
    have hl : Fl.later a b = b := if_pos hab
    have HL := Lib.hid hl
    clear hl
    go_enter Try.func94, Try.ntmps94
    go_wp2_with fail
    refine (compare_any a b _ ha hb ha2 hb2 hd).mono ?_
    rintro e w' ⟨rfl, hb'⟩
    rw [hc]
    have hB := (below_alloc3 w _ _ _).trans (hb'.mono (by simp; try omega))
    have hk := heap_at hb' (k := w.heap.size + 1) (by simp; try omega) ((heap_alloc_old _ _ (by simp)).trans (heap_alloc2_new w _ _))
    have hr := heap_at hb' (k := w.heap.size + 1 + 1) (by simp) H0.out
    clear hb'
    obtain ⟨⟨c0, c1⟩, -, -⟩ := row_fr hk
    obtain ⟨⟨d0, d1⟩, f0, f1⟩ := row_fr hr
    go_wp2
    rw [HL.out]
    exact bodyPost_ret (results_cell_row rfl _ _ _ _ _ _ _ rfl (two_cells hr (.int .i64 b.num) (.int .i64 b.den)) Try.underlying70 rfl infoFr2) rfl ⟨rfl, below_setCell (below_setCell hB (by omega) _) (by omega) _⟩
  · have hc : (0 : Int) ≤ Fl.cmpR a b := by unfold Fl.cmpR; rw [if_neg hab]; split <;> omega
    have hl : Fl.later a b = a := if_neg hab
    have HL := Lib.hid hl
    clear hl
    go_enter Try.func94, Try.ntmps94
    go_wp2_with fail
    refine (compare_any a b _ ha hb ha2 hb2 hd).mono ?_
    rintro e w' ⟨rfl, hb'⟩
    have hB := (below_alloc3 w _ _ _).trans (hb'.mono (by simp; try omega))
    have hk := heap_at hb' (k := w.heap.size) (by simp; try omega) ((heap_alloc_old _ _ (by simp; try omega)).trans (heap_alloc2_old w _ _))
    have hr := heap_at hb' (k := w.heap.size + 1 + 1) (by simp) H0.out
    clear hb'
    obtain ⟨⟨c0, c1⟩, -, -⟩ := row_fr hk
    obtain ⟨⟨d0, d1⟩, f0, f1⟩ := row_fr hr
    go_wp2
    rw [HL.out]
    exact bodyPost_ret (results_cell_row rfl _ _ _ _ _ _ _ rfl (two_cells hr (.int .i64 a.num) (.int .i64 a.den)) Try.underlying70 rfl infoFr2) rfl ⟨rfl, below_setCell (below_setCell hB (by omega) _) (by omega) _⟩

set_option maxRecDepth 100000 in
set_option maxHeartbeats 1000000 in
theorem sooner_any (a b : Rat) (w : World) (ha : 0 ≤ a.num) (hb : 0 ≤ b.num) (ha2 : a.num ≤ 9223372036854775807) (hb2 : b.num ≤ 9223372036854775807) (hd : (a.den : Int) * (b.den : Int) ≤ 4000000000000000000) :
    Calls Try.prog 100 #[Fr a, Fr b] w fun e w' => e = .returned (Fr (Fl.sooner a b)) ∧ Below w.heap.size w w' := by
  have hh0 := heap_alloc3 w (.cells #[.int .i64 a.num, .int .i64 a.den] 70) (.cells #[.int .i64 b.num, .int .i64 b.den] 70) (.cells #[.int .i64 0, .int .i64 0] 70)
  have H0 := Lib.hid hh0
  clear hh0
  by_cases hab : b < a
  · have hc : Fl.cmpR a b = 1 := by unfold Fl.cmpR; rw [if_neg (by grind), if_pos hab]
    have hl : Fl.sooner a b = b := if_pos hab
    have HL := Lib.hid hl
    clear hl
    go_enter Try.func100, Try.ntmps100
    go_wp2_with fail
    refine (compare_any a b _ ha hb ha2 hb2 hd).mono ?_
    rintro e w' ⟨rfl, hb'⟩
    rw [hc]
    have hB := (below_alloc3 w _ _ _).trans (hb'.mono (by simp; try omega))
    have hk := heap_at hb' (k := w.heap.size + 1) (by simp; try omega) ((heap_alloc_old _ _ (by simp)).trans (heap_alloc2_new w _ _))
    have hr := heap_at hb' (k := w.heap.size + 1 + 1) (by simp) H0.out
    clear hb'
    obtain ⟨⟨c0, c1⟩, -, -⟩ := row_fr hk
    obtain ⟨⟨d0, d1⟩, f0, f1⟩ := row_fr hr
    go_wp2
    rw [HL.out]
    exact bodyPost_ret (results_cell_row rfl _ _ _ _ _ _ _ rfl (two_cells hr (.int .i64 b.num) (.int .i64 b.den)) Try.underlying70 rfl infoFr2) rfl ⟨rfl, below_setCell (below_setCell hB (by omega) _) (by omega) _⟩
  · have hc : (0 : Int) ≥ Fl.cmpR a b := by unfold Fl.cmpR; rw [if_neg hab]; split <;> omega
    have hl : Fl.sooner a b = a := if_neg hab
    have HL := Lib.hid hl
    clear hl
    go_enter Try.func100, Try.ntmps100
    go_wp2_with fail
    refine (compare_any a b _ ha hb ha2 hb2 hd).mono ?_
    rintro e w' ⟨rfl, hb'⟩
    have hB := (below_alloc3 w _ _ _).trans (hb'.mono (by simp; try omega))
    have hk := heap_at hb' (k := w.heap.size) (by simp; try omega) ((heap_alloc_old _ _ (by simp; try omega)).trans (heap_alloc2_old w _ _))
    have hr := heap_at hb' (k := w.heap.size + 1 + 1) (by simp) H0.out
    clear hb'
    obtain ⟨⟨c0, c1⟩, -, -⟩ := row_fr hk
    obtain ⟨⟨d0, d1⟩, f0, f1⟩ := row_fr hr
    go_wp2
    rw [HL.out]
    exact bodyPost_ret (results_cell_row rfl _ _ _ _ _ _ _ rfl (two_cells hr (.int .i64 a.num) (.int .i64 a.den)) Try.underlying70 rfl infoFr2) rfl ⟨rfl, below_setCell (below_setCell hB (by omega) _) (by omega) _⟩
end Go.Proofs.Ytkpabehjehbidaa
