import Derived.Test.YtemlfklipkpacaaKv
/- The example of the chapter, and that the program answers as it says. -/
namespace Go.Proofs.Ytemlfklipkpacaa
open Go.RowKit
theorem ints_two {w : World} {g : Nat} {a b : Int} {t : TypeId} (h : w.heap[g]? = some (.cells #[.int .i64 a, .int .i64 b] t (0, 0))) : Ints w (some ⟨g, 0, none⟩) [a, b] := by
  obtain ⟨⟨c0, c1⟩, -, -⟩ := row_fr h
  refine ⟨fun _ => ⟨_, 0, rfl, heap_lt h, fun i hi => ?_⟩⟩
  match i, hi with
  | 0, _ => exact c0
  | 1, _ => exact c1
set_option maxRecDepth 100000 in
set_option maxHeartbeats 4000000 in
theorem example_any (w : World) :
    Calls Try.prog 90 #[] w fun e w' => ∃ aoL aoV, e = .returned (.agg #[.slice aoL 2 2, .slice aoV 2 2]) ∧ Fld w' aoL 2 aoV 2 [2, 2] [[1, 1], [3, 1]] ∧ Below w.heap.size w w' := by
  go_enter Try.func90, Try.ntmps90
  go_upto_region 1 with fail
  have r0 := heap_alloc_new w (.cells #[.slice none 0 0, .slice none 0 0] 57)
  have hA := (Below.refl _ w).alloc (Nat.le_refl _) (.cells #[.slice none 0 0, .slice none 0 0] 57)
  generalize w.alloc (.cells #[.slice none 0 0, .slice none 0 0] 57) = W0 at r0 hA ⊢
  have hs0 := heap_lt r0
  have hal := below_alloc4 W0 (.cells #[.int .i64 2, .int .i64 2] 3) (.cells #[.int .i64 1, .int .i64 1] 3) (.cells #[.int .i64 3, .int .i64 1] 3) (.cells #[.slice (some ⟨W0.heap.size + 1, 0, none⟩) 2 2, .slice (some ⟨W0.heap.size + 1 + 1, 0, none⟩) 2 2] 39)
  obtain ⟨e1, e2, e3, e4⟩ := heap_alloc4 W0 (.cells #[.int .i64 2, .int .i64 2] 3) (.cells #[.int .i64 1, .int .i64 1] 3) (.cells #[.int .i64 3, .int .i64 1] 3) (.cells #[.slice (some ⟨W0.heap.size + 1, 0, none⟩) 2 2, .slice (some ⟨W0.heap.size + 1 + 1, 0, none⟩) 2 2] 39)
  have r1 := heap_keep hal r0
  obtain ⟨⟨c0, c1⟩, f0, f1⟩ := row_fr r1
  go_wp2
  have hB := hA.trans (hal.mono hA.size)
  refine bodyPost_ret (results_cell_row rfl _ _ _ _ _ _ _ rfl (two_cells r1 (.slice (some ⟨W0.heap.size, 0, none⟩) 2 2) (.slice (some ⟨W0.heap.size + 1 + 1 + 1, 0, none⟩) 2 2)) Try.underlying57 rfl kinfoFd2) rfl ⟨_, _, rfl, ?_, below_setCell (below_setCell hB (by omega) _) (by omega) _⟩
  clear c0 c1 f0 f1 hal hB
  generalize (((W0.alloc (.cells #[.int .i64 2, .int .i64 2] 3)).alloc (.cells #[.int .i64 1, .int .i64 1] 3)).alloc (.cells #[.int .i64 3, .int .i64 1] 3)).alloc (.cells #[.slice (some ⟨W0.heap.size + 1, 0, none⟩) 2 2, .slice (some ⟨W0.heap.size + 1 + 1, 0, none⟩) 2 2] 39) = W4 at e1 e2 e3 e4 r1 ⊢
  have hk : ∀ {k : Nat} {o : Obj}, k ≠ w.heap.size → W4.heap[k]? = some o → ((W4.setCell ⟨w.heap.size, 0, none⟩ (.slice (some ⟨W0.heap.size, 0, none⟩) 2 2)).setCell ⟨w.heap.size, 1, none⟩ (.slice (some ⟨W0.heap.size + 1 + 1 + 1, 0, none⟩) 2 2)).heap[k]? = some o := fun hk h => (heap_setCell_other _ _ _ _ hk).trans ((heap_setCell_other _ _ _ _ hk).trans h)
  replace e1 := hk (by omega) e1
  replace e2 := hk (by omega) e2
  replace e3 := hk (by omega) e3
  replace e4 := hk (by omega) e4
  clear hk r1
  generalize (W4.setCell ⟨w.heap.size, 0, none⟩ (.slice (some ⟨W0.heap.size, 0, none⟩) 2 2)).setCell ⟨w.heap.size, 1, none⟩ (.slice (some ⟨W0.heap.size + 1 + 1 + 1, 0, none⟩) 2 2) = W5 at e1 e2 e3 e4 ⊢
  refine ⟨ints_two e1, ⟨fun _ => ⟨_, 0, rfl, heap_lt e4, fun i hi => ?_⟩⟩, rfl, rfl⟩
  obtain ⟨⟨c0, c1⟩, -, -⟩ := row_fr e4
  match i, hi with
  | 0, _ => exact ⟨_, 2, c0, Nat.le_refl _, ints_two e2⟩
  | 1, _ => exact ⟨_, 2, c1, Nat.le_refl _, ints_two e3⟩

theorem ex_val : Kn.val [2, 2] [[1, 1], [3, 1]] = 0 := by decide +kernel
theorem ex_val2 : Kn.val2 [2, 2] [[1, 1], [3, 1]] = 0 := by decide +kernel
theorem ex_knL : Kn.knL [2, 2] [[1, 1], [3, 1]] = [(1, (0, 1), (4, 3)), (0, (4, 3), (4, 1))] := by decide +kernel
theorem ex_evL : Kn.evL [2, 2] [[1, 1], [3, 1]] = [(0, (0, 1), (8, 5)), (1, (8, 5), (4, 1))] := by decide +kernel
theorem ex_rows : ∀ r ∈ [[1, 1], [3, 1]], (r : List Int).length ≤ 100 := by decide
theorem pcs_two (w : World) (a1 a2 a3 a4 a5 b1 b2 b3 b4 b5 : Int) : Pcs (w.alloc (.cells #[.int .i64 a1, .int .i64 a2, .int .i64 a3, .int .i64 a4, .int .i64 a5, .int .i64 b1, .int .i64 b2, .int .i64 b3, .int .i64 b4, .int .i64 b5] 86)) (some ⟨w.heap.size, 0, none⟩) [(a1, (a2, a3), (a4, a5)), (b1, (b2, b3), (b4, b5))] := by
  have h := own_ten (n := 2) (size := 5) (Nat.le_refl w.heap.size) (heap_alloc_new w (.cells #[.int .i64 a1, .int .i64 a2, .int .i64 a3, .int .i64 a4, .int .i64 a5, .int .i64 b1, .int .i64 b2, .int .i64 b3, .int .i64 b4, .int .i64 b5] 86)) rfl (by omega)
  obtain ⟨ao, cap, he, hp⟩ := own_pcs (L := [(a1, (a2, a3), (a4, a5)), (b1, (b2, b3), (b4, b5))]) h rfl
  cases he
  exact hp

set_option maxRecDepth 100000 in
set_option maxHeartbeats 8000000 in
theorem kknown_any (w : World) : Calls Try.prog 42 #[] w fun e w' => e = .returned (.bool true) ∧ Below w.heap.size w w' := by
  have hA := below_alloc4 w (.cells #[.int .i64 0, .int .i64 1] 29) (.cells #[.int .i64 4, .int .i64 1] 29) (.cells #[.int .i64 4, .int .i64 3] 29) (.cells #[.int .i64 8, .int .i64 5] 29)
  obtain ⟨e1, e2, e3, e4⟩ := heap_alloc4 w (.cells #[.int .i64 0, .int .i64 1] 29) (.cells #[.int .i64 4, .int .i64 1] 29) (.cells #[.int .i64 4, .int .i64 3] 29) (.cells #[.int .i64 8, .int .i64 5] 29)
  go_enter Try.func42, Try.ntmps42
  go_upto_region 3 with fail
  generalize (((w.alloc (.cells #[.int .i64 0, .int .i64 1] 29)).alloc (.cells #[.int .i64 4, .int .i64 1] 29)).alloc (.cells #[.int .i64 4, .int .i64 3] 29)).alloc (.cells #[.int .i64 8, .int .i64 5] 29) = W0 at hA e1 e2 e3 e4 ⊢
  obtain ⟨G, hG⟩ : ∃ g, g = w.heap.size := ⟨_, rfl⟩
  rw [← hG] at e1 e2 e3 e4 ⊢
  clear hG
  go_wp2_with fail
  refine ((example_any W0)).mono ?_
  rintro e w1 ⟨aoL, aoV, rfl, hf, hbb⟩
  replace e1 := heap_keep hbb e1
  replace e2 := heap_keep hbb e2
  replace e3 := heap_keep hbb e3
  replace e4 := heap_keep hbb e4
  replace hA := hA.trans (hbb.mono hA.size)
  clear hbb
  have hK := kKnife_any [2, 2] [[1, 1], [3, 1]] aoL 2 2 aoV 2 2 w1 hf (by omega) (by omega) ex_rows
  rw [ex_val, ex_knL] at hK
  go_wp2_with fail
  refine ((hK)).mono ?_
  rintro e w2 ⟨v, rfl, hov, hbb⟩
  replace e1 := heap_keep hbb e1
  replace e2 := heap_keep hbb e2
  replace e3 := heap_keep hbb e3
  replace e4 := heap_keep hbb e4
  replace hA := hA.trans (hbb.mono hA.size)
  clear hbb
  clear hK hf
  obtain ⟨ao1, cap1, rfl, hp1⟩ := own_pcs hov rfl
  clear hov
  go_wp2_with fail
  refine ((example_any w2)).mono ?_
  rintro e w3 ⟨aoL2, aoV2, rfl, hf, hbb⟩
  replace e1 := heap_keep hbb e1
  replace e2 := heap_keep hbb e2
  replace e3 := heap_keep hbb e3
  replace e4 := heap_keep hbb e4
  replace hA := hA.trans (hbb.mono hA.size)
  replace hp1 := hp1.below hbb
  clear hbb
  have hE := kEven_any [2, 2] [[1, 1], [3, 1]] aoL2 2 2 aoV2 2 2 w3 hf (by omega) (by omega) ex_rows
  rw [ex_val2, ex_evL] at hE
  go_wp2_with fail
  refine ((hE)).mono ?_
  rintro e w4 ⟨v, rfl, hov, hbb⟩
  replace e1 := heap_keep hbb e1
  replace e2 := heap_keep hbb e2
  replace e3 := heap_keep hbb e3
  replace e4 := heap_keep hbb e4
  replace hA := hA.trans (hbb.mono hA.size)
  replace hp1 := hp1.below hbb
  clear hbb
  clear hE hf
  obtain ⟨ao2, cap2, rfl, hp2⟩ := own_pcs hov rfl
  clear hov
  obtain ⟨⟨c0, c1⟩, -, -⟩ := row_fr e1
  obtain ⟨⟨d0, d1⟩, -, -⟩ := row_fr e2
  obtain ⟨⟨f0, f1⟩, -, -⟩ := row_fr e3
  go_wp2_with fail
  have hal := (Below.refl w4.heap.size w4).alloc (Nat.le_refl _) (.cells #[.int .i64 1, .int .i64 0, .int .i64 1, .int .i64 4, .int .i64 3, .int .i64 0, .int .i64 4, .int .i64 3, .int .i64 4, .int .i64 1] 86)
  have hpx := pcs_two w4 1 0 1 4 3 0 4 3 4 1
  replace e1 := heap_keep hal e1
  replace e2 := heap_keep hal e2
  replace e3 := heap_keep hal e3
  replace e4 := heap_keep hal e4
  replace hA := hA.trans (hal.mono hA.size)
  replace hp1 := hp1.below hal
  replace hp2 := hp2.below hal
  clear hal c0 c1 d0 d1 f0 f1
  generalize w4.alloc (.cells #[.int .i64 1, .int .i64 0, .int .i64 1, .int .i64 4, .int .i64 3, .int .i64 0, .int .i64 4, .int .i64 3, .int .i64 4, .int .i64 1] 86) = W5 at *
  have hS := samePieces_any _ _ ao1 2 cap1 (some ⟨w4.heap.size, 0, none⟩) 2 2 W5 hp1 hpx rfl rfl (by omega) (by omega)
  rw [decide_eq_true rfl] at hS
  refine hS.mono ?_
  rintro e w6 ⟨rfl, hbb⟩
  replace e1 := heap_keep hbb e1
  replace e2 := heap_keep hbb e2
  replace e3 := heap_keep hbb e3
  replace e4 := heap_keep hbb e4
  replace hA := hA.trans (hbb.mono hA.size)
  replace hp1 := hp1.below hbb
  replace hp2 := hp2.below hbb
  clear hbb hS hpx
  obtain ⟨⟨c0, c1⟩, -, -⟩ := row_fr e1
  obtain ⟨⟨d0, d1⟩, -, -⟩ := row_fr e2
  obtain ⟨⟨f0, f1⟩, -, -⟩ := row_fr e4
  go_wp2_with fail
  have hal := (Below.refl w6.heap.size w6).alloc (Nat.le_refl _) (.cells #[.int .i64 0, .int .i64 0, .int .i64 1, .int .i64 8, .int .i64 5, .int .i64 1, .int .i64 8, .int .i64 5, .int .i64 4, .int .i64 1] 86)
  have hpx := pcs_two w6 0 0 1 8 5 1 8 5 4 1
  replace hA := hA.trans (hal.mono hA.size)
  replace hp2 := hp2.below hal
  have hS := samePieces_any _ _ ao2 2 cap2 (some ⟨w6.heap.size, 0, none⟩) 2 2 _ hp2 hpx rfl rfl (by omega) (by omega)
  rw [decide_eq_true rfl] at hS
  refine hS.mono ?_
  rintro e w7 ⟨rfl, hbb⟩
  replace hA := hA.trans (hbb.mono hA.size)
  replace hp2 := hp2.below hbb
  go_wp2_with fail
  go_ret
  exact ⟨rfl, hA⟩
end Go.Proofs.Ytemlfklipkpacaa
