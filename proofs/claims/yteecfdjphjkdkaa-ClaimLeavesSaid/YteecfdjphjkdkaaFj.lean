import Derived.Test.YteecfdjphjkdkaaFh
namespace Go.Proofs.Yteecfdjphjkdkaa
open Go.RowKit
set_option maxRecDepth 100000 in
set_option maxHeartbeats 2000000 in
theorem clo5_any (c : Int) (q : Rat) (w : World) (hc : 0 ≤ c ∧ c ≤ 1000) (hq : q.den ≤ 8) (hn : 0 ≤ q.num ∧ q.num ≤ 8000) :
    Calls Try.prog 93 #[.int .i64 c, Fr q] w fun e w' => e = .returned (Fr (mkRat (c * q.den + max 0 (c * q.den - q.num)) (2 * q.den))) ∧ Below w.heap.size w w' := by
  have b1 : 0 ≤ c * (q.den : Int) := Int.mul_nonneg hc.1 (by omega)
  have b2 : c * (q.den : Int) ≤ 1000 * 8 := Int.mul_le_mul hc.2 (by omega) (by omega) (by omega)
  have hd : 0 < q.den := q.den_pos
  have e1 : IntKind.i64.wrap (c * (q.den : Int)) = c * (q.den : Int) := IntWalk.i64_in _ (by omega)
  have e2 : IntKind.i64.wrap (2 * (q.den : Int)) = ((2 * q.den : Nat) : Int) := by rw [IntWalk.i64_in _ (by omega)]; omega
  obtain ⟨V, hV⟩ : ∃ V : Nat, (V : Int) = c * q.den + max 0 (c * q.den - q.num) := ⟨(c * q.den + max 0 (c * q.den - q.num)).toNat, by omega⟩
  have hVb : V ≤ 16000 := by omega
  rw [← hV]
  have HV := Lib.hid hV
  clear hV
  have e3 : IntKind.i64.wrap (c * (q.den : Int) + max 0 (c * (q.den : Int) - q.num)) = (V : Int) := by rw [← HV.out]; exact IntWalk.i64_in _ (by omega)
  have HX := Lib.hid (And.intro b1 b2)
  clear b1 b2
  have r1 := heap_alloc2_new w (.cells #[.int .i64 q.num, .int .i64 q.den] 35) (.cells #[.int .i64 0, .int .i64 0] 35)
  have r0 : ((w.alloc (.cells #[.int .i64 q.num, .int .i64 q.den] 35)).alloc (.cells #[.int .i64 0, .int .i64 0] 35)).heap[w.heap.size]? = some (.cells #[.int .i64 q.num, .int .i64 q.den] 35 (0, 0)) := heap_at ((Below.refl _ (w.alloc (.cells #[.int .i64 q.num, .int .i64 q.den] 35))).alloc (Nat.le_refl _) (.cells #[.int .i64 0, .int .i64 0] 35)) (k := w.heap.size) (by simp) (heap_alloc_new w _)
  have hB : Below w.heap.size w ((w.alloc (.cells #[.int .i64 q.num, .int .i64 q.den] 35)).alloc (.cells #[.int .i64 0, .int .i64 0] 35)) := below_alloc2 w _ _
  rw [show Fr q = .agg #[.int .i64 q.num, .int .i64 q.den] from rfl]
  go_enter Try.func93, Try.ntmps93
  go_upto_region 1 with fail
  generalize ((w.alloc (.cells #[.int .i64 q.num, .int .i64 q.den] 35)).alloc (.cells #[.int .i64 0, .int .i64 0] 35)) = W at r0 r1 hB ⊢
  obtain ⟨G, hG⟩ : ∃ G, G = w.heap.size := ⟨_, rfl⟩
  rw [← hG] at r0 r1 hB ⊢
  have HG := Lib.hid hG
  clear hG
  obtain ⟨⟨c0, c1⟩, -, -⟩ := row_fr r0
  go_region_with (first
    | (go_at_call 89; refine (above_any c q _ hc (by omega) hn).mono ?_; rintro e w4 ⟨rfl, hb1⟩; have ka0 := keep_cell hb1 c0; have ka1 := keep_cell hb1 c1; skip)
    | (go_at_call 70; refine (lowest_any V (2 * q.den) _ (by omega) (by omega) (by omega)).mono ?_; rintro e w5 ⟨rfl, hb2⟩; have hbb : Below W.heap.size W w5 := ((below_drewN (Below.refl _ W) 1).trans hb1).trans (hb2.mono (by have := hb1.size; exact this)); have r5 := heap_keep hbb r1; obtain ⟨⟨d0, d1⟩, f0, f1⟩ := row_fr r5))
  all_goals go_wp2_with fail
  all_goals
    have hB6 := hB.trans (hbb.mono (Nat.le_of_lt (heap_lt r0)))
    have h4 := two_cells r5 (.int .i64 (mkRat V (2 * q.den)).num) (.int .i64 (mkRat V (2 * q.den)).den)
    exact bodyPost_ret (results_cell_row rfl _ _ _ _ _ _ _ rfl h4 Try.underlying35 rfl infoRat2) rfl ⟨rfl, by rw [← HG.out]; first | exact below_drewN (below_setCell (below_setCell hB6 (Nat.le_succ G) _) (Nat.le_succ G) _) 1 | exact below_setCell (below_setCell hB6 (Nat.le_succ G) _) (Nat.le_succ G) _⟩
end Go.Proofs.Yteecfdjphjkdkaa
