import Derived.Test.YteecfdjphjkdkaaPc
namespace Go.Proofs.Yteecfdjphjkdkaa
open Go.RowKit Go.Joins Go.Deep Go.ChangeShapes Go.WideShapes Go.ChangeAt
set_option maxHeartbeats 1000000 in
theorem long_any (n cap : Nat) (ao : Option Addr) (E : Int) (w : World) : Calls Try.prog 15 #[.agg #[.slice ao n cap, .int .i64 E]] w fun e w' => e = .returned (.bool (decide (40 < n))) ∧ Below w.heap.size w w' := by
  have r0 := heap_alloc_new w (.cells #[.slice ao n cap, .int .i64 E] 24)
  have hB : Below w.heap.size w (w.alloc (.cells #[.slice ao n cap, .int .i64 E] 24)) := (Below.refl _ w).alloc (Nat.le_refl _) _
  go_enter Try.func15, Try.ntmps15
  go_wp2_with fail
  go_ret
  exact ⟨ret_bool (by simp; omega), hB⟩
set_option maxRecDepth 100000 in
theorem open_case {H : Type} {enc : TypeId × Value → H} {w : World} {v : Value} {d : DataW H} {p : List MemPlace} (hv : Value.okWide Try.prog w .any 0 24 v)
    (h : DataW.Trod enc Try.prog w 0 (fun _ => true) true 24 v d p) : ∃ (ao : Option Addr) (len cap : Nat) (l : List Int) (z : Int), v = .agg #[.slice ao len cap, .int .i64 z] ∧ len = l.length ∧ Ints w ao l ∧ (∀ x ∈ l, Rng x) ∧ Rng z := by
  obtain ⟨cs, rfl, hsz⟩ := okWide_struct Try.underlying24 hv
  obtain ⟨c0, c1, rfl⟩ := array2 (hsz.trans (by kernel_rfl))
  obtain ⟨fuel, hf⟩ := h
  obtain ⟨y0, y1, n2, _, _, h0, h1⟩ := trod_struct2 Try.underlying24 hf
  have hC : Try.prog.cellsOf 22 = 1 := by kernel_rfl
  have hD : Try.prog.cellsOf 3 = 1 := by kernel_rfl
  dsimp only at h0 h1
  rw [hC] at h0
  rw [hD] at h1
  obtain ⟨ao, len, cap, l, rfl, e1, e2, e3, e4⟩ := ints_of (c0 := c0) (by simpa [Value.cells] using h0)
  obtain ⟨b, hb, _, wb⟩ := DataW.trod_int (cs := [c1]) Try.underlying3 (by simpa [Value.cells] using h1)
  simp only [List.cons.injEq, and_true] at hb
  exact ⟨ao, len, cap, l, b, by rw [hb], e1, e3, e4, rng_of wb⟩
end Go.Proofs.Yteecfdjphjkdkaa
