import Derived.Test.YtmdkdkiejcjmaaaTl
import Derived.Lib.SmallJoins
/- Package selionlaw08: its arguments, Long; terms that grow. -/
namespace Go.Proofs.Ytmdkdkiejcjmaaa
open Go.Joins Go.Deep Go.ChangeShapes Go.WideShapes Go.ChangeAt Go.RowKit
namespace Tm
theorem Nth.mono {p : Nat → Bool} {d d' n n' x y : Nat} (hd : d ≤ d') (hn : n ≤ n') (h : Nth p d n x) (k : Nth p d' n' y) : x ≤ y := by
  rcases Nat.lt_or_ge y x with hlt | hge
  · have h1 := k.le
    have h2 := cnt_mono (p := p) (d := d) (show y - d + 1 ≤ x - d by omega)
    rw [cnt_succ, show d + (y - d) = y by omega, if_pos k.is] at h2
    have h3 := cnt_add p d (d' - d) (y - d')
    rw [show d' - d + (y - d') = y - d by omega, show d + (d' - d) = d' by omega] at h3
    have := h.num
    have := k.num
    omega
  · exact hge
theorem After.mono {p : Nat → Bool} {d d' n n' x y : Nat} (hd : d ≤ d') (hn : n ≤ n') (h : After p d n x) (k : After p d' n' y) : x ≤ y := by
  rcases h with ⟨h1, rfl⟩ | ⟨h1, h⟩
  · rcases k with ⟨k1, rfl⟩ | ⟨k1, k⟩
    · exact hd
    · have := k.le; omega
  · rcases k with ⟨k1, rfl⟩ | ⟨k1, k⟩
    · omega
    · exact Nth.mono (by omega) hn h k
theorem Ends.mono {c p : Nat → Bool} {d d' n n' x y : Nat} (hd : d ≤ d') (hn : n ≤ n') (h : Ends c p d n x) (k : Ends c p d' n' y) : x ≤ y := by
  obtain ⟨a, h1, h2⟩ := h
  obtain ⟨b, k1, k2⟩ := k
  exact Nth.mono (After.mono hd hn h1 k1) (Nat.le_refl _) h2 k2
end Tm
set_option maxRecDepth 100000 in
/-- An argument that is a calendar. -/
theorem open_cal {H : Type} {enc : TypeId × Value → H} {w : World} {v : Value} {d : DataW H} {p : List MemPlace} (hv : Value.okWide Try.prog w .any 0 25 v)
    (h : DataW.Trod enc Try.prog w 0 (fun _ => true) true 25 v d p) : ∃ (f : Int) (aoF : Option Addr) (nF cF : Nat) (F : List Int) (aoS : Option Addr) (nS cS : Nat) (S : List (Int × Int)), v = .agg #[.int .i64 f, .slice aoF nF cF, .slice aoS nS cS] ∧ Cl w aoF nF aoS nS F S ∧ Rng f ∧ nF ≤ cF ∧ nS ≤ cS ∧ (∀ x ∈ F, Rng x) ∧ ∀ x ∈ S, Rng x.1 ∧ Rng x.2 := by
  obtain ⟨cs, rfl, hsz⟩ := okWide_struct Try.underlying25 hv
  obtain ⟨c0, c1, c2, rfl⟩ := array3 (hsz.trans (by kernel_rfl))
  obtain ⟨fuel, hf⟩ := h
  obtain ⟨y0, y1, y2, n2, _, _, h0, h1, h2⟩ := trod_struct3 Try.underlying25 hf
  have hC : Try.prog.cellsOf 22 = 1 := by kernel_rfl
  have hD : Try.prog.cellsOf 3 = 1 := by kernel_rfl
  have hE : Try.prog.cellsOf 23 = 1 := by kernel_rfl
  dsimp only at h0 h1 h2
  try rw [hD] at h0
  try rw [hC] at h1
  try rw [hD] at h1
  try rw [hE] at h2
  try rw [hC] at h2
  try rw [hD] at h2
  obtain ⟨b, hb, _, wb⟩ := DataW.trod_int (cs := [c0]) Try.underlying3 (by simpa [Value.cells] using h0)
  simp only [List.cons.injEq, and_true] at hb
  obtain ⟨ao, len, cap, l, rfl, e1, e2, e3, e4⟩ := ints_of (c0 := c1) (by simpa [Value.cells] using h1)
  obtain ⟨ao2, len2, cap2, l2, rfl, f1, f2, f3, f4⟩ := rats_of (c0 := c2) (by simpa [Value.cells] using h2)
  exact ⟨b, ao, len, cap, l, ao2, len2, cap2, l2, by rw [hb], ⟨e3, f3, e1, f1⟩, rng_of wb, e2, f2, e4, f4⟩
set_option maxRecDepth 100000 in
/-- An argument that is two numbers. -/
theorem open_two {H : Type} {enc : TypeId × Value → H} {w : World} {v : Value} {d : DataW H} {p : List MemPlace} (hv : Value.okWide Try.prog w .any 0 38 v)
    (h : DataW.Trod enc Try.prog w 0 (fun _ => true) true 38 v d p) : ∃ x y : Int, v = .agg #[.int .i64 x, .int .i64 y] ∧ Rng x ∧ Rng y := by
  obtain ⟨cs, rfl, hsz⟩ := okWide_struct Try.underlying38 hv
  obtain ⟨c0, c1, rfl⟩ := array2 (hsz.trans (by kernel_rfl))
  obtain ⟨fuel, hf⟩ := h
  obtain ⟨y0, y1, n2, _, _, h0, h1⟩ := trod_struct2 Try.underlying38 hf
  have k : Try.prog.cellsOf 3 = 1 := by kernel_rfl
  dsimp only at h0 h1
  rw [k] at h0 h1
  obtain ⟨a, ha, _, wa⟩ := DataW.trod_int (cs := [c0]) Try.underlying3 (by simpa [Value.cells] using h0)
  obtain ⟨b, hb, _, wb⟩ := DataW.trod_int (cs := [c1]) Try.underlying3 (by simpa [Value.cells] using h1)
  simp only [List.cons.injEq, and_true] at ha hb
  exact ⟨a, b, by rw [ha, hb], rng_of wa, rng_of wb⟩

set_option maxRecDepth 100000 in
set_option maxHeartbeats 2000000 in
theorem tlong_any (f : Int) (_ : List Int) (_ : List (Int × Int)) (aoF : Option Addr) (nF cF : Nat) (aoS : Option Addr) (nS cS : Nat) (w : World) :
    Calls Try.prog 17 #[.agg #[.int .i64 f, .slice aoF nF cF, .slice aoS nS cS]] w fun e w' => e = .returned (.bool (decide (100 < nF) || decide (100 < nS))) ∧ Below w.heap.size w w' := by
  have hA := (Below.refl _ w).alloc (Nat.le_refl _) (.cells #[.int .i64 f, .slice aoF nF cF, .slice aoS nS cS] 25)
  have rc := heap_alloc_new w (.cells #[.int .i64 f, .slice aoF nF cF, .slice aoS nS cS] 25)
  have c1 := cell_of_row _ _ 1 _ _ _ rc
  have c2 := cell_of_row _ _ 2 _ _ _ rc
  simp only [List.getElem?_toArray, List.getElem?_cons_succ, List.getElem?_cons_zero] at c1 c2
  go_enter Try.func17, Try.ntmps17
  by_cases h1 : 100 < nF
  · have i1 : (100 : Int) < (nF : Int) := by omega
    go_wp2_with fail
    go_ret
    exact ⟨ret_bool (by rw [decide_eq_true h1]; rfl), hA⟩
  · have i1 : ¬ (100 : Int) < (nF : Int) := by omega
    by_cases h2 : 100 < nS
    · have i2 : (100 : Int) < (nS : Int) := by omega
      go_wp2_with fail
      go_ret
      exact ⟨rfl, hA⟩
    · have i2 : ¬ (100 : Int) < (nS : Int) := by omega
      go_wp2_with fail
      go_ret
      exact ⟨rfl, hA⟩
end Go.Proofs.Ytmdkdkiejcjmaaa
