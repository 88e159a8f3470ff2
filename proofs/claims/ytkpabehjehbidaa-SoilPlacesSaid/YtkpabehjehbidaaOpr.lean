import Derived.Test.YtkpabehjehbidaaOpz
import Derived.Lib.SmallJoins
namespace Go.Proofs.Ytkpabehjehbidaa
open Go.Joins Go.Deep Go.ChangeShapes Go.WideShapes Go.ChangeAt Go.RowKit

/-- Numbers that an int can hold. -/
def Rng (n : Int) : Prop := -9223372036854775808 ≤ n ∧ n ≤ 9223372036854775807
theorem rng_of {n : Int} (h : (Lit.int .i64 n).wf = true) : Rng n := by
  unfold Rng
  simp only [Lit.wf, Bool.and_eq_true, decide_eq_true_eq] at h
  have h1 : IntKind.i64.min = -9223372036854775808 := by decide +kernel
  have h2 : IntKind.i64.max = 9223372036854775807 := by decide +kernel
  omega
theorem array4 {α : Type} {a : Array α} (h : a.size = 4) : ∃ x0 x1 x2 x3, a = #[x0, x1, x2, x3] := by
  obtain ⟨l⟩ := a
  match l, h with
  | [x0, x1, x2, x3], _ => exact ⟨x0, x1, x2, x3, rfl⟩

set_option maxRecDepth 100000 in
theorem rat_cells {H : Type} {enc : TypeId × Value → H} {w : World} {n : Nat} {c0 c1 : Value} {y : DataW H × List MemPlace} (h : DataW.trod enc Try.prog w 0 (fun _ => true) true n 29 [c0, c1] = some y) :
    ∃ a b : Int, c0 = .int .i64 a ∧ c1 = .int .i64 b ∧ Rng a ∧ Rng b := by
  obtain ⟨y0, y1, n2, _, _, h0, h1⟩ := trod_struct2 Try.underlying29 h
  have k : Try.prog.cellsOf 3 = 1 := by kernel_rfl
  dsimp only at h0 h1
  rw [k] at h0 h1
  obtain ⟨a, ha, _, wa⟩ := DataW.trod_int (cs := [c0]) Try.underlying3 h0
  obtain ⟨b, hb, _, wb⟩ := DataW.trod_int (cs := [c1]) Try.underlying3 h1
  simp only [List.cons.injEq, and_true] at ha hb
  exact ⟨a, b, ha, hb, rng_of wa, rng_of wb⟩

set_option maxRecDepth 100000 in
/-- An argument that is a fraction. -/
theorem open_rat {H : Type} {enc : TypeId × Value → H} {w : World} {v : Value} {d : DataW H} {p : List MemPlace} (hv : Value.okWide Try.prog w .any 0 29 v)
    (h : DataW.Trod enc Try.prog w 0 (fun _ => true) true 29 v d p) : ∃ x y : Int, v = .agg #[.int .i64 x, .int .i64 y] ∧ Rng x ∧ Rng y := by
  obtain ⟨cs, rfl, hsz⟩ := okWide_struct Try.underlying29 hv
  obtain ⟨c0, c1, rfl⟩ := array2 (hsz.trans (by kernel_rfl))
  obtain ⟨fuel, hf⟩ := h
  obtain ⟨a, b, rfl, rfl, ra, rb⟩ := rat_cells (c0 := c0) (c1 := c1) (by simpa [Value.cells] using hf)
  exact ⟨a, b, rfl, ra, rb⟩

set_option maxRecDepth 100000 in
/-- An argument that is two places. -/
theorem open_stretch {H : Type} {enc : TypeId × Value → H} {w : World} {v : Value} {d : DataW H} {p : List MemPlace} (hv : Value.okWide Try.prog w .any 0 35 v)
    (h : DataW.Trod enc Try.prog w 0 (fun _ => true) true 35 v d p) : ∃ n1 d1 n2 d2 : Int, v = .agg #[.int .i64 n1, .int .i64 d1, .int .i64 n2, .int .i64 d2] ∧ Rng n1 ∧ Rng d1 ∧ Rng n2 ∧ Rng d2 := by
  obtain ⟨cs, rfl, hsz⟩ := okWide_struct Try.underlying35 hv
  obtain ⟨c0, c1, c2, c3, rfl⟩ := array4 (hsz.trans (by kernel_rfl))
  obtain ⟨fuel, hf⟩ := h
  obtain ⟨y0, y1, n2, _, _, h0, h1⟩ := trod_struct2 Try.underlying35 hf
  have hC : Try.prog.cellsOf 29 = 2 := by kernel_rfl
  dsimp only at h0 h1
  rw [hC] at h0 h1
  obtain ⟨a, b, rfl, rfl, ra, rb⟩ := rat_cells (c0 := c0) (c1 := c1) (by simpa [Value.cells] using h0)
  obtain ⟨c, d, rfl, rfl, rc, rd⟩ := rat_cells (c0 := c2) (c1 := c3) (by simpa [Value.cells] using h1)
  exact ⟨a, b, c, d, rfl, ra, rb, rc, rd⟩
end Go.Proofs.Ytkpabehjehbidaa
