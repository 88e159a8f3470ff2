import Derived.Test.YtngonfbmlfolcaaLq
import Derived.Test.YtngonfbmlfolcaaLi
/- The law KnifeMarks: up to which place a piece has a part. -/
namespace Go.Proofs.Ytngonfbmlfolcaa
open Go.Joins Go.Deep Go.ChangeShapes Go.WideShapes Go.ChangeAt Go.RowKit

set_option maxRecDepth 100000 in
/-- An argument that is a part. -/
theorem open_part {H : Type} {enc : TypeId × Value → H} {w : World} {v : Value} {d : DataW H} {p : List MemPlace} (hv : Value.okWide Try.prog w .any 0 64 v)
    (h : DataW.Trod enc Try.prog w 0 (fun _ => true) true 64 v d p) : ∃ x y : Int, v = .agg #[.int .i64 x, .int .i64 y] ∧ Rng x ∧ Rng y := by
  obtain ⟨cs, rfl, hsz⟩ := okWide_struct Try.underlying64 hv
  obtain ⟨c0, c1, rfl⟩ := array2 (hsz.trans (by kernel_rfl))
  obtain ⟨fuel, hf⟩ := h
  obtain ⟨y0, y1, n2, _, _, h0, h1⟩ := trod_struct2 Try.underlying64 hf
  have k : Try.prog.cellsOf 3 = 1 := by kernel_rfl
  dsimp only at h0 h1
  rw [k] at h0 h1
  obtain ⟨a, ha, _, wa⟩ := DataW.trod_int (cs := [c0]) Try.underlying3 (by simpa [Value.cells] using h0)
  obtain ⟨b, hb, _, wb⟩ := DataW.trod_int (cs := [c1]) Try.underlying3 (by simpa [Value.cells] using h1)
  simp only [List.cons.injEq, and_true] at ha hb
  exact ⟨a, b, by rw [ha, hb], rng_of wa, rng_of wb⟩

set_option maxRecDepth 100000 in
set_option maxHeartbeats 8000000 in
theorem knifeMarks_any (L : List Int) (aoL : Option Addr) (nL cL : Nat) (V : List (List Int)) (aoV : Option Addr) (nV cV : Nat) (o n1 d1 n2 d2 num den : Int) (w : World) (hf : Fld w aoL nL aoV nV L V) (rn1 : Rng n1) (_ : Rng n2) (_ : Rng num) (_ : Rng den) :
    Calls Try.prog 10 #[.agg #[.slice aoL nL cL, .slice aoV nV cV], .agg #[.int .i64 o, .int .i64 n1, .int .i64 d1, .int .i64 n2, .int .i64 d2], .agg #[.int .i64 num, .int .i64 den]] w fun e w' => e = .returned (.bool true) ∧ Below w.heap.size w w' := by
  have hA := below_alloc3 w (.cells #[.slice aoL nL cL, .slice aoV nV cV] 57) (.cells #[.int .i64 o, .int .i64 n1, .int .i64 d1, .int .i64 n2, .int .i64 d2] 59) (.cells #[.int .i64 num, .int .i64 den] 64)
  obtain ⟨rf, rx, rp⟩ := heap_alloc3_all w (.cells #[.slice aoL nL cL, .slice aoV nV cV] 57) (.cells #[.int .i64 o, .int .i64 n1, .int .i64 d1, .int .i64 n2, .int .i64 d2] 59) (.cells #[.int .i64 num, .int .i64 den] 64)
  go_enter Try.func10, Try.ntmps10
  go_upto_region 1 with fail
  generalize ((w.alloc (.cells #[.slice aoL nL cL, .slice aoV nV cV] 57)).alloc (.cells #[.int .i64 o, .int .i64 n1, .int .i64 d1, .int .i64 n2, .int .i64 d2] 59)).alloc (.cells #[.int .i64 num, .int .i64 den] 64) = W0 at hA rf rx rp ⊢
  obtain ⟨G, hG⟩ : ∃ g, g = w.heap.size := ⟨_, rfl⟩
  rw [← hG] at rf rx rp ⊢
  have HG := Lib.hid hG
  clear hG
  replace hf := hf.below hA
  obtain ⟨⟨x0, x1⟩, -, -⟩ := row_fr rf
  go_wp2_with fail
  refine ((klong_any L V _ _ _ _ _ _ W0 hf)).mono ?_
  rintro e w1 ⟨rfl, hbb⟩
  replace hf := hf.below hbb
  replace rf := heap_keep hbb rf
  replace rx := heap_keep hbb rx
  replace rp := heap_keep hbb rp
  replace hA := hA.trans (hbb.mono hA.size)
  clear hbb
  clear x0 x1
  cases hlg : Kn.lng nL nV V with
  | true =>
    go_wp2_with fail
    refine ((kknown_any w1)).mono ?_
    rintro e w2 ⟨rfl, hbb⟩
    replace hf := hf.below hbb
    replace rf := heap_keep hbb rf
    replace rx := heap_keep hbb rx
    replace rp := heap_keep hbb rp
    replace hA := hA.trans (hbb.mono hA.size)
    clear hbb
    go_wp2_with fail
    go_ret
    exact ⟨rfl, hA⟩
  | false =>
    obtain ⟨hl, hv, hr⟩ := lng_no hlg
    clear hlg
    obtain ⟨M, hM⟩ : ∃ c, Kn.mval L V o n1 d1 num den = c := ⟨_, rfl⟩
    obtain ⟨C, hC⟩ : ∃ c, Kn.mcode L V o n1 d1 num den = c := ⟨_, rfl⟩
    obtain ⟨H, hH⟩ : ∃ c, Kn.hval L V o = c := ⟨_, rfl⟩
    obtain ⟨E, hE⟩ : ∃ c, Kn.ocode L V o = c := ⟨_, rfl⟩
    obtain ⟨x, y, hxy⟩ := optFr_pair M
    obtain ⟨p, q, hpq⟩ := optFr_pair H
    obtain ⟨bv, hbv⟩ : ∃ b, M.isSome = b := ⟨_, rfl⟩
    have c1 := fun w' hf' => kMark_any L V o n1 d1 num den aoL nL cL aoV nV cV w' hf' hl hv hr rn1.2
    have c2 := fun w' hf' => sMark_any L V o n1 d1 num den aoL nL cL aoV nV cV w' hf' hl hv hr rn1.1 rn1.2
    have c3 := fun w' hf' => kHalf_any L V o aoL nL cL aoV nV cV w' hf' hl hv hr
    have c4 := fun w' hf' => sHalf_any L V o aoL nL cL aoV nV cV w' hf' hl hv hr
    rw [hM, hC, hxy, hbv] at c1 c2
    rw [hH, hE, hpq] at c3 c4
    have C1 := Lib.hid c1
    have C2 := Lib.hid c2
    have C3 := Lib.hid c3
    have C4 := Lib.hid c4
    clear hM hC hH hE hxy hpq hbv c1 c2 c3 c4 hl hv hr
    obtain ⟨⟨x0, x1⟩, -, -⟩ := row_fr rf
    obtain ⟨⟨v0, v1⟩, -, -⟩ := row_fr rp
    have hc := fun j => cell_of_row w1 (G + 1) j _ _ _ rx
    have u0 := hc 0
    have u1 := hc 1
    have u2 := hc 2
    have u3 := hc 3
    have u4 := hc 4
    simp at u0 u1 u2 u3 u4
    clear hc
    go_wp2_with fail
    refine (C1.out _ hf).mono ?_
    rintro e z0 ⟨rfl, hbb⟩
    replace hf := hf.below hbb
    replace rf := heap_keep hbb rf
    replace rx := heap_keep hbb rx
    replace rp := heap_keep hbb rp
    replace hA := hA.trans (hbb.mono hA.size)
    clear hbb x0 x1 v0 v1 u0 u1 u2 u3 u4 C1
    go_upto_region 4 with fail
    have r0 := heap_alloc_new z0 (.cells #[.int .i64 x, .int .i64 y] 29)
    have hal := (Below.refl z0.heap.size z0).alloc (Nat.le_refl _) (.cells #[.int .i64 x, .int .i64 y] 29)
    replace hf := hf.below hal
    replace rf := heap_keep hal rf
    replace rx := heap_keep hal rx
    replace rp := heap_keep hal rp
    replace hA := hA.trans (hal.mono hA.size)
    clear hal
    generalize z0.alloc (.cells #[.int .i64 x, .int .i64 y] 29) = W1 at hf rf rx rp hA r0 ⊢
    obtain ⟨G0, hG0⟩ : ∃ g, g = z0.heap.size := ⟨_, rfl⟩
    rw [← hG0] at r0 ⊢
    clear hG0
    obtain ⟨⟨x0, x1⟩, -, -⟩ := row_fr rf
    obtain ⟨⟨v0, v1⟩, -, -⟩ := row_fr rp
    have hc := fun j => cell_of_row W1 (G + 1) j _ _ _ rx
    have u0 := hc 0
    have u1 := hc 1
    have u2 := hc 2
    have u3 := hc 3
    have u4 := hc 4
    simp at u0 u1 u2 u3 u4
    clear hc
    go_wp2_with fail
    refine (C2.out _ hf).mono ?_
    rintro e z1 ⟨rfl, hbb⟩
    replace hf := hf.below hbb
    replace rf := heap_keep hbb rf
    replace rx := heap_keep hbb rx
    replace rp := heap_keep hbb rp
    replace hA := hA.trans (hbb.mono hA.size)
    replace r0 := heap_keep hbb r0
    clear hbb x0 x1 v0 v1 u0 u1 u2 u3 u4 C2
    go_upto_region 5 with fail
    have r1 := heap_alloc_new z1 (.cells #[.int .i64 x, .int .i64 y] 29)
    have hal := (Below.refl z1.heap.size z1).alloc (Nat.le_refl _) (.cells #[.int .i64 x, .int .i64 y] 29)
    replace hf := hf.below hal
    replace rf := heap_keep hal rf
    replace rx := heap_keep hal rx
    replace rp := heap_keep hal rp
    replace hA := hA.trans (hal.mono hA.size)
    replace r0 := heap_keep hal r0
    clear hal
    generalize z1.alloc (.cells #[.int .i64 x, .int .i64 y] 29) = W2 at hf rf rx rp hA r0 r1 ⊢
    obtain ⟨G1, hG1⟩ : ∃ g, g = z1.heap.size := ⟨_, rfl⟩
    rw [← hG1] at r1 ⊢
    clear hG1
    obtain ⟨⟨x0, x1⟩, -, -⟩ := row_fr rf
    obtain ⟨⟨v0, v1⟩, -, -⟩ := row_fr rp
    have hc := fun j => cell_of_row W2 (G + 1) j _ _ _ rx
    have u0 := hc 0
    have u1 := hc 1
    have u2 := hc 2
    have u3 := hc 3
    have u4 := hc 4
    simp at u0 u1 u2 u3 u4
    clear hc
    go_wp2_with fail
    refine (C3.out _ hf).mono ?_
    rintro e z2 ⟨rfl, hbb⟩
    replace hf := hf.below hbb
    replace rf := heap_keep hbb rf
    replace rx := heap_keep hbb rx
    replace rp := heap_keep hbb rp
    replace hA := hA.trans (hbb.mono hA.size)
    replace r0 := heap_keep hbb r0
    replace r1 := heap_keep hbb r1
    clear hbb x0 x1 v0 v1 u0 u1 u2 u3 u4 C3
    go_upto_region 6 with fail
    have r2 := heap_alloc_new z2 (.cells #[.int .i64 p, .int .i64 q] 29)
    have hal := (Below.refl z2.heap.size z2).alloc (Nat.le_refl _) (.cells #[.int .i64 p, .int .i64 q] 29)
    replace hf := hf.below hal
    replace rf := heap_keep hal rf
    replace rx := heap_keep hal rx
    replace rp := heap_keep hal rp
    replace hA := hA.trans (hal.mono hA.size)
    replace r0 := heap_keep hal r0
    replace r1 := heap_keep hal r1
    clear hal
    generalize z2.alloc (.cells #[.int .i64 p, .int .i64 q] 29) = W3 at hf rf rx rp hA r0 r1 r2 ⊢
    obtain ⟨G2, hG2⟩ : ∃ g, g = z2.heap.size := ⟨_, rfl⟩
    rw [← hG2] at r2 ⊢
    clear hG2
    obtain ⟨⟨x0, x1⟩, -, -⟩ := row_fr rf
    obtain ⟨⟨v0, v1⟩, -, -⟩ := row_fr rp
    have hc := fun j => cell_of_row W3 (G + 1) j _ _ _ rx
    have u0 := hc 0
    have u1 := hc 1
    have u2 := hc 2
    have u3 := hc 3
    have u4 := hc 4
    simp at u0 u1 u2 u3 u4
    clear hc
    go_wp2_with fail
    refine (C4.out _ hf).mono ?_
    rintro e z3 ⟨rfl, hbb⟩
    replace hf := hf.below hbb
    replace rf := heap_keep hbb rf
    replace rx := heap_keep hbb rx
    replace rp := heap_keep hbb rp
    replace hA := hA.trans (hbb.mono hA.size)
    replace r0 := heap_keep hbb r0
    replace r1 := heap_keep hbb r1
    replace r2 := heap_keep hbb r2
    clear hbb x0 x1 v0 v1 u0 u1 u2 u3 u4 C4
    go_upto_region 7 with fail
    have r3 := heap_alloc_new z3 (.cells #[.int .i64 p, .int .i64 q] 29)
    have hal := (Below.refl z3.heap.size z3).alloc (Nat.le_refl _) (.cells #[.int .i64 p, .int .i64 q] 29)
    replace hf := hf.below hal
    replace rf := heap_keep hal rf
    replace rx := heap_keep hal rx
    replace rp := heap_keep hal rp
    replace hA := hA.trans (hal.mono hA.size)
    replace r0 := heap_keep hal r0
    replace r1 := heap_keep hal r1
    replace r2 := heap_keep hal r2
    clear hal
    generalize z3.alloc (.cells #[.int .i64 p, .int .i64 q] 29) = W4 at hf rf rx rp hA r0 r1 r2 r3 ⊢
    obtain ⟨G3, hG3⟩ : ∃ g, g = z3.heap.size := ⟨_, rfl⟩
    rw [← hG3] at r3 ⊢
    clear hG3
    have e9 : (C == C) = true := by simp
    have e8 : (E == E) = true := by simp
    have heq1 := run_eq_rt x y x y
    have heq2 := run_eq_rt p q p q
    rw [decide_eq_true rfl] at heq1 heq2
    obtain ⟨⟨a0, b0⟩, -, -⟩ := row_fr r0
    obtain ⟨⟨a1, b1⟩, -, -⟩ := row_fr r1
    obtain ⟨⟨a2, b2⟩, -, -⟩ := row_fr r2
    obtain ⟨⟨a3, b3⟩, -, -⟩ := row_fr r3
    clear rf rx rp r0 r1 r2 r3
    cases bv with
    | true =>
      go_wp2_with fail
      refine (kknown_any _).mono ?_
      rintro e v9 ⟨rfl, hb9⟩
      go_wp2_with fail
      go_ret
      exact ⟨rfl, hA.trans (hb9.mono hA.size)⟩
    | false =>
      go_wp2_with fail
      refine (kknown_any _).mono ?_
      rintro e v9 ⟨rfl, hb9⟩
      go_wp2_with fail
      go_ret
      exact ⟨rfl, hA.trans (hb9.mono hA.size)⟩
end Go.Proofs.Ytngonfbmlfolcaa
