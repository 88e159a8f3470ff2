import Derived.Test.YtngonfbmlfolcaaLh
import Derived.Test.YtngonfbmlfolcaaKy
import Derived.Deep.Strs
/- The law KnifeWorths: which fields are valid, and what a piece is worth for an owner. -/
namespace Go.Proofs.Ytngonfbmlfolcaa
open Go.Joins Go.Deep Go.ChangeShapes Go.WideShapes Go.ChangeAt Go.RowKit

theorem array5 {α : Type} {a : Array α} (h : a.size = 5) : ∃ x0 x1 x2 x3 x4, a = #[x0, x1, x2, x3, x4] := by
  obtain ⟨l⟩ := a
  match l, h with
  | [x0, x1, x2, x3, x4], _ => exact ⟨x0, x1, x2, x3, x4, rfl⟩
set_option maxRecDepth 100000 in
/-- An argument that is an owner and two places. -/
theorem open_asked {H : Type} {enc : TypeId × Value → H} {w : World} {v : Value} {d : DataW H} {p : List MemPlace} (hv : Value.okWide Try.prog w .any 0 59 v)
    (h : DataW.Trod enc Try.prog w 0 (fun _ => true) true 59 v d p) : ∃ o n1 d1 n2 d2 : Int, v = .agg #[.int .i64 o, .int .i64 n1, .int .i64 d1, .int .i64 n2, .int .i64 d2] ∧ Rng o ∧ Rng n1 ∧ Rng d1 ∧ Rng n2 ∧ Rng d2 := by
  obtain ⟨cs, rfl, hsz⟩ := okWide_struct Try.underlying59 hv
  obtain ⟨c0, c1, c2, c3, c4, rfl⟩ := array5 (hsz.trans (by kernel_rfl))
  obtain ⟨fuel, hf⟩ := h
  obtain ⟨y0, y1, y2, n2, _, _, h0, h1, h2⟩ := trod_struct3 Try.underlying59 hf
  have hC : Try.prog.cellsOf 29 = 2 := by kernel_rfl
  have hD : Try.prog.cellsOf 3 = 1 := by kernel_rfl
  dsimp only at h0 h1 h2
  rw [hC] at h1 h2
  rw [hD] at h0
  obtain ⟨o, ho, _, wo⟩ := DataW.trod_int (cs := [c0]) Try.underlying3 (by simpa [Value.cells] using h0)
  simp only [List.cons.injEq, and_true] at ho
  obtain ⟨a, b, rfl, rfl, ra, rb⟩ := rat_cells (c0 := c1) (c1 := c2) (by simpa [Value.cells] using h1)
  obtain ⟨c, d, rfl, rfl, rc, rd⟩ := rat_cells (c0 := c3) (c1 := c4) (by simpa [Value.cells] using h2)
  exact ⟨o, a, b, c, d, by rw [ho], rng_of wo, ra, rb, rc, rd⟩

theorem lng_no {nL nV : Nat} {V : List (List Int)} (h : Kn.lng nL nV V = false) : nL ≤ 100 ∧ nV ≤ 100 ∧ ∀ r ∈ V, r.length ≤ 100 := by
  unfold Kn.lng at h
  rw [Bool.or_eq_false_iff, Bool.or_eq_false_iff, decide_eq_false_iff_not, decide_eq_false_iff_not, List.any_eq_false] at h
  refine ⟨by omega, by omega, fun r hr => ?_⟩
  have := h.2.2 r hr
  simpa using this

set_option maxRecDepth 100000 in
set_option maxHeartbeats 8000000 in
theorem knifeWorths_any (L : List Int) (aoL : Option Addr) (nL cL : Nat) (V : List (List Int)) (aoV : Option Addr) (nV cV : Nat) (o n1 d1 n2 d2 : Int) (w : World) (hf : Fld w aoL nL aoV nV L V) (rn1 : Rng n1) (rn2 : Rng n2) :
    Calls Try.prog 9 #[.agg #[.slice aoL nL cL, .slice aoV nV cV], .agg #[.int .i64 o, .int .i64 n1, .int .i64 d1, .int .i64 n2, .int .i64 d2]] w fun e w' => e = .returned (.bool true) ∧ Below w.heap.size w w' := by
  have hA := below_alloc2 w (.cells #[.slice aoL nL cL, .slice aoV nV cV] 57) (.cells #[.int .i64 o, .int .i64 n1, .int .i64 d1, .int .i64 n2, .int .i64 d2] 59)
  have rf := heap_alloc2_old w (.cells #[.slice aoL nL cL, .slice aoV nV cV] 57) (.cells #[.int .i64 o, .int .i64 n1, .int .i64 d1, .int .i64 n2, .int .i64 d2] 59)
  have rx := heap_alloc2_new w (.cells #[.slice aoL nL cL, .slice aoV nV cV] 57) (.cells #[.int .i64 o, .int .i64 n1, .int .i64 d1, .int .i64 n2, .int .i64 d2] 59)
  go_enter Try.func9, Try.ntmps9
  go_upto_region 1 with fail
  generalize (w.alloc (.cells #[.slice aoL nL cL, .slice aoV nV cV] 57)).alloc (.cells #[.int .i64 o, .int .i64 n1, .int .i64 d1, .int .i64 n2, .int .i64 d2] 59) = W0 at hA rf rx ⊢
  obtain ⟨G, hG⟩ : ∃ g, g = w.heap.size := ⟨_, rfl⟩
  rw [← hG] at rf rx ⊢
  have HG := Lib.hid hG
  clear hG
  replace hf := hf.below hA
  obtain ⟨⟨x0, x1⟩, -, -⟩ := row_fr rf
  go_wp2_with fail
  refine ((klong_any L V _ _ _ _ _ _ W0 hf)).mono ?_
  rintro e w1 ⟨rfl, hbb⟩
  replace hf := hf.below hbb
  replace rf := heap_keep hbb rf
  replace rx := heap_keep hbb rx
  replace hA := hA.trans (hbb.mono hA.size)
  clear hbb
  clear x0 x1
  cases hlg : Kn.lng nL nV V with
  | true =>
    go_wp2_with fail
    refine ((kknown_any w1)).mono ?_
    rintro e w2 ⟨rfl, hbb⟩
    replace hf := hf.below hbb
    replace rf := heap_keep hbb rf
    replace rx := heap_keep hbb rx
    replace hA := hA.trans (hbb.mono hA.size)
    clear hbb
    go_wp2_with fail
    go_ret
    exact ⟨rfl, hA⟩
  | false =>
    obtain ⟨hl, hv, hr⟩ := lng_no hlg
    clear hlg
    obtain ⟨⟨x0, x1⟩, -, -⟩ := row_fr rf
    have hc := fun j => cell_of_row w1 (G + 1) j _ _ _ rx
    have u0 := hc 0
    have u1 := hc 1
    have u2 := hc 2
    have u3 := hc 3
    have u4 := hc 4
    simp at u0 u1 u2 u3 u4
    clear hc
    obtain ⟨x, y, hxy⟩ : ∃ x y : Int, Kn.wval L V o n1 d1 n2 d2 = .agg #[.int .i64 x, .int .i64 y] := by unfold Kn.wval; exact frOr_pair _ _
    have hK := kWorth_any L V o n1 d1 n2 d2 aoL nL cL aoV nV cV w1 hf hl hv hr rn1.2 rn2.2
    rw [hxy] at hK
    generalize hC : Kn.wcode L V o n1 d1 n2 d2 = C at hK
    have HC := Lib.hid hC
    clear hC
    go_wp2_with fail
    refine ((hK)).mono ?_
    rintro e w3 ⟨rfl, hbb⟩
    replace hf := hf.below hbb
    replace rf := heap_keep hbb rf
    replace rx := heap_keep hbb rx
    replace hA := hA.trans (hbb.mono hA.size)
    clear hbb
    clear hK x0 x1 u0 u1 u2 u3 u4
    go_upto_region 4 with fail
    have r5 := heap_alloc_new w3 (.cells #[.int .i64 x, .int .i64 y] 29)
    have hal := (Below.refl w3.heap.size w3).alloc (Nat.le_refl _) (.cells #[.int .i64 x, .int .i64 y] 29)
    replace hf := hf.below hal
    replace rf := heap_keep hal rf
    replace rx := heap_keep hal rx
    replace hA := hA.trans (hal.mono hA.size)
    clear hal
    generalize w3.alloc (.cells #[.int .i64 x, .int .i64 y] 29) = W4 at hf rf rx hA r5 ⊢
    obtain ⟨G5, hG5⟩ : ∃ g, g = w3.heap.size := ⟨_, rfl⟩
    rw [← hG5] at r5 ⊢
    clear hG5
    obtain ⟨⟨x0, x1⟩, -, -⟩ := row_fr rf
    have hc := fun j => cell_of_row W4 (G + 1) j _ _ _ rx
    have u0 := hc 0
    have u1 := hc 1
    have u2 := hc 2
    have u3 := hc 3
    have u4 := hc 4
    simp at u0 u1 u2 u3 u4
    clear hc
    have hS := sWorth_any L V o n1 d1 n2 d2 aoL nL cL aoV nV cV W4 hf hl hv hr rn1 rn2
    rw [hxy, HC.out] at hS
    clear hxy HC
    go_wp2_with fail
    refine ((hS)).mono ?_
    rintro e w4 ⟨rfl, hbb⟩
    replace hf := hf.below hbb
    replace rf := heap_keep hbb rf
    replace hA := hA.trans (hbb.mono hA.size)
    replace r5 := heap_keep hbb r5
    clear hbb
    clear hS x0 x1 u0 u1 u2 u3 u4 rx
    go_upto_region 5 with fail
    have r7 := heap_alloc_new w4 (.cells #[.int .i64 x, .int .i64 y] 29)
    have hal := (Below.refl w4.heap.size w4).alloc (Nat.le_refl _) (.cells #[.int .i64 x, .int .i64 y] 29)
    replace hf := hf.below hal
    replace rf := heap_keep hal rf
    replace hA := hA.trans (hal.mono hA.size)
    replace r5 := heap_keep hal r5
    clear hal
    generalize w4.alloc (.cells #[.int .i64 x, .int .i64 y] 29) = wr at hf rf hA r5 r7 ⊢
    obtain ⟨G7, hG7⟩ : ∃ g, g = w4.heap.size := ⟨_, rfl⟩
    rw [← hG7] at r7 ⊢
    clear hG7
    obtain ⟨⟨x0, x1⟩, -, -⟩ := row_fr rf
    obtain ⟨⟨y0, y1⟩, -, -⟩ := row_fr r5
    obtain ⟨⟨z0, z1⟩, -, -⟩ := row_fr r7
    have heq := run_eq_rt x y x y
    rw [decide_eq_true rfl] at heq
    have hdr : Below wr.heap.size wr wr.drew := below_drewN (Below.refl wr.heap.size wr) 1
    have hS0 := And.intro x0 (And.intro x1 (And.intro y0 (And.intro y1 (And.intro z0 z1))))
    have keepS : ∀ {W : World}, Below wr.heap.size wr W → (wr.cell? ⟨G, 0, none⟩ = some (.slice aoL nL cL) ∧ wr.cell? ⟨G, 1, none⟩ = some (.slice aoV nV cV) ∧ wr.cell? ⟨G5, 0, none⟩ = some (.int .i64 x) ∧ wr.cell? ⟨G5, 1, none⟩ = some (.int .i64 y) ∧ wr.cell? ⟨G7, 0, none⟩ = some (.int .i64 x) ∧ wr.cell? ⟨G7, 1, none⟩ = some (.int .i64 y)) → (W.cell? ⟨G, 0, none⟩ = some (.slice aoL nL cL) ∧ W.cell? ⟨G, 1, none⟩ = some (.slice aoV nV cV) ∧ W.cell? ⟨G5, 0, none⟩ = some (.int .i64 x) ∧ W.cell? ⟨G5, 1, none⟩ = some (.int .i64 y) ∧ W.cell? ⟨G7, 0, none⟩ = some (.int .i64 x) ∧ W.cell? ⟨G7, 1, none⟩ = some (.int .i64 y)) :=
      fun hb h => ⟨keep_cell hb h.1, keep_cell hb h.2.1, keep_cell hb h.2.2.1, keep_cell hb h.2.2.2.1, keep_cell hb h.2.2.2.2.1, keep_cell hb h.2.2.2.2.2⟩
    obtain ⟨D, hD⟩ : ∃ D, Kn.val L V = D := ⟨_, rfl⟩
    have hV1 := fun (w' : World) (hb : Below wr.heap.size wr w') => kValidate_any L V aoL nL cL aoV nV cV w' (hf.below hb) hl hv hr
    have hV2 := fun (w' : World) (hb : Below wr.heap.size wr w') => sValidate_any L V aoL nL cL aoV nV cV w' (hf.below hb) hl hv hr
    rw [hD] at hV1 hV2
    have HV1 := Lib.hid hV1
    have HV2 := Lib.hid hV2
    clear hD hV1 hV2 x0 x1 y0 y1 z0 z1
    refine wp_region_held_drew (S := fun w' => w'.cell? ⟨G, 0, none⟩ = some (.slice aoL nL cL) ∧ w'.cell? ⟨G, 1, none⟩ = some (.slice aoV nV cV) ∧ w'.cell? ⟨G5, 0, none⟩ = some (.int .i64 x) ∧ w'.cell? ⟨G5, 1, none⟩ = some (.int .i64 y) ∧ w'.cell? ⟨G7, 0, none⟩ = some (.int .i64 x) ∧ w'.cell? ⟨G7, 1, none⟩ = some (.int .i64 y)) (by kernel_rfl) (keepS hdr hS0) (fun hHeld => ?_)
    refine wpAnyH_take (i := 0) (v := .agg #[.slice aoL nL cL, .slice aoV nV cV]) rfl (by kernel_rfl) (by kernel_rfl) (by kernel_rfl) (fun _ _ _ h => h) (Or.inl ⟨by rfl, fun w hSw => ?_⟩) (by assumption) ?_
    · obtain ⟨s0, s1, s2, s3, s4, s5⟩ := hSw
      (go_simp <;> omega)
    try simp only [List.getElem_toArray, List.getElem_cons_zero, Act.put, List.setIfInBounds_toArray, List.set_cons_zero, List.set_cons_succ]
    refine wpAnyH_take (i := 2) (v := .agg #[.slice aoL nL cL, .slice aoV nV cV]) rfl (by kernel_rfl) (by kernel_rfl) (by kernel_rfl) (fun _ _ _ h => h) (Or.inl ⟨by rfl, fun w hSw => ?_⟩) (by assumption) ?_
    · obtain ⟨s0, s1, s2, s3, s4, s5⟩ := hSw
      (go_simp <;> omega)
    try simp only [List.getElem_toArray, List.getElem_cons_zero, List.getElem_cons_succ, Act.put, List.setIfInBounds_toArray, List.set_cons_zero, List.set_cons_succ]
    refine wpAnyH_ready (rs := [1]) (by kernel_rfl) (by simp) ?_
    refine AllReadyH.cons rfl (fun K hK => ?_) AllReadyH.nil
    go_simp
    go_at_call 44
    refine (HV1.out _ hdr).mono ?_
    rintro e v1 ⟨rfl, hb1⟩
    have hb1' := hdr.trans (hb1.mono hdr.size)
    (try dsimp only)
    refine hK.out _ _ (keepS hb1' hS0) (fun hHeld => ?_)
    clear hK K
    try simp only [List.getElem_toArray, List.getElem_cons_zero, List.getElem_cons_succ, Act.put, List.setIfInBounds_toArray, List.set_cons_zero, List.set_cons_succ]
    refine wpAnyH_ready (rs := [3]) (by kernel_rfl) (by simp) ?_
    refine AllReadyH.cons rfl (fun K hK => ?_) AllReadyH.nil
    go_simp
    go_at_call 45
    refine (HV2.out _ hb1').mono ?_
    rintro e v2 ⟨rfl, hb2⟩
    have hb2' := hb1'.trans (hb2.mono hb1'.size)
    (try dsimp only)
    refine hK.out _ _ (keepS hb2' hS0) (fun hHeld => ?_)
    clear hK K
    try simp only [List.getElem_toArray, List.getElem_cons_zero, List.getElem_cons_succ, Act.put, List.setIfInBounds_toArray, List.set_cons_zero, List.set_cons_succ]
    refine wpAnyH_take (i := 4) (v := .bool true) rfl (by kernel_rfl) (by kernel_rfl) (by kernel_rfl) (fun _ _ _ h => h) (Or.inl ⟨by rfl, fun w hSw => ?_⟩) (by assumption) ?_
    · obtain ⟨s0, s1, s2, s3, s4, s5⟩ := hSw
      (go_simp <;> omega)
    try simp only [List.getElem_toArray, List.getElem_cons_zero, List.getElem_cons_succ, Act.put, List.setIfInBounds_toArray, List.set_cons_zero, List.set_cons_succ]
    refine wpAnyH_take (i := 5) (v := .bool true) rfl (by kernel_rfl) (by kernel_rfl) (by kernel_rfl) (fun _ _ _ h => h) (Or.inl ⟨by rfl, fun w hSw => ?_⟩) (by assumption) ?_
    · obtain ⟨s0, s1, s2, s3, s4, s5⟩ := hSw
      (go_simp <;> omega)
    try simp only [List.getElem_toArray, List.getElem_cons_zero, List.getElem_cons_succ, Act.put, List.setIfInBounds_toArray, List.set_cons_zero, List.set_cons_succ]
    refine wpAnyH_take (i := 6) (v := .agg #[.int .i64 x, .int .i64 y]) rfl (by kernel_rfl) (by kernel_rfl) (by kernel_rfl) (fun _ _ _ h => h) (Or.inl ⟨by rfl, fun w hSw => ?_⟩) (by assumption) ?_
    · obtain ⟨s0, s1, s2, s3, s4, s5⟩ := hSw
      (go_simp <;> omega)
    try simp only [List.getElem_toArray, List.getElem_cons_zero, List.getElem_cons_succ, Act.put, List.setIfInBounds_toArray, List.set_cons_zero, List.set_cons_succ]
    refine wpAnyH_take (i := 7) (v := .agg #[.int .i64 x, .int .i64 y]) rfl (by kernel_rfl) (by kernel_rfl) (by kernel_rfl) (fun _ _ _ h => h) (Or.inl ⟨by rfl, fun w hSw => ?_⟩) (by assumption) ?_
    · obtain ⟨s0, s1, s2, s3, s4, s5⟩ := hSw
      (go_simp <;> omega)
    try simp only [List.getElem_toArray, List.getElem_cons_zero, List.getElem_cons_succ, Act.put, List.setIfInBounds_toArray, List.set_cons_zero, List.set_cons_succ]
    refine wpAnyH_take (i := 8) (v := .bool true) rfl (by kernel_rfl) (by kernel_rfl) (by kernel_rfl) (fun _ _ _ h => h) (Or.inl ⟨by rfl, fun w hSw => ?_⟩) (by assumption) ?_
    · obtain ⟨s0, s1, s2, s3, s4, s5⟩ := hSw
      (go_simp <;> omega)
    try simp only [List.getElem_toArray, List.getElem_cons_zero, List.getElem_cons_succ, Act.put, List.setIfInBounds_toArray, List.set_cons_zero, List.set_cons_succ]
    refine wpAnyH_take (i := 9) (v := .bool true) rfl (by kernel_rfl) (by kernel_rfl) (by kernel_rfl) (fun _ _ _ h => h) (Or.inl ⟨by rfl, fun w hSw => ?_⟩) (by assumption) ?_
    · obtain ⟨s0, s1, s2, s3, s4, s5⟩ := hSw
      (go_simp <;> omega)
    try simp only [List.getElem_toArray, List.getElem_cons_zero, List.getElem_cons_succ, Act.put, List.setIfInBounds_toArray, List.set_cons_zero, List.set_cons_succ]
    refine wpAnyH_take (i := 10) (v := .bool true) rfl (by kernel_rfl) (by kernel_rfl) (by kernel_rfl) (fun _ _ _ h => h) (Or.inl ⟨by rfl, fun w hSw => ?_⟩) (by assumption) ?_
    · obtain ⟨s0, s1, s2, s3, s4, s5⟩ := hSw
      (go_simp <;> omega)
    try simp only [List.getElem_toArray, List.getElem_cons_zero, List.getElem_cons_succ, Act.put, List.setIfInBounds_toArray, List.set_cons_zero, List.set_cons_succ]
    refine wpAnyH_take (i := 11) (v := .int .i64 C) rfl (by kernel_rfl) (by kernel_rfl) (by kernel_rfl) (fun _ _ _ h => h) (Or.inl ⟨by rfl, fun w hSw => ?_⟩) (by assumption) ?_
    · obtain ⟨s0, s1, s2, s3, s4, s5⟩ := hSw
      (go_simp <;> omega)
    try simp only [List.getElem_toArray, List.getElem_cons_zero, List.getElem_cons_succ, Act.put, List.setIfInBounds_toArray, List.set_cons_zero, List.set_cons_succ]
    refine wpAnyH_take (i := 12) (v := .int .i64 C) rfl (by kernel_rfl) (by kernel_rfl) (by kernel_rfl) (fun _ _ _ h => h) (Or.inl ⟨by rfl, fun w hSw => ?_⟩) (by assumption) ?_
    · obtain ⟨s0, s1, s2, s3, s4, s5⟩ := hSw
      (go_simp <;> omega)
    try simp only [List.getElem_toArray, List.getElem_cons_zero, List.getElem_cons_succ, Act.put, List.setIfInBounds_toArray, List.set_cons_zero, List.set_cons_succ]
    refine wpAnyH_take (i := 13) (v := .bool true) rfl (by kernel_rfl) (by kernel_rfl) (by kernel_rfl) (fun _ _ _ h => h) (Or.inl ⟨by rfl, fun w hSw => ?_⟩) (by assumption) ?_
    · obtain ⟨s0, s1, s2, s3, s4, s5⟩ := hSw
      (go_simp <;> omega)
    try simp only [List.getElem_toArray, List.getElem_cons_zero, List.getElem_cons_succ, Act.put, List.setIfInBounds_toArray, List.set_cons_zero, List.set_cons_succ]
    refine wpAnyH_take (i := 14) (v := .bool true) rfl (by kernel_rfl) (by kernel_rfl) (by kernel_rfl) (fun _ _ _ h => h) (Or.inl ⟨by rfl, fun w hSw => ?_⟩) (by assumption) ?_
    · obtain ⟨s0, s1, s2, s3, s4, s5⟩ := hSw
      (go_simp <;> omega)
    try simp only [List.getElem_toArray, List.getElem_cons_zero, List.getElem_cons_succ, Act.put, List.setIfInBounds_toArray, List.set_cons_zero, List.set_cons_succ]
    refine wpAnyH_take (i := 15) (v := .bool true) rfl (by kernel_rfl) (by kernel_rfl) (by kernel_rfl) (fun _ _ _ h => h) (Or.inl ⟨by rfl, fun w hSw => ?_⟩) (by assumption) ?_
    · obtain ⟨s0, s1, s2, s3, s4, s5⟩ := hSw
      (go_simp <;> omega)
    try simp only [List.getElem_toArray, List.getElem_cons_zero, List.getElem_cons_succ, Act.put, List.setIfInBounds_toArray, List.set_cons_zero, List.set_cons_succ]
    refine wpAnyH_ready (rs := [16]) (by kernel_rfl) (by simp) ?_
    refine AllReadyH.cons rfl (fun K hK => ?_) AllReadyH.nil
    go_simp
    go_at_call 41
    refine (kknown_any _).mono ?_
    rintro e v3 ⟨rfl, hb3⟩
    have hb3' := hb2'.trans (hb3.mono hb2'.size)
    (try dsimp only)
    refine hK.out _ _ (keepS hb3' hS0) (fun hHeld => ?_)
    clear hK K
    try simp only [List.getElem_toArray, List.getElem_cons_zero, List.getElem_cons_succ, Act.put, List.setIfInBounds_toArray, List.set_cons_zero, List.set_cons_succ]
    refine wpAnyH_take (i := 17) (v := .bool true) rfl (by kernel_rfl) (by kernel_rfl) (by kernel_rfl) (fun _ _ _ h => h) (Or.inl ⟨by rfl, fun w hSw => ?_⟩) (by assumption) ?_
    · obtain ⟨s0, s1, s2, s3, s4, s5⟩ := hSw
      (go_simp <;> omega)
    try simp only [List.getElem_toArray, List.getElem_cons_zero, List.getElem_cons_succ, Act.put, List.setIfInBounds_toArray, List.set_cons_zero, List.set_cons_succ]
    refine wpAnyH_take (i := 18) (v := .bool true) rfl (by kernel_rfl) (by kernel_rfl) (by kernel_rfl) (fun _ _ _ h => h) (Or.inl ⟨by rfl, fun w hSw => ?_⟩) (by assumption) ?_
    · obtain ⟨s0, s1, s2, s3, s4, s5⟩ := hSw
      (go_simp <;> omega)
    try simp only [List.getElem_toArray, List.getElem_cons_zero, List.getElem_cons_succ, Act.put, List.setIfInBounds_toArray, List.set_cons_zero, List.set_cons_succ]
    refine wpAnyH_done (by kernel_rfl) ?_ _
    go_wp2_with fail
    go_ret
    exact ⟨rfl, hA.trans (hb3'.mono hA.size)⟩
end Go.Proofs.Ytngonfbmlfolcaa
