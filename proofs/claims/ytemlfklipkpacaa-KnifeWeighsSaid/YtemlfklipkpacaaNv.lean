import Derived.Test.YtemlfklipkpacaaNu
/- Package knife: slices.Max of numbers; Weigh of the code and of the reference. -/
namespace Go.Proofs.Ytemlfklipkpacaa
open Go.RowKit

set_option maxRecDepth 100000 in
set_option maxHeartbeats 1000000 in
theorem max_any (l : List Int) (ao : Option Addr) (n cap : Nat) (w : World) (hI : Ints w ao l) (hln : n = l.length) (hn : n ≤ 100000) (hn1 : 1 ≤ n) :
    Calls Try.prog 113 #[.slice ao n cap] w fun e w' => ∃ m, e = .returned (.int .i64 m) ∧ m ∈ l ∧ (∀ x ∈ l, x ≤ m) ∧ w' = w := by
  have Hn := Lib.hid hln
  have h0l : 0 < l.length := by omega
  clear hln
  obtain ⟨b, off, rfl, hbs, hc0⟩ := hI.at h0l
  rw [Nat.add_zero] at hc0
  obtain ⟨x0, hx0⟩ : ∃ x, x = l.getD 0 0 := ⟨_, rfl⟩
  rw [← hx0] at hc0
  have Hx0 := Lib.hid hx0
  have i0 : (0 : Int) < (n : Int) := by omega
  have i2 : ¬ ((n : Int) < 1) := by omega
  clear hx0
  go_enter Try.func113, Try.ntmps113
  go_wp2
  go_loopw [3, 4] (fun m i wr => ∃ (k : Nat) (M : Int), 1 ≤ k ∧ k ≤ n ∧ i = .int .i64 k ∧ m = .int .i64 M ∧ Hid (M ∈ l ∧ ∀ x ∈ l.take k, x ≤ M) ∧ wr = w) (fun _ i _ => n - (intOf i).toNat)
  case atStart =>
    refine ⟨1, x0, Nat.le_refl _, hn1, rfl, rfl, Lib.hid ?_, rfl⟩
    rw [Hx0.out]
    cases l with
    | nil => simp at h0l
    | cons a r => simp
  case round =>
    obtain ⟨k, M, hk1, hk, rfl, rfl, hM, hw⟩ := hrel
    rw [hw]
    clear hw wr
    by_cases hlt : k < n
    · have hkl : k < l.length := by have := Hn.out; omega
      obtain ⟨b2, off2, he, hbs2, hc⟩ := hI.at hkl
      rw [Option.some.injEq, Addr.mk.injEq] at he
      obtain ⟨rfl, rfl, -⟩ := he
      obtain ⟨x, hx⟩ : ∃ x, x = l[k] := ⟨_, rfl⟩
      rw [show l.getD k 0 = l[k] by rw [List.getD_eq_getElem?_getD, List.getElem?_eq_getElem hkl]; rfl, ← hx] at hc
      have hxl : Hid (x ∈ l) := Lib.hid (by rw [hx]; exact List.getElem_mem hkl)
      have Hx := Lib.hid hx
      clear hx
      have i1 : (k : Int) < (n : Int) := by omega
      by_cases hg : M < x
      · have hnx : Hid (x ∈ l ∧ ∀ y ∈ l.take (k + 1), y ≤ x) := Lib.hid ⟨hxl.out, by
          intro y hy
          rw [List.take_succ_eq_append_getElem hkl] at hy
          rcases List.mem_append.1 hy with h1 | h1
          · have := hM.out.2 y h1; omega
          · rw [List.mem_singleton] at h1; rw [h1, Hx.out]; omega⟩
        go_wp2
        go_roundw
        case rel => exact ⟨k + 1, x, by omega, by omega, by go_num, by rw [show max M x = x by omega], hnx, trivial⟩
        case measure => simp [intOf]; omega
      · have hnx : Hid (M ∈ l ∧ ∀ y ∈ l.take (k + 1), y ≤ M) := Lib.hid ⟨hM.out.1, by
          intro y hy
          rw [List.take_succ_eq_append_getElem hkl] at hy
          rcases List.mem_append.1 hy with h1 | h1
          · exact hM.out.2 y h1
          · rw [List.mem_singleton] at h1; rw [h1, ← Hx.out]; omega⟩
        go_wp2
        go_roundw
        case rel => exact ⟨k + 1, M, by omega, by omega, by go_num, by rw [show max M x = M by omega], hnx, trivial⟩
        case measure => simp [intOf]; omega
    · have hkn : k = n := by omega
      have hfin : Hid (M ∈ l ∧ ∀ y ∈ l, y ≤ M) := Lib.hid (by
        have h := hM.out
        rw [hkn, Hn.out, List.take_length] at h
        exact h)
      clear hkn
      go_wp2
      go_ret
      exact ⟨M, rfl, hfin.out.1, hfin.out.2, rfl⟩

theorem set_self {V : List (List Int)} {k : Nat} (hk : k < V.length) : V.set k (V.getD k []) = V := by
  rw [List.getD_eq_getElem?_getD, List.getElem?_eq_getElem hk, Option.getD_some, List.set_getElem_self]
theorem set_at {V : List (List Int)} {k : Nat} {l : List Int} (hk : k < V.length) : (V.set k l).getD k [] = l := by
  rw [List.getD_eq_getElem?_getD, List.getElem?_set_self hk]; rfl
namespace Kn
/-- The code of Weigh. -/
def gcode (L : List Int) (V : List (List Int)) (o b : Int) : Int := if ocode L V o ≠ 0 then ocode L V o else if 1 ≤ b ∧ b ≤ 20 ∧ (V.getD o.toNat []).all (fun v => decide (v * b ≤ 20)) = true then 0 else 1
/-- The field that Weigh answers. -/
def gF (L : List Int) (V : List (List Int)) (o b : Int) : List Int × List (List Int) := if gcode L V o b = 0 then (L, weigh V o.toNat b) else ([], [])
/-- The row of which the first numbers are multiplied. -/
def mulT (l : List Int) (b : Int) (k : Nat) : List Int := (l.take k).map (· * b) ++ l.drop k
theorem mulT_zero {l : List Int} {b : Int} : mulT l b 0 = l := by simp [mulT]
theorem mulT_all {l : List Int} {b : Int} {k : Nat} (h : k = l.length) : mulT l b k = l.map (· * b) := by subst h; simp [mulT]
theorem mulT_len {l : List Int} {b : Int} {k : Nat} : (mulT l b k).length = l.length := by
  unfold mulT
  rw [List.length_append, List.length_map, List.length_take, List.length_drop]
  omega
theorem mulT_at {l : List Int} {b : Int} {k : Nat} (hk : k < l.length) : (mulT l b k).getD k 0 = l.getD k 0 := by
  unfold mulT
  rw [List.getD_eq_getElem?_getD, List.getElem?_append_right (by simp; omega), List.getD_eq_getElem?_getD]
  simp
  rw [Nat.min_eq_left (by omega), Nat.sub_self, Nat.add_zero]
theorem mulT_next {l : List Int} {b : Int} {k : Nat} (hk : k < l.length) : (mulT l b k).set k (l.getD k 0 * b) = mulT l b (k + 1) := by
  unfold mulT
  rw [List.drop_eq_getElem_cons hk, List.take_succ_eq_append_getElem hk, List.map_append, List.getD_eq_getElem?_getD, List.getElem?_eq_getElem hk]
  rw [List.set_append_right _ _ (by simp; omega)]
  have e : k - (List.map (fun x => x * b) (List.take k l)).length = 0 := by simp; omega
  rw [e]
  simp
  rw [List.drop_eq_getElem_cons hk]; rfl
theorem rowB {L : List Int} {V : List (List Int)} (hok : Ok L V) {o : Nat} (ho : o < V.length) (q : Nat) : 0 ≤ (V.getD o []).getD q 0 ∧ (V.getD o []).getD q 0 ≤ 20 := by
  have h := (hok.rowAt ho).2.1
  generalize V.getD o [] = l at h ⊢
  rw [List.getD_eq_getElem?_getD]
  cases e : l[q]? with
  | none => simp
  | some x => exact h x (List.mem_of_getElem? e)
end Kn

/-- A field of the call's own, whose lengths and rows lie apart. -/
structure OFld (w : World) (base : Nat) (vL vV : Value) (L : List Int) (V : List (List Int)) : Prop where
  len : w.ownsRow base 3 1 vL L.length (L.map (Value.int .i64))
  tab : ∃ B, base ≤ B ∧ (∀ g, vL.ownBlock = some g → g < B) ∧ OTabS w B vV V
theorem OFld.below {w w' : World} {base : Nat} {vL vV : Value} {L : List Int} {V : List (List Int)} (h : OFld w base vL vV L V) (hb : Below w.heap.size w w') : OFld w' base vL vV L V := by
  obtain ⟨B, b1, b2, b3⟩ := h.tab
  exact ⟨own_below h.len hb, B, b1, b2, b3.below hb⟩
theorem OFld.mono {w : World} {base base' : Nat} {vL vV : Value} {L : List Int} {V : List (List Int)} (h : OFld w base vL vV L V) (hb : base' ≤ base) : OFld w base' vL vV L V := by
  obtain ⟨B, b1, b2, b3⟩ := h.tab
  exact ⟨own_mono h.len hb, B, Nat.le_trans hb b1, b2, b3⟩
theorem OFld.set {w : World} {base g o : Nat} {vL vV u : Value} {L : List Int} {V : List (List Int)} (h : OFld w base vL vV L V) (hg : g < base) : OFld (w.setCell ⟨g, o, none⟩ u) base vL vV L V := by
  obtain ⟨B, b1, b2, b3⟩ := h.tab
  exact ⟨own_same h.len (fun k hk => heap_setCell_other w ⟨g, o, none⟩ k u (by show k ≠ g; have := (h.len.lt k hk).1; omega)), B, b1, b2, b3.set (Nat.lt_of_lt_of_le hg b1)⟩
theorem ofld_none {w : World} {base : Nat} : OFld w base (.slice none 0 0) (.slice none 0 0) [] [] := ⟨⟨rfl, .inl ⟨rfl, rfl⟩⟩, base, Nat.le_refl _, fun g hg => (by cases hg), otabS_none⟩
theorem OFld.fld {w : World} {base : Nat} {vL vV : Value} {L : List Int} {V : List (List Int)} (h : OFld w base vL vV L V) : ∃ pL cL pV cV, vL = .slice pL L.length cL ∧ vV = .slice pV V.length cV ∧ Fld w pL L.length pV V.length L V := by
  obtain ⟨B, -, -, b3⟩ := h.tab
  obtain ⟨pL, cL, rfl, -, IL⟩ := own_ints h.len rfl
  obtain ⟨pV, cV, rfl, -, TV⟩ := otab_tab b3.tab
  exact ⟨pL, cL, pV, cV, rfl, rfl, IL, TV, rfl, rfl⟩
theorem OFld.store {w : World} {base g n cap : Nat} {vL : Value} {L : List Int} {V : List (List Int)} (h : OFld w base vL (.slice (some ⟨g, 0, none⟩) n cap) L V) {k i : Nat} (hk : k < V.length) (hi : i < (V.getD k []).length) :
    ∃ b c, w.cell? ⟨g, k, none⟩ = some (.slice (some ⟨b, 0, none⟩) (V.getD k []).length c) ∧ base ≤ b ∧ b < w.heap.size ∧ w.cell? ⟨b, i, none⟩ = some (.int .i64 ((V.getD k []).getD i 0)) ∧ w.frozen? ⟨b, i, none⟩ = false ∧ (∃ cs, w.heap[b]? = some (.cells cs 3 (0, 0))) ∧
      ∀ x : Int, OFld (w.setCell ⟨b, i, none⟩ (.int .i64 x)) base vL (.slice (some ⟨g, 0, none⟩) n cap) L (V.set k ((V.getD k []).set i x)) := by
  obtain ⟨B, b1, b2, b3⟩ := h.tab
  obtain ⟨b, c, h1, h2, h3, h4, h5, h6, h7⟩ := b3.store hk hi
  refine ⟨b, c, h1, by omega, h3, h4, h5, h6, fun x => ⟨own_same h.len (fun q hq => heap_setCell_other w ⟨b, i, none⟩ q (.int .i64 x) ?_), B, b1, b2, h7 x⟩⟩
  show q ≠ b
  have := b2 q hq
  omega

set_option maxRecDepth 100000 in
set_option maxHeartbeats 8000000 in
theorem kWeigh_any (L : List Int) (V : List (List Int)) (o b : Int) (aoL : Option Addr) (nL cL : Nat) (aoV : Option Addr) (nV cV : Nat) (w : World) (hf : Fld w aoL nL aoV nV L V) (hl : nL ≤ 100) (hv : nV ≤ 100) (hr : ∀ r ∈ V, r.length ≤ 100) :
    Calls Try.prog 55 #[.agg #[.slice aoL nL cL, .slice aoV nV cV], .int .i64 o, .int .i64 b] w fun e w' => (∃ vL vV, e = .returned (.tuple #[.agg #[vL, vV], .int .i64 (Kn.gcode L V o b)]) ∧ OFld w' w.heap.size vL vV (Kn.gF L V o b).1 (Kn.gF L V o b).2) ∧ Below w.heap.size w w' := by
  have HnL := Lib.hid hf.nl
  have HnV := Lib.hid hf.nv
  obtain ⟨C, hC⟩ : ∃ c, c = Kn.gcode L V o b := ⟨_, rfl⟩
  rw [← hC]
  have HC := Lib.hid hC
  have hA := below_alloc2 w (.cells #[.slice aoL nL cL, .slice aoV nV cV] 57) (.cells #[.slice none 0 0, .slice none 0 0] 57)
  have rf := heap_alloc2_old w (.cells #[.slice aoL nL cL, .slice aoV nV cV] 57) (.cells #[.slice none 0 0, .slice none 0 0] 57)
  have rr := heap_alloc2_new w (.cells #[.slice aoL nL cL, .slice aoV nV cV] 57) (.cells #[.slice none 0 0, .slice none 0 0] 57)
  go_enter Try.func55, Try.ntmps55
  go_upto_region 1 with fail
  generalize (w.alloc (.cells #[.slice aoL nL cL, .slice aoV nV cV] 57)).alloc (.cells #[.slice none 0 0, .slice none 0 0] 57) = W0 at hA rf rr ⊢
  obtain ⟨G, hG⟩ : ∃ g, g = w.heap.size := ⟨_, rfl⟩
  rw [← hG] at rf rr ⊢
  have HG := Lib.hid hG
  clear hG hC
  replace hf := hf.below hA
  obtain ⟨⟨x0, x1⟩, -, -⟩ := row_fr rf
  go_wp2_with fail
  refine ((kvalidateOwner_any L V o _ _ _ _ _ _ W0 hf hl hv hr)).mono ?_
  rintro e w1 ⟨rfl, hbb⟩
  replace hf := hf.below hbb
  replace rf := heap_keep hbb rf
  replace rr := heap_keep hbb rr
  replace hA := hA.trans (hbb.mono hA.size)
  clear hbb
  clear x0 x1
  have Hno : Hid (C ≠ 0 → Kn.gF L V o b = ([], [])) := Lib.hid (fun h => by unfold Kn.gF; rw [if_neg (by rw [← HC.out]; exact h)])
  by_cases hz : Kn.ocode L V o = 0
  · obtain ⟨hok, k0, hko, hk0⟩ := owner_ok hz
    have hC2 : C = if 1 ≤ b ∧ b ≤ 20 ∧ (V.getD o.toNat []).all (fun v => decide (v * b ≤ 20)) = true then 0 else 1 := by rw [HC.out]; unfold Kn.gcode; rw [if_neg (by simpa using hz)]
    have HC2 := Lib.hid hC2
    subst hko
    rw [hz]
    clear hz hC2
    obtain ⟨⟨x0, x1⟩, -, -⟩ := row_fr rf
    by_cases hb1 : b < 1
    · have hC1 : Hid (C = 1) := Lib.hid (by rw [HC2.out, if_neg (by omega)])
      obtain ⟨⟨r0, r1⟩, s0, s1⟩ := row_fr rr
      go_wp2_with fail
      have hGw := HG.out
      rw [hC1.out]
      refine bodyPost_ret (results_cell_tmp rfl _ _ _ _ _ _ _ rfl (two_cells rr (.slice none 0 0) (.slice none 0 0)) Try.underlying57 rfl kinfoFd2) rfl ⟨⟨_, _, rfl, ?_⟩, below_setCell (below_setCell hA (by omega) _) (by omega) _⟩
      rw [Hno.out (by rw [hC1.out]; decide)]; exact ofld_none
    · by_cases hb2 : 20 < b
      · have hC1 : Hid (C = 1) := Lib.hid (by rw [HC2.out, if_neg (by omega)])
        have q1 : decide (b < 1) = false := by rw [decide_eq_false_iff_not]; exact hb1
        clear hb1
        obtain ⟨⟨r0, r1⟩, s0, s1⟩ := row_fr rr
        go_wp2_with fail
        have hGw := HG.out
        rw [hC1.out]
        refine bodyPost_ret (results_cell_tmp rfl _ _ _ _ _ _ _ rfl (two_cells rr (.slice none 0 0) (.slice none 0 0)) Try.underlying57 rfl kinfoFd2) rfl ⟨⟨_, _, rfl, ?_⟩, below_setCell (below_setCell hA (by omega) _) (by omega) _⟩
        rw [Hno.out (by rw [hC1.out]; decide)]; exact ofld_none
      · have q1 : decide (b < 1) = false := by rw [decide_eq_false_iff_not]; exact hb1
        have q2 : decide (20 < b) = false := by rw [decide_eq_false_iff_not]; exact hb2
        have hb20 : b ≤ 20 := by omega
        have hb01 : 1 ≤ b := by omega
        obtain ⟨bV, oV, aoi, ci, hav, zr, hci, hIk⟩ := hf.hV.at hk0
        subst hav
        have hrow := hok.rowAt hk0
        have hkn' : k0 < nV := by have := HnV.out; omega
        have hkni' : (k0 : Int) < (nV : Int) := by omega
        obtain ⟨m, hm⟩ : ∃ m, m = (V.getD k0 []).length := ⟨_, rfl⟩
        have hm16 : 1 ≤ m ∧ m ≤ 6 := by rw [hm, hrow.1]; exact ⟨hok.l1, hok.l6⟩
        have Hm := Lib.hid hm
        rw [← hm] at zr
        clear hm hb1 hb2
        go_wp2_with fail
        refine (max_any (V.getD k0 []) aoi m ci w1 hIk Hm.out (by omega) hm16.1).mono ?_
        rintro e w1' ⟨M, rfl, hM1, hM2, hww⟩
        rw [hww]
        clear hww w1'
        have hMb := hrow.2.1 M hM1
        have p0 : 0 ≤ M * b := Int.mul_nonneg hMb.1 (by omega)
        have p1 : M * b ≤ 20 * 20 := Int.mul_le_mul hMb.2 hb20 (by omega) (by omega)
        have wM : IntKind.i64.wrap (M * b) = M * b := IntWalk.i64_in _ (by omega)
        clear p0 p1
        by_cases hMg : 20 < M * b
        · have hC1 : Hid (C = 1) := Lib.hid (by
            rw [HC2.out, if_neg (fun h => ?_)]
            have := List.all_eq_true.1 h.2.2 M (by rw [Int.toNat_natCast]; exact hM1)
            simp at this
            omega)
          have q3 : decide (20 < M * b) = true := by rw [decide_eq_true_iff]; exact hMg
          clear hMg
          obtain ⟨⟨r0, r1⟩, s0, s1⟩ := row_fr rr
          go_wp2_with fail
          have hGw := HG.out
          rw [hC1.out]
          refine bodyPost_ret (results_cell_tmp rfl _ _ _ _ _ _ _ rfl (two_cells rr (.slice none 0 0) (.slice none 0 0)) Try.underlying57 rfl kinfoFd2) rfl ⟨⟨_, _, rfl, ?_⟩, below_setCell (below_setCell hA (by omega) _) (by omega) _⟩
          rw [Hno.out (by rw [hC1.out]; decide)]; exact ofld_none
        · have hall : (V.getD k0 []).all (fun v => decide (v * b ≤ 20)) = true := by
            refine List.all_eq_true.2 fun v hv => ?_
            have h1 := hM2 v hv
            have := Int.mul_le_mul_of_nonneg_right h1 (show 0 ≤ b by omega)
            simp
            omega
          have hC0 : Hid (C = 0) := Lib.hid (HC2.out.trans (if_pos ⟨hb01, hb20, by rw [Int.toNat_natCast]; exact hall⟩))
          clear hall
          have q3 : decide (20 < M * b) = false := by rw [decide_eq_false_iff_not]; exact hMg
          have hgF : Hid (Kn.gF L V (k0 : Int) b = (L, Kn.weigh V k0 b)) := Lib.hid (by unfold Kn.gF; rw [if_pos (by rw [← HC.out]; exact hC0.out), Int.toNat_natCast])
          clear hMg hM1 hM2 hMb zr hIk hrow
          go_wp2_with fail
          refine (kcopiedS_any L V aoL nL cL _ nV cV w1 hf hl hv hr).mono ?_
          rintro e w2 ⟨⟨vL, vV, rfl, oL, Bq, hq1, hq2, hT0⟩, hbb⟩
          have hs1 := hA.size
          have hG1 : G + 1 < w1.heap.size := heap_lt rr
          replace hf := hf.below hbb
          replace rf := heap_keep hbb rf
          replace rr := heap_keep hbb rr
          replace hA := hA.trans (hbb.mono hA.size)
          have hs12 := hbb.size
          clear hbb x0 x1
          obtain ⟨aL, cL2, rfl, -, -⟩ := own_ints oL HnL.out
          have hO0 : OFld w2 w1.heap.size (.slice aL nL cL2) vV L V := ⟨by rw [← HnL.out]; exact oL, Bq, hq1, hq2, hT0⟩
          clear hq2 oL
          obtain ⟨gv, cv, rfl, hgb, hgl⟩ : ∃ g c, vV = .slice (some ⟨g, 0, none⟩) nV c ∧ w1.heap.size ≤ g ∧ g < w2.heap.size := by
            obtain ⟨rs, t1, -, -, -⟩ := hT0.rows
            rw [← HnV.out] at t1
            obtain ⟨g, c, e, b1, b2, -⟩ := own_cells t1 (by have := hok.v1; have := HnV.out; omega)
            exact ⟨g, c, e, Nat.le_trans hq1 b1, b2⟩
          clear hT0 hq1
          go_upto_region 7 with fail
          have r9 := heap_alloc_new w2 (.cells #[.slice aL nL cL2, .slice (some ⟨gv, 0, none⟩) nV cv] 57)
          have hal := (Below.refl w2.heap.size w2).alloc (Nat.le_refl _) (.cells #[.slice aL nL cL2, .slice (some ⟨gv, 0, none⟩) nV cv] 57)
          have hs3 : w2.heap.size < (w2.alloc (.cells #[.slice aL nL cL2, .slice (some ⟨gv, 0, none⟩) nV cv] 57)).heap.size := by simp
          replace hf := hf.below hal
          replace rf := heap_keep hal rf
          replace rr := heap_keep hal rr
          replace hA := hA.trans (hal.mono hA.size)
          replace hO0 := hO0.below hal
          clear hal
          generalize w2.alloc (.cells #[.slice aL nL cL2, .slice (some ⟨gv, 0, none⟩) nV cv] 57) = W9 at r9 hf rf rr hA hO0 hs3 ⊢
          obtain ⟨G9, hg9⟩ : ∃ g, g = w2.heap.size := ⟨_, rfl⟩
          rw [← hg9] at r9 hgl hs3 ⊢
          have HG9 := Lib.hid hg9
          clear hg9
          obtain ⟨B0, hB0⟩ : ∃ b, b = w1.heap.size := ⟨_, rfl⟩
          rw [← hB0] at hO0 hs1 hG1 hgb hs12
          have HB0 := Lib.hid hB0
          clear hB0
          have hlk := (hok.rowAt hk0).1
          have hkn : k0 < nV := by have := HnV.out; omega
          have hkni : (k0 : Int) < (nV : Int) := by omega
          have hBall := fun q => Kn.rowB hok hk0 q
          have hT1 : OFld W9 B0 (.slice aL nL cL2) (.slice (some ⟨gv, 0, none⟩) nV cv) L (V.set k0 (Kn.mulT (V.getD k0 []) b 0)) := by rw [Kn.mulT_zero, set_self hk0]; exact hO0
          obtain ⟨lr, hlr⟩ : ∃ l, l = V.getD k0 [] := ⟨_, rfl⟩
          rw [← hlr] at hlk hBall hT1
          have Hlr := Lib.hid hlr
          clear hlr hO0
          have hm6 : nL ≤ 6 := by have := HnL.out; have := hok.l6; omega
          have hlen : lr.length = nL := by rw [hlk]; exact HnL.out.symm
          have Hlen := Lib.hid hlen
          clear hlk hlen
          obtain ⟨⟨y0, y1⟩, -, -⟩ := row_fr r9
          obtain ⟨bb, cc, z1, -⟩ := hT1.store (k := k0) (i := 0) (by rw [List.length_set]; exact hk0) (by rw [set_at hk0, Kn.mulT_len, Hlen.out]; have := HnL.out; have := hok.l1; omega)
          rw [set_at hk0, Kn.mulT_len, Hlen.out] at z1
          go_wp2_with fail
          clear y0 y1 z1
          go_loopw [44] (fun i wr => ∃ k : Nat, k ≤ nL ∧ i = .int .i64 k ∧ wr.heap[G9]? = some (.cells #[.slice aL nL cL2, .slice (some ⟨gv, 0, none⟩) nV cv] 57 (0, 0)) ∧ Hid (OFld wr B0 (.slice aL nL cL2) (.slice (some ⟨gv, 0, none⟩) nV cv) L (V.set k0 (Kn.mulT lr b k))) ∧ wr.heap[G + 1]? = some (.cells #[.slice none 0 0, .slice none 0 0] 57 (0, 0)) ∧ B0 ≤ wr.heap.size ∧ Below w.heap.size w wr) (fun i _ => nL - (intOf i).toNat)
          case atStart => exact ⟨0, Nat.zero_le _, rfl, r9, Lib.hid hT1, rr, by omega, hA⟩
          case round =>
            clear r9 hT1 rr hA rf hf
            obtain ⟨k, hk, rfl, r9, hT, rrr, hsz, hBb⟩ := hrel
            by_cases hlt : k < nL
            · have hgd : (V.set k0 (Kn.mulT lr b k)).getD k0 [] = Kn.mulT lr b k := set_at hk0
              have hml : (Kn.mulT lr b k).length = nL := by rw [Kn.mulT_len]; exact Hlen.out
              obtain ⟨bb, cc, z1, hbB, hbl, z2, z3, ⟨cs, hh⟩, hst⟩ := hT.out.store (k := k0) (i := k) (by rw [List.length_set]; exact hk0) (by rw [hgd, hml]; exact hlt)
              rw [hgd] at z1 z2 hst
              rw [hml] at z1
              have hat : (Kn.mulT lr b k).getD k 0 = lr.getD k 0 := Kn.mulT_at (by rw [Hlen.out]; exact hlt)
              rw [hat] at z2
              have Hst := Lib.hid hst
              have hnx := Lib.hid (Kn.mulT_next (l := lr) (b := b) (k := k) (by rw [Hlen.out]; exact hlt))
              have hxb := hBall k
              obtain ⟨x, hx⟩ : ∃ x, x = lr.getD k 0 := ⟨_, rfl⟩
              rw [← hx] at z2 hnx hxb
              clear hx hst hgd hml hat
              have hne9 : G9 ≠ bb := fun e => by
                rw [e, hh] at r9
                simp at r9
              have hneR : G + 1 ≠ bb := by omega
              have p0 : 0 ≤ x * b := Int.mul_nonneg hxb.1 (by omega)
              have p1 : x * b ≤ 20 * 20 := Int.mul_le_mul hxb.2 hb20 (by omega) (by omega)
              have wx : IntKind.i64.wrap (x * b) = x * b := IntWalk.i64_in _ (by omega)
              have i1 : (k : Int) < (nL : Int) := by omega
              clear p0 p1
              obtain ⟨⟨y0, y1⟩, -, -⟩ := row_fr r9
              go_wp2_with fail
              have r9n := (heap_setCell_other wr ⟨bb, k, none⟩ G9 (.int .i64 (x * b)) hne9).trans r9
              have rrn := (heap_setCell_other wr ⟨bb, k, none⟩ (G + 1) (.int .i64 (x * b)) hneR).trans rrr
              have hTn := Hst.out (x * b)
              rw [hnx.out, List.set_set] at hTn
              have hsz' : B0 ≤ (wr.setCell ⟨bb, k, none⟩ (.int .i64 (x * b))).heap.size := by simp [World.setCell]; omega
              have hBn := below_setCell (g := bb) (o := k) hBb (by omega) (.int .i64 (x * b))
              go_roundw
              case rel => exact ⟨k + 1, by omega, by go_num, r9n, Lib.hid hTn, rrn, hsz', hBn⟩
              case measure => simp [intOf]; omega
            · have hk2 : k = nL := by omega
              have hTF := hT.out
              rw [Kn.mulT_all (by rw [Hlen.out]; exact hk2)] at hTF
              have Hk := Lib.hid hk2
              clear hk2 hT
              obtain ⟨⟨y0, y1⟩, -, -⟩ := row_fr r9
              obtain ⟨⟨r0, r1⟩, s0, s1⟩ := row_fr rrr
              go_wp2_with fail
              have hGw := HG.out
              rw [hC0.out]
              refine bodyPost_ret (results_cell_tmp rfl _ _ _ _ _ _ _ rfl (two_cells rrr (.slice aL nL cL2) (.slice (some ⟨gv, 0, none⟩) nV cv)) Try.underlying57 rfl kinfoFd2) rfl ⟨⟨_, _, rfl, ?_⟩, below_setCell (below_setCell hBb (by omega) _) (by omega) _⟩
              rw [hgF.out]
              have hw9 : V.set k0 (lr.map (· * b)) = Kn.weigh V k0 b := by unfold Kn.weigh; rw [Hlr.out]
              rw [← hw9]
              exact ((hTF.set (g := G + 1) (by omega)).set (g := G + 1) (by omega)).mono (by omega)
  · have hne : (Kn.ocode L V o != 0) = true := by simp [hz]
    have hC1 : Hid (C = Kn.ocode L V o) := Lib.hid (by rw [HC.out]; unfold Kn.gcode; rw [if_pos hz])
    have Hno2 := Lib.hid (Hno.out (by rw [hC1.out]; exact hz))
    generalize Kn.ocode L V o = D at hz hne hC1 ⊢
    obtain ⟨⟨r0, r1⟩, s0, s1⟩ := row_fr rr
    go_wp2_with fail
    have hGw := HG.out
    rw [hC1.out]
    refine bodyPost_ret (results_cell_tmp rfl _ _ _ _ _ _ _ rfl (two_cells rr (.slice none 0 0) (.slice none 0 0)) Try.underlying57 rfl kinfoFd2) rfl ⟨⟨_, _, rfl, ?_⟩, below_setCell (below_setCell hA (by omega) _) (by omega) _⟩
    rw [Hno2.out]; exact ofld_none
end Go.Proofs.Ytemlfklipkpacaa
