import Derived.Test.YtemlfklipkpacaaNv
import Derived.Test.YtemlfklipkpacaaLf
/- Package knife: Weigh of the reference. -/
namespace Go.Proofs.Ytemlfklipkpacaa
open Go.RowKit

theorem OFld.fldAt {w : World} {base nL cL nV cV : Nat} {aL aV : Option Addr} {L : List Int} {V : List (List Int)} (h : OFld w base (.slice aL nL cL) (.slice aV nV cV) L V) (e1 : nL = L.length) (e2 : nV = V.length) : Fld w aL nL aV nV L V := by
  obtain ⟨pL, cL', pV, cV', x1, x2, hf⟩ := h.fld
  rw [Value.slice.injEq] at x1 x2
  obtain ⟨rfl, -, -⟩ := x1
  obtain ⟨rfl, -, -⟩ := x2
  rw [e1, e2]
  exact hf

set_option maxRecDepth 100000 in
set_option maxHeartbeats 8000000 in
theorem sWeigh_any (L : List Int) (V : List (List Int)) (o b : Int) (aoL : Option Addr) (nL cL : Nat) (aoV : Option Addr) (nV cV : Nat) (w : World) (hf : Fld w aoL nL aoV nV L V) (hl : nL ≤ 100) (hv : nV ≤ 100) (hr : ∀ r ∈ V, r.length ≤ 100) :
    Calls Try.prog 56 #[.agg #[.slice aoL nL cL, .slice aoV nV cV], .int .i64 o, .int .i64 b] w fun e w' => (∃ vL vV, e = .returned (.tuple #[.agg #[vL, vV], .int .i64 (Kn.gcode L V o b)]) ∧ OFld w' w.heap.size vL vV (Kn.gF L V o b).1 (Kn.gF L V o b).2) ∧ Below w.heap.size w w' := by
  have HnL := Lib.hid hf.nl
  have HnV := Lib.hid hf.nv
  obtain ⟨C, hC⟩ : ∃ c, c = Kn.gcode L V o b := ⟨_, rfl⟩
  rw [← hC]
  have HC := Lib.hid hC
  have hA := below_alloc2 w (.cells #[.slice aoL nL cL, .slice aoV nV cV] 57) (.cells #[.slice none 0 0, .slice none 0 0] 57)
  have rf := heap_alloc2_old w (.cells #[.slice aoL nL cL, .slice aoV nV cV] 57) (.cells #[.slice none 0 0, .slice none 0 0] 57)
  have rr := heap_alloc2_new w (.cells #[.slice aoL nL cL, .slice aoV nV cV] 57) (.cells #[.slice none 0 0, .slice none 0 0] 57)
  go_enter Try.func56, Try.ntmps56
  go_upto_region 1 with fail
  generalize (w.alloc (.cells #[.slice aoL nL cL, .slice aoV nV cV] 57)).alloc (.cells #[.slice none 0 0, .slice none 0 0] 57) = W0 at hA rf rr ⊢
  obtain ⟨G, hG⟩ : ∃ g, g = w.heap.size := ⟨_, rfl⟩
  rw [← hG] at rf rr ⊢
  have HG := Lib.hid hG
  clear hG hC
  replace hf := hf.below hA
  obtain ⟨⟨x0, x1⟩, -, -⟩ := row_fr rf
  go_wp2_with fail
  have hal := (Below.refl W0.heap.size W0).alloc (Nat.le_refl _) (.cells #[.int .i64 o] 3)
  have hI1 : Ints (W0.alloc (.cells #[.int .i64 o] 3)) (some ⟨W0.heap.size, 0, none⟩) [o] := ⟨fun _ => ⟨_, 0, rfl, by simp, fun i hi => by
    match i, hi with
    | 0, _ => exact cell_of_row _ _ 0 _ _ _ (heap_alloc_new W0 _)⟩⟩
  replace hf := hf.below hal
  replace rf := heap_keep hal rf
  replace rr := heap_keep hal rr
  replace hA := hA.trans (hal.mono hA.size)
  refine (sowned_any L V o _ _ _ _ _ _ _ _ _ hf hI1 hl hv hr).mono ?_
  rintro e w1 ⟨rfl, hbb⟩
  replace hf := hf.below hbb
  replace rf := heap_keep hbb rf
  replace rr := heap_keep hbb rr
  replace hA := hA.trans (hbb.mono hA.size)
  clear hbb hal hI1 x0 x1
  have Hno : Hid (C ≠ 0 → Kn.gF L V o b = ([], [])) := Lib.hid (fun h => by unfold Kn.gF; rw [if_neg (by rw [← HC.out]; exact h)])
  by_cases hz : Kn.ocode L V o = 0
  · obtain ⟨hok, k0, hko, hk0⟩ := owner_ok hz
    have hC2 : C = if 1 ≤ b ∧ b ≤ 20 ∧ (V.getD o.toNat []).all (fun v => decide (v * b ≤ 20)) = true then 0 else 1 := by rw [HC.out]; unfold Kn.gcode; rw [if_neg (by simpa using hz)]
    have HC2 := Lib.hid hC2
    subst hko
    rw [hz]
    clear hz hC2
    obtain ⟨⟨x0, x1⟩, -, -⟩ := row_fr rf
    by_cases hb12 : ¬ (1 ≤ b ∧ b ≤ 20)
    · have hC1 : Hid (C = 1) := Lib.hid (by rw [HC2.out, if_neg (fun h => hb12 ⟨h.1, h.2.1⟩)])
      have q1 : (decide (1 ≤ b) && decide (b ≤ 20)) = false := by
        rw [Bool.and_eq_false_iff, decide_eq_false_iff_not, decide_eq_false_iff_not]; omega
      clear hb12
      go_wp2_with fail
      refine (swithin_same b 1 20 w1).mono ?_
      rintro e w1' ⟨rfl, hww⟩
      rw [hww, q1]
      clear hww w1'
      obtain ⟨⟨r0, r1⟩, s0, s1⟩ := row_fr rr
      go_wp2_with fail
      have hGw := HG.out
      rw [hC1.out]
      refine bodyPost_ret (results_cell_tmp rfl _ _ _ _ _ _ _ rfl (two_cells rr (.slice none 0 0) (.slice none 0 0)) Try.underlying57 rfl kinfoFd2) rfl ⟨⟨_, _, rfl, ?_⟩, below_setCell (below_setCell hA (by omega) _) (by omega) _⟩
      rw [Hno.out (by rw [hC1.out]; decide)]; exact ofld_none
    · have hb01 : 1 ≤ b := by omega
      have hb20 : b ≤ 20 := by omega
      have q1 : (decide (1 ≤ b) && decide (b ≤ 20)) = true := by
        rw [Bool.and_eq_true, decide_eq_true_iff, decide_eq_true_iff]; omega
      clear hb12
      go_wp2_with fail
      refine (swithin_same b 1 20 w1).mono ?_
      rintro e w1' ⟨rfl, hww⟩
      rw [hww, q1]
      clear hww w1'
      go_wp2_with fail
      refine (sCopyS_any L V aoL nL cL aoV nV cV w1 hf hl hv hr).mono ?_
      rintro e w2 ⟨⟨vL, vV, rfl, oL, Bq, hq1, hq2, hT0⟩, hbb⟩
      have hs1 := hA.size
      have hG1 : G + 1 < w1.heap.size := heap_lt rr
      replace hf := hf.below hbb
      replace rf := heap_keep hbb rf
      replace rr := heap_keep hbb rr
      replace hA := hA.trans (hbb.mono hA.size)
      have hs12 := hbb.size
      clear hbb x0 x1
      obtain ⟨aL, cL2, rfl, -, -⟩ := own_ints oL HnL.out
      have hO0 : OFld w2 w1.heap.size (.slice aL nL cL2) vV L V := ⟨by rw [← HnL.out]; exact oL, Bq, hq1, hq2, hT0⟩
      clear hq2 oL
      obtain ⟨gv, cv, rfl, hgb, hgl⟩ : ∃ g c, vV = .slice (some ⟨g, 0, none⟩) nV c ∧ w1.heap.size ≤ g ∧ g < w2.heap.size := by
        obtain ⟨rs, t1, -, -, -⟩ := hT0.rows
        rw [← HnV.out] at t1
        obtain ⟨g, c, e, b1, b2, -⟩ := own_cells t1 (by have := hok.v1; have := HnV.out; omega)
        exact ⟨g, c, e, Nat.le_trans hq1 b1, b2⟩
      clear hT0 hq1
      go_upto_region 7 with fail
      have r9 := heap_alloc_new w2 (.cells #[.slice aL nL cL2, .slice (some ⟨gv, 0, none⟩) nV cv] 57)
      have hal := (Below.refl w2.heap.size w2).alloc (Nat.le_refl _) (.cells #[.slice aL nL cL2, .slice (some ⟨gv, 0, none⟩) nV cv] 57)
      have hs3 : w2.heap.size < (w2.alloc (.cells #[.slice aL nL cL2, .slice (some ⟨gv, 0, none⟩) nV cv] 57)).heap.size := by simp
      replace hf := hf.below hal
      replace rf := heap_keep hal rf
      replace rr := heap_keep hal rr
      replace hA := hA.trans (hal.mono hA.size)
      replace hO0 := hO0.below hal
      clear hal
      generalize w2.alloc (.cells #[.slice aL nL cL2, .slice (some ⟨gv, 0, none⟩) nV cv] 57) = W9 at r9 hf rf rr hA hO0 hs3 ⊢
      obtain ⟨G9, hg9⟩ : ∃ g, g = w2.heap.size := ⟨_, rfl⟩
      rw [← hg9] at r9 hgl hs3 ⊢
      have HG9 := Lib.hid hg9
      clear hg9
      obtain ⟨B0, hB0⟩ : ∃ b, b = w1.heap.size := ⟨_, rfl⟩
      rw [← hB0] at hO0 hs1 hG1 hgb hs12
      have HB0 := Lib.hid hB0
      clear hB0
      have hlk := (hok.rowAt hk0).1
      have hkn : k0 < nV := by have := HnV.out; omega
      have hkni : (k0 : Int) < (nV : Int) := by omega
      have hBall := fun q => Kn.rowB hok hk0 q
      have hT1 : OFld W9 B0 (.slice aL nL cL2) (.slice (some ⟨gv, 0, none⟩) nV cv) L (V.set k0 (Kn.mulT (V.getD k0 []) b 0)) := by rw [Kn.mulT_zero, set_self hk0]; exact hO0
      obtain ⟨lr, hlr⟩ : ∃ l, l = V.getD k0 [] := ⟨_, rfl⟩
      rw [← hlr] at hlk hBall hT1
      have Hlr := Lib.hid hlr
      clear hlr hO0
      have hm6 : nL ≤ 6 := by have := HnL.out; have := hok.l6; omega
      have hlen : lr.length = nL := by rw [hlk]; exact HnL.out.symm
      have Hlen := Lib.hid hlen
      clear hlk hlen
      obtain ⟨⟨y0, y1⟩, -, -⟩ := row_fr r9
      obtain ⟨bb, cc, z1, -⟩ := hT1.store (k := k0) (i := 0) (by rw [List.length_set]; exact hk0) (by rw [set_at hk0, Kn.mulT_len, Hlen.out]; have := HnL.out; have := hok.l1; omega)
      rw [set_at hk0, Kn.mulT_len, Hlen.out] at z1
      go_wp2_with fail
      clear y0 y1 z1
      go_loopw [10] (fun i wr => ∃ k : Nat, k ≤ nL ∧ i = .int .i64 k ∧ wr.heap[G9]? = some (.cells #[.slice aL nL cL2, .slice (some ⟨gv, 0, none⟩) nV cv] 57 (0, 0)) ∧ Hid (OFld wr B0 (.slice aL nL cL2) (.slice (some ⟨gv, 0, none⟩) nV cv) L (V.set k0 (Kn.mulT lr b k))) ∧ wr.heap[G + 1]? = some (.cells #[.slice none 0 0, .slice none 0 0] 57 (0, 0)) ∧ B0 ≤ wr.heap.size ∧ Below w.heap.size w wr) (fun i _ => nL - (intOf i).toNat)
      case atStart => exact ⟨0, Nat.zero_le _, rfl, r9, Lib.hid hT1, rr, by omega, hA⟩
      case round =>
        clear r9 hT1 rr hA rf hf
        obtain ⟨k, hk, rfl, r9, hT, rrr, hsz, hBb⟩ := hrel
        by_cases hlt : k < nL
        · have hgd : (V.set k0 (Kn.mulT lr b k)).getD k0 [] = Kn.mulT lr b k := set_at hk0
          have hml : (Kn.mulT lr b k).length = nL := by rw [Kn.mulT_len]; exact Hlen.out
          obtain ⟨bb, cc, z1, hbB, hbl, z2, z3, ⟨cs, hh⟩, hst⟩ := hT.out.store (k := k0) (i := k) (by rw [List.length_set]; exact hk0) (by rw [hgd, hml]; exact hlt)
          rw [hgd] at z1 z2 hst
          rw [hml] at z1
          have hat : (Kn.mulT lr b k).getD k 0 = lr.getD k 0 := Kn.mulT_at (by rw [Hlen.out]; exact hlt)
          rw [hat] at z2
          have Hst := Lib.hid hst
          have hnx := Lib.hid (Kn.mulT_next (l := lr) (b := b) (k := k) (by rw [Hlen.out]; exact hlt))
          have hxb := hBall k
          obtain ⟨x, hx⟩ : ∃ x, x = lr.getD k 0 := ⟨_, rfl⟩
          rw [← hx] at z2 hnx hxb
          clear hx hst hgd hml hat
          have hne9 : G9 ≠ bb := fun e => by
            rw [e, hh] at r9
            simp at r9
          have hneR : G + 1 ≠ bb := by omega
          have p0 : 0 ≤ x * b := Int.mul_nonneg hxb.1 (by omega)
          have p1 : x * b ≤ 20 * 20 := Int.mul_le_mul hxb.2 hb20 (by omega) (by omega)
          have wx : IntKind.i64.wrap (x * b) = x * b := IntWalk.i64_in _ (by omega)
          have i1 : (k : Int) < (nL : Int) := by omega
          clear p0 p1
          obtain ⟨⟨y0, y1⟩, -, -⟩ := row_fr r9
          go_wp2_with fail
          have r9n := (heap_setCell_other wr ⟨bb, k, none⟩ G9 (.int .i64 (x * b)) hne9).trans r9
          have rrn := (heap_setCell_other wr ⟨bb, k, none⟩ (G + 1) (.int .i64 (x * b)) hneR).trans rrr
          have hTn := Hst.out (x * b)
          rw [hnx.out, List.set_set] at hTn
          have hsz' : B0 ≤ (wr.setCell ⟨bb, k, none⟩ (.int .i64 (x * b))).heap.size := by simp [World.setCell]; omega
          have hBn := below_setCell (g := bb) (o := k) hBb (by omega) (.int .i64 (x * b))
          go_roundw
          case rel => exact ⟨k + 1, by omega, by go_num, r9n, Lib.hid hTn, rrn, hsz', hBn⟩
          case measure => simp [intOf]; omega
        · have hk2 : k = nL := by omega
          have hTF := hT.out
          rw [Kn.mulT_all (by rw [Hlen.out]; exact hk2)] at hTF
          have hlrr : lr.length ≤ 100 := by rw [Hlen.out]; exact hl
          have Hk := Lib.hid hk2
          have hw9 : V.set k0 (lr.map (· * b)) = Kn.weigh V k0 b := by unfold Kn.weigh; rw [Hlr.out]
          have hval : Hid (if (V.getD k0 []).all (fun v => decide (v * b ≤ 20)) = true then Kn.val L (V.set k0 (lr.map (· * b))) = 0 ∧ C = 0 else Kn.val L (V.set k0 (lr.map (· * b))) ≠ 0 ∧ C = 1) := Lib.hid (by
            rw [hw9]
            have hwo := Kn.weigh_ok hok hk0 hb01
            split
            · rename_i h
              refine ⟨Kn.val_ok.2 (hwo.2 fun v hv => ?_), ?_⟩
              · have := List.all_eq_true.1 h v hv; simpa using this
              · rw [HC2.out]; exact if_pos ⟨hb01, hb20, by rw [Int.toNat_natCast]; exact h⟩
            · rename_i h
              refine ⟨fun h0 => h (List.all_eq_true.2 fun v hv => ?_), ?_⟩
              · have := hwo.1 (Kn.val_ok.1 h0) v hv; simpa using this
              · rw [HC2.out]; exact if_neg fun h9 => h (by have := h9.2.2; rw [Int.toNat_natCast] at this; exact this))
          have hgF : Hid (C = 0 → Kn.gF L V (k0 : Int) b = (L, V.set k0 (lr.map (· * b)))) := Lib.hid (fun h => by unfold Kn.gF; rw [if_pos (by rw [← HC.out]; exact h), Int.toNat_natCast, hw9])
          have hrW : ∀ r ∈ V.set k0 (lr.map (· * b)), r.length ≤ 100 := fun r hr9 => by
            rcases List.mem_or_eq_of_mem_set hr9 with h | h
            · exact hr r h
            · rw [h, List.length_map]; exact hlrr
          have hFl : Fld wr aL nL (some ⟨gv, 0, none⟩) nV L (V.set k0 (lr.map (· * b))) := hTF.fldAt HnL.out (by rw [List.length_set]; exact HnV.out)
          generalize V.set k0 (lr.map (· * b)) = V9 at hTF hval hgF hrW hFl
          clear hk2 hT hw9
          obtain ⟨⟨y0, y1⟩, -, -⟩ := row_fr r9
          go_wp2_with fail
          refine (sValidate_any L V9 aL nL cL2 (some ⟨gv, 0, none⟩) nV cv wr hFl hl hv hrW).mono ?_
          rintro e w8 ⟨rfl, hb8⟩
          replace r9 := heap_keep hb8 r9
          replace rrr := heap_keep hb8 rrr
          have hsz8 := hb8.size
          replace hTF := hTF.below hb8
          replace hBb := hBb.trans (hb8.mono hBb.size)
          clear hb8 y0 y1 hFl
          have hv9 := hval.out
          split at hv9
          · obtain ⟨hv0, hC00⟩ := hv9
            have hC0 : Hid (C = 0) := Lib.hid hC00
            rw [hv0]
            clear hv0 hC00 hval
            obtain ⟨⟨y0, y1⟩, -, -⟩ := row_fr r9
            obtain ⟨⟨r0, r1⟩, s0, s1⟩ := row_fr rrr
            go_wp2_with fail
            have hGw := HG.out
            rw [hC0.out]
            refine bodyPost_ret (results_cell_tmp rfl _ _ _ _ _ _ _ rfl (two_cells rrr (.slice aL nL cL2) (.slice (some ⟨gv, 0, none⟩) nV cv)) Try.underlying57 rfl kinfoFd2) rfl ⟨⟨_, _, rfl, ?_⟩, below_setCell (below_setCell hBb (by omega) _) (by omega) _⟩
            rw [hgF.out hC0.out]
            exact ((hTF.set (g := G + 1) (by omega)).set (g := G + 1) (by omega)).mono (by omega)
          · obtain ⟨hv0, hC00⟩ := hv9
            have hC1 : Hid (C = 1) := Lib.hid hC00
            have hne : (Kn.val L V9 != 0) = true := by simp [hv0]
            generalize Kn.val L V9 = D at hne
            clear hv0 hC00 hval
            obtain ⟨⟨r0, r1⟩, s0, s1⟩ := row_fr rrr
            go_wp2_with fail
            have hGw := HG.out
            rw [hC1.out]
            refine bodyPost_ret (results_cell_tmp rfl _ _ _ _ _ _ _ rfl (two_cells rrr (.slice none 0 0) (.slice none 0 0)) Try.underlying57 rfl kinfoFd2) rfl ⟨⟨_, _, rfl, ?_⟩, below_setCell (below_setCell hBb (by omega) _) (by omega) _⟩
            rw [Hno.out (by rw [hC1.out]; decide)]; exact ofld_none
  · have hne : (Kn.ocode L V o != 0) = true := by simp [hz]
    have hC1 : Hid (C = Kn.ocode L V o) := Lib.hid (by rw [HC.out]; unfold Kn.gcode; rw [if_pos hz])
    have Hno2 := Lib.hid (Hno.out (by rw [hC1.out]; exact hz))
    generalize Kn.ocode L V o = D at hz hne hC1 ⊢
    obtain ⟨⟨r0, r1⟩, s0, s1⟩ := row_fr rr
    go_wp2_with fail
    have hGw := HG.out
    rw [hC1.out]
    refine bodyPost_ret (results_cell_tmp rfl _ _ _ _ _ _ _ rfl (two_cells rr (.slice none 0 0) (.slice none 0 0)) Try.underlying57 rfl kinfoFd2) rfl ⟨⟨_, _, rfl, ?_⟩, below_setCell (below_setCell hA (by omega) _) (by omega) _⟩
    rw [Hno2.out]; exact ofld_none
end Go.Proofs.Ytemlfklipkpacaa
