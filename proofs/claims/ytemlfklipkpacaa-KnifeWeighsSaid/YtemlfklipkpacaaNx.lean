import Derived.Test.YtemlfklipkpacaaNw
import Derived.Test.YtemlfklipkpacaaNha
import Derived.Deep.Strs
/- The law KnifeWeighs: a field weighed; the knife and the parts do not change; writes into the answer reach neither field. -/
namespace Go.Proofs.Ytemlfklipkpacaa
open Go.Joins Go.Deep Go.ChangeShapes Go.WideShapes Go.ChangeAt Go.RowKit

theorem lng_no {nL nV : Nat} {V : List (List Int)} (h : Kn.lng nL nV V = false) : nL ≤ 100 ∧ nV ≤ 100 ∧ ∀ r ∈ V, r.length ≤ 100 := by
  unfold Kn.lng at h
  rw [Bool.or_eq_false_iff, Bool.or_eq_false_iff, decide_eq_false_iff_not, decide_eq_false_iff_not, List.any_eq_false] at h
  refine ⟨by omega, by omega, fun r hr => ?_⟩
  have := h.2.2 r hr
  simpa using this
theorem OFld.head {w : World} {base : Nat} {vL vV : Value} {L : List Int} {V : List (List Int)} (h : OFld w base vL vV L V) (hV : 0 < V.length) : ∃ g c, vV = .slice (some ⟨g, 0, none⟩) V.length c ∧ base ≤ g ∧ g < w.heap.size := by
  obtain ⟨B, b1, -, b3⟩ := h.tab
  obtain ⟨rs, t1, t2, -, -⟩ := b3.rows
  obtain ⟨g, c, e, h1, h2, -⟩ := own_cells t1 (by omega)
  exact ⟨g, c, e, Nat.le_trans b1 h1, h2⟩
/-- What the answer of Weigh is where it is one. -/
theorem weigh_facts {L : List Int} {V : List (List Int)} {o b : Int} (h : Kn.gcode L V o b = 0) : ∃ k0 : Nat, o = (k0 : Int) ∧ k0 < V.length ∧ Kn.gF L V o b = (L, Kn.weigh V k0 b) ∧ Kn.Ok L V ∧ Kn.Ok L (Kn.weigh V k0 b) ∧ 1 ≤ b := by
  have h' := h
  unfold Kn.gcode at h
  split at h
  · rename_i h1; exact absurd h h1
  · rename_i h1
    obtain ⟨hok, k0, rfl, hk0⟩ := owner_ok (by simpa using h1)
    split at h
    · rename_i h2
      obtain ⟨b1, b2, b3⟩ := h2
      rw [Int.toNat_natCast] at b3
      exact ⟨k0, rfl, hk0, by unfold Kn.gF; rw [if_pos h', Int.toNat_natCast], hok, (Kn.weigh_ok hok hk0 b1).2 (fun v hv => by have := List.all_eq_true.1 b3 v hv; simpa using this), b1⟩
    · cases h
theorem gF_small {L : List Int} {V : List (List Int)} {o b : Int} (hl : L.length ≤ 100) (hv : V.length ≤ 100) (hr : ∀ r ∈ V, r.length ≤ 100) : (Kn.gF L V o b).1.length ≤ 100 ∧ (Kn.gF L V o b).2.length ≤ 100 ∧ ∀ r ∈ (Kn.gF L V o b).2, r.length ≤ 100 := by
  by_cases h : Kn.gcode L V o b = 0
  · obtain ⟨k0, -, hk0, e, -, -, -⟩ := weigh_facts h
    rw [e]
    refine ⟨hl, by rw [Kn.weigh_len]; exact hv, fun r hr9 => ?_⟩
    rcases List.mem_or_eq_of_mem_set hr9 with h | h
    · exact hr r h
    · rw [h, List.length_map]
      refine hr _ ?_
      rw [List.getD_eq_getElem?_getD, List.getElem?_eq_getElem hk0]; exact List.getElem_mem hk0
  · unfold Kn.gF
    rw [if_neg h]
    exact ⟨by simp, by simp, fun r hr => by cases hr⟩

set_option maxRecDepth 100000 in
set_option maxHeartbeats 8000000 in
theorem knifeWeighs_any (L : List Int) (aoL : Option Addr) (nL cL : Nat) (V : List (List Int)) (aoV : Option Addr) (nV cV : Nat) (o b : Int) (w : World) (hf : Fld w aoL nL aoV nV L V) :
    Calls Try.prog 12 #[.agg #[.slice aoL nL cL, .slice aoV nV cV], .int .i64 o, .int .i64 b] w fun e w' => e = .returned (.bool true) ∧ Below w.heap.size w w' := by
  have HnL := Lib.hid hf.nl
  have HnV := Lib.hid hf.nv
  have hA := (Below.refl _ w).alloc (Nat.le_refl _) (.cells #[.slice aoL nL cL, .slice aoV nV cV] 57)
  have rf := heap_alloc_new w (.cells #[.slice aoL nL cL, .slice aoV nV cV] 57)
  go_enter Try.func12, Try.ntmps12
  go_upto_region 1 with fail
  generalize w.alloc (.cells #[.slice aoL nL cL, .slice aoV nV cV] 57) = W0 at hA rf ⊢
  obtain ⟨G, hG⟩ : ∃ g, g = w.heap.size := ⟨_, rfl⟩
  rw [← hG] at rf ⊢
  have HG := Lib.hid hG
  clear hG
  replace hf := hf.below hA
  obtain ⟨⟨x0, x1⟩, -, -⟩ := row_fr rf
  go_wp2_with fail
  refine ((klong_any L V _ _ _ _ _ _ W0 hf)).mono ?_
  rintro e w1 ⟨rfl, hbb⟩
  replace hf := hf.below hbb
  replace rf := heap_keep hbb rf
  replace hA := hA.trans (hbb.mono hA.size)
  clear hbb
  clear x0 x1
  cases hlg : Kn.lng nL nV V with
  | true =>
    go_wp2_with fail
    refine ((kknown_any w1)).mono ?_
    rintro e w2 ⟨rfl, hbb⟩
    replace hf := hf.below hbb
    replace rf := heap_keep hbb rf
    replace hA := hA.trans (hbb.mono hA.size)
    clear hbb
    go_wp2_with fail
    go_ret
    exact ⟨rfl, hA⟩
  | false =>
    obtain ⟨hl, hv, hr⟩ := lng_no hlg
    clear hlg
    obtain ⟨⟨x0, x1⟩, -, -⟩ := row_fr rf
    go_wp2_with fail
    refine (sCopyS_any L V aoL nL cL aoV nV cV w1 hf hl hv hr).mono ?_
    rintro e w2 ⟨⟨vL, vV, rfl, oL, Bq, hq1, hq2, hT0⟩, hbb⟩
    have hO0 : OFld w2 w1.heap.size vL vV L V := ⟨by rw [← HnL.out]; exact oL, Bq, hq1, hq2, hT0⟩
    obtain ⟨qL, qcL, qV, qcV, rfl, rfl, ho⟩ := hO0.fld
    rw [← HnL.out, ← HnV.out] at ho ⊢
    replace hf := hf.below hbb
    replace rf := heap_keep hbb rf
    replace hA := hA.trans (hbb.mono hA.size)
    clear hbb x0 x1 oL hq1 hq2 hT0 hO0
    go_upto_region 4 with fail
    have r3 := heap_alloc_new w2 (.cells #[.slice qL nL qcL, .slice qV nV qcV] 57)
    have hal := (Below.refl w2.heap.size w2).alloc (Nat.le_refl _) (.cells #[.slice qL nL qcL, .slice qV nV qcV] 57)
    replace hf := hf.below hal
    replace rf := heap_keep hal rf
    replace hA := hA.trans (hal.mono hA.size)
    replace ho := ho.below hal
    clear hal
    generalize w2.alloc (.cells #[.slice qL nL qcL, .slice qV nV qcV] 57) = W4 at r3 hf rf hA ho ⊢
    obtain ⟨G3, hG3⟩ : ∃ g, g = w2.heap.size := ⟨_, rfl⟩
    rw [← hG3] at r3 ⊢
    clear hG3
    obtain ⟨C, hC⟩ : ∃ c, Kn.gcode L V o b = c := ⟨_, rfl⟩
    obtain ⟨⟨L2, V2⟩, hF⟩ : ∃ f, Kn.gF L V o b = f := ⟨_, rfl⟩
    have hsm := gF_small (o := o) (b := b) (by rw [← HnL.out]; exact hl) (by rw [← HnV.out]; exact hv) hr
    rw [hF] at hsm
    have HF := Lib.hid hsm
    have HC := Lib.hid (And.intro hC hF)
    have hK1 := kWeigh_any L V o b qL nL qcL qV nV qcV W4 ho hl hv hr
    have hK2 := fun w' (hf' : Fld w' aoL nL aoV nV L V) => sWeigh_any L V o b aoL nL cL aoV nV cV w' hf' hl hv hr
    rw [hC, hF] at hK1 hK2
    have HK2 := Lib.hid hK2
    clear hC hF hK2 hsm
    obtain ⟨⟨x0, x1⟩, -, -⟩ := row_fr r3
    have HW4 := Lib.hid (And.intro hf (And.intro rf (And.intro ho (And.intro r3 hA))))
    have hB : Below W4.heap.size W4 W4 := Below.refl _ _
    go_wp2_with fail
    refine hK1.mono ?_
    rintro e w5 ⟨⟨vL, vV, rfl, oF⟩, hbb⟩
    obtain ⟨pL, pcL, pV, pcV, rfl, rfl, hg⟩ := oF.fld
    obtain ⟨mL, hmL⟩ : ∃ m, m = L2.length := ⟨_, rfl⟩
    obtain ⟨mV, hmV⟩ : ∃ m, m = V2.length := ⟨_, rfl⟩
    rw [← hmL, ← hmV] at hg oF ⊢
    have HmL := Lib.hid (And.intro hmL hmV)
    clear hmL hmV hg
    replace hf := hf.below hbb
    replace rf := heap_keep hbb rf
    replace hA := hA.trans (hbb.mono hA.size)
    replace r3 := heap_keep hbb r3
    replace ho := ho.below hbb
    replace hB := hB.trans (hbb.mono hB.size)
    clear hbb x0 x1 hK1
    go_upto_region 5 with fail
    have hB05 := hB.size
    have r5 := heap_alloc_new w5 (.cells #[.slice pL mL pcL, .slice pV mV pcV] 57)
    have hal := (Below.refl w5.heap.size w5).alloc (Nat.le_refl _) (.cells #[.slice pL mL pcL, .slice pV mV pcV] 57)
    replace hf := hf.below hal
    replace rf := heap_keep hal rf
    replace hA := hA.trans (hal.mono hA.size)
    replace r3 := heap_keep hal r3
    replace ho := ho.below hal
    replace hB := hB.trans (hal.mono hB.size)
    replace oF := oF.below hal
    clear hal
    generalize w5.alloc (.cells #[.slice pL mL pcL, .slice pV mV pcV] 57) = W6 at r5 hf rf r3 hA hB ho oF ⊢
    obtain ⟨G5, hG5⟩ : ∃ g, g = w5.heap.size := ⟨_, rfl⟩
    rw [← hG5] at r5 hB05 ⊢
    clear hG5
    obtain ⟨⟨x0, x1⟩, -, -⟩ := row_fr rf
    go_wp2_with fail
    refine (HK2.out W6 hf).mono ?_
    rintro e w7 ⟨⟨vL, vV, rfl, oE⟩, hbb⟩
    obtain ⟨zL, zcL, zV, zcV, rfl, rfl, hk⟩ := oE.fld
    rw [← HmL.out.1, ← HmL.out.2] at hk ⊢
    replace hf := hf.below hbb
    replace rf := heap_keep hbb rf
    replace hA := hA.trans (hbb.mono hA.size)
    replace r3 := heap_keep hbb r3
    replace ho := ho.below hbb
    replace hB := hB.trans (hbb.mono hB.size)
    replace r5 := heap_keep hbb r5
    replace oF := oF.below hbb
    clear hbb x0 x1 oE HK2
    go_upto_region 6 with fail
    have r7 := heap_alloc_new w7 (.cells #[.slice zL mL zcL, .slice zV mV zcV] 57)
    have hal := (Below.refl w7.heap.size w7).alloc (Nat.le_refl _) (.cells #[.slice zL mL zcL, .slice zV mV zcV] 57)
    replace hf := hf.below hal
    replace rf := heap_keep hal rf
    replace hA := hA.trans (hal.mono hA.size)
    replace r3 := heap_keep hal r3
    replace ho := ho.below hal
    replace hB := hB.trans (hal.mono hB.size)
    replace r5 := heap_keep hal r5
    replace hk := hk.below hal
    replace oF := oF.below hal
    clear hal
    generalize w7.alloc (.cells #[.slice zL mL zcL, .slice zV mV zcV] 57) = W8 at r7 r5 hf rf r3 hA hB ho hk oF ⊢
    obtain ⟨G7, hG7⟩ : ∃ g, g = w7.heap.size := ⟨_, rfl⟩
    rw [← hG7] at r7 ⊢
    clear hG7
    obtain ⟨⟨y0, y1⟩, -, -⟩ := row_fr r5
    obtain ⟨⟨z0, z1⟩, -, -⟩ := row_fr r7
    have e9 : (C != C) = false := by simp
    have hmL9 : mL ≤ 100 := by rw [HmL.out.1]; exact HF.out.1
    have hmV9 : mV ≤ 100 := by rw [HmL.out.2]; exact HF.out.2.1
    have hg := oF.fldAt HmL.out.1 HmL.out.2
    go_wp2_with fail
    refine (sSame_yes L2 V2 pL mL pcL pV mV pcV zL zcL zV zcV W8 hg hk hmL9 hmV9 HF.out.2.2).mono ?_
    rintro e w9 ⟨rfl, hbb⟩
    replace oF := oF.below hbb
    replace hf := hf.below hbb
    replace rf := heap_keep hbb rf
    replace hA := hA.trans (hbb.mono hA.size)
    replace r3 := heap_keep hbb r3
    replace ho := ho.below hbb
    replace hB := hB.trans (hbb.mono hB.size)
    replace r5 := heap_keep hbb r5
    clear hbb y0 y1 z0 z1 r7 hk hg e9
    by_cases hz : C = 0
    · subst hz
      obtain ⟨k0, hko, hk0, hLV, hok, hok2, hb1⟩ := weigh_facts HC.out.1
      rw [HC.out.2] at hLV
      obtain ⟨rfl, rfl⟩ := Prod.mk.inj hLV
      subst hko
      have hv1 : Kn.val L2 V = 0 := Kn.val_ok.2 hok
      have hv2 : Kn.val L2 (Kn.weigh V k0 b) = 0 := Kn.val_ok.2 hok2
      obtain ⟨m1, m2⟩ := Kn.weigh_same hk0 (by omega) hv2 hv1
      obtain ⟨k1, k2, k3, -⟩ := knife_facts hok
      have hkn : Kn.knL L2 V = (Kn.divide L2 V).map pc := by unfold Kn.knL; rw [if_pos hv1]
      rw [← hkn] at k1 k3
      have kl : (Kn.knL L2 V).length ≤ 5 := by rw [hkn, List.length_map, k2]; exact hok.v5
      have mp := Kn.weigh_pcode hv2 hv1 (Kn.knL L2 V)
      have hQ1 := fun w' (hf' : Fld w' aoL nL aoV nV L2 V) => kKnife_any L2 V aoL nL cL aoV nV cV w' hf' hl hv hr
      have hQ2 := fun w' (hg' : Fld w' pL mL pV mV L2 (Kn.weigh V k0 b)) => kKnife_any L2 (Kn.weigh V k0 b) pL mL pcL pV mV pcV w' hg' hmL9 hmV9 HF.out.2.2
      have hR1 := fun w' a1 c1 r (hf' : Fld w' aoL nL aoV nV L2 V) (P' : Pcs w' a1 (Kn.knL L2 V)) (hr9 : r = (Kn.knL L2 V).length) => kParts_any L2 V (Kn.knL L2 V) aoL nL cL aoV nV cV a1 r c1 w' hf' hl hv hr P' hr9 (by omega) k3
      have hR2 := fun w' a1 c1 r (hg' : Fld w' pL mL pV mV L2 (Kn.weigh V k0 b)) (P' : Pcs w' a1 (Kn.knL L2 V)) (hr9 : r = (Kn.knL L2 V).length) => kParts_any L2 (Kn.weigh V k0 b) (Kn.knL L2 V) pL mL pcL pV mV pcV a1 r c1 w' hg' hmL9 hmV9 HF.out.2.2 P' hr9 (by omega) k3
      have hRl : (Kn.prL L2 V (Kn.knL L2 V)).length ≤ 5 := by unfold Kn.prL; rw [if_pos k1, partsL_len]; exact kl
      have hrow1 : ∀ k, k < (Kn.weigh V k0 b).length → 1 ≤ ((Kn.weigh V k0 b).getD k []).length := fun k h => by rw [(hok2.rowAt h).1]; exact hok2.l1
      have hmV1 : 0 < (Kn.weigh V k0 b).length := by have := hok2.v1; omega
      rw [hv1] at hQ1
      rw [hv2, m1] at hQ2
      rw [k1] at hR1
      rw [mp, k1, m2] at hR2
      generalize Kn.prL L2 V (Kn.knL L2 V) = R at hR1 hR2 hRl
      generalize Kn.knL L2 V = E at hQ1 hQ2 hR1 hR2 kl
      generalize Kn.weigh V k0 b = V2 at *
      have HQ1 := Lib.hid hQ1
      have HQ2 := Lib.hid hQ2
      have HR1 := Lib.hid hR1
      have HR2 := Lib.hid hR2
      have Hrow := Lib.hid hrow1
      clear hQ1 hQ2 hR1 hR2 m1 m2 k1 k2 k3 hkn mp hv1 hv2 hok hok2 hrow1
      obtain ⟨r, hr5⟩ : ∃ r, r = E.length := ⟨_, rfl⟩
      obtain ⟨s, hs5⟩ : ∃ s, s = R.length := ⟨_, rfl⟩
      have Hr := Lib.hid hr5
      have Hs := Lib.hid hs5
      rw [← hr5] at kl
      rw [← hs5] at hRl
      clear hr5 hs5
      obtain ⟨⟨x0, x1⟩, -, -⟩ := row_fr rf
      go_wp2_with fail
      refine (HQ1.out w9 hf).mono ?_
      rintro e u1 ⟨v1, rfl, o1, hbb⟩
      obtain ⟨a1, c1, rfl, P1⟩ := own_pcs o1 rfl
      rw [← Hr.out]
      replace oF := oF.below hbb
      replace hf := hf.below hbb
      replace rf := heap_keep hbb rf
      replace hA := hA.trans (hbb.mono hA.size)
      replace r3 := heap_keep hbb r3
      replace ho := ho.below hbb
      replace hB := hB.trans (hbb.mono hB.size)
      replace r5 := heap_keep hbb r5
      clear hbb o1 x0 x1 HQ1
      obtain ⟨⟨y0, y1⟩, -, -⟩ := row_fr r5
      go_wp2_with fail
      refine (HQ2.out u1 (oF.fldAt HmL.out.1 HmL.out.2)).mono ?_
      rintro e u2 ⟨v2, rfl, o2, hbb⟩
      obtain ⟨a2, c2, rfl, P2⟩ := own_pcs o2 rfl
      rw [← Hr.out]
      replace oF := oF.below hbb
      replace P1 := P1.below hbb
      replace hf := hf.below hbb
      replace rf := heap_keep hbb rf
      replace hA := hA.trans (hbb.mono hA.size)
      replace r3 := heap_keep hbb r3
      replace ho := ho.below hbb
      replace hB := hB.trans (hbb.mono hB.size)
      replace r5 := heap_keep hbb r5
      clear hbb o2 y0 y1 HQ2
      obtain ⟨⟨x0, x1⟩, -, -⟩ := row_fr rf
      go_wp2_with fail
      refine (HR1.out u2 a1 c1 r hf P1 Hr.out).mono ?_
      rintro e u3 ⟨v3, rfl, o3, hbb⟩
      obtain ⟨a3, c3, rfl, -, P3⟩ := own_pts2 o3 rfl
      rw [← Hs.out]
      replace oF := oF.below hbb
      replace P1 := P1.below hbb
      replace P2 := P2.below hbb
      replace hf := hf.below hbb
      replace rf := heap_keep hbb rf
      replace hA := hA.trans (hbb.mono hA.size)
      replace r3 := heap_keep hbb r3
      replace ho := ho.below hbb
      replace hB := hB.trans (hbb.mono hB.size)
      replace r5 := heap_keep hbb r5
      clear hbb o3 x0 x1 HR1
      obtain ⟨⟨y0, y1⟩, -, -⟩ := row_fr r5
      go_wp2_with fail
      refine (HR2.out u3 a1 c1 r (oF.fldAt HmL.out.1 HmL.out.2) P1 Hr.out).mono ?_
      rintro e u4 ⟨v4, rfl, o4, hbb⟩
      obtain ⟨a4, c4, rfl, -, P4⟩ := own_pts2 o4 rfl
      rw [← Hs.out]
      replace oF := oF.below hbb
      replace P1 := P1.below hbb
      replace P2 := P2.below hbb
      replace P3 := P3.below hbb
      replace hf := hf.below hbb
      replace rf := heap_keep hbb rf
      replace hA := hA.trans (hbb.mono hA.size)
      replace r3 := heap_keep hbb r3
      replace ho := ho.below hbb
      replace hB := hB.trans (hbb.mono hB.size)
      replace r5 := heap_keep hbb r5
      clear hbb o4 y0 y1 HR2
      have hSP := fun w' (p1 : Pcs w' a1 E) (p2 : Pcs w' a2 E) => samePieces_any E E a1 r c1 a2 r c2 w' p1 p2 Hr.out Hr.out (by omega) (by omega)
      have hSR := fun w' (p3 : Pts w' a3 R) (p4 : Pts w' a4 R) => sameRats_any R R a3 s c3 a4 s c4 w' p3 p4 Hs.out Hs.out (by omega) (by omega)
      rw [decide_eq_true rfl] at hSP hSR
      have HSP := Lib.hid hSP
      have HSR := Lib.hid hSR
      clear hSP hSR
      go_wp2_with fail
      refine (HSP.out u4 P1 P2).mono ?_
      rintro e u5 ⟨rfl, hbb⟩
      replace oF := oF.below hbb
      replace P3 := P3.below hbb
      replace P4 := P4.below hbb
      replace hf := hf.below hbb
      replace rf := heap_keep hbb rf
      replace hA := hA.trans (hbb.mono hA.size)
      replace r3 := heap_keep hbb r3
      replace ho := ho.below hbb
      replace hB := hB.trans (hbb.mono hB.size)
      replace r5 := heap_keep hbb r5
      clear hbb P1 P2
      go_wp2_with fail
      refine (HSR.out u5 P3 P4).mono ?_
      rintro e u6 ⟨rfl, hbb⟩
      replace oF := oF.below hbb
      replace hf := hf.below hbb
      replace rf := heap_keep hbb rf
      replace hA := hA.trans (hbb.mono hA.size)
      replace r3 := heap_keep hbb r3
      replace ho := ho.below hbb
      replace hB := hB.trans (hbb.mono hB.size)
      replace r5 := heap_keep hbb r5
      clear hbb P3 P4
      obtain ⟨gv, cv, e1, hgb, hgl⟩ := oF.head hmV1
      rw [Value.slice.injEq] at e1
      obtain ⟨rfl, -, rfl⟩ := e1
      clear hA hf ho rf r3
      obtain ⟨⟨y0, y1⟩, -, -⟩ := row_fr r5
      go_wp2_with fail
      clear y0 y1
      go_loopw [20] (fun i wr => ∃ (k : Nat) (V' : List (List Int)), k ≤ mV ∧ i = .int .i64 k ∧ wr.heap[G5]? = some (.cells #[.slice pL mL pcL, .slice (some ⟨gv, 0, none⟩) mV pcV] 57 (0, 0)) ∧ Hid (OFld wr W4.heap.size (.slice pL mL pcL) (.slice (some ⟨gv, 0, none⟩) mV pcV) L2 V') ∧ Hid (V'.length = mV ∧ ∀ j, j < mV → 1 ≤ (V'.getD j []).length) ∧ Below W4.heap.size W4 wr) (fun i _ => mV - (intOf i).toNat)
      case atStart => exact ⟨0, V2, Nat.zero_le _, rfl, r5, Lib.hid oF, Lib.hid ⟨HmL.out.2.symm, fun j hj => Hrow.out j (by rw [← HmL.out.2]; exact hj)⟩, hB⟩
      case round =>
        clear r5 oF hB
        obtain ⟨k, V', hk, rfl, r5, hT, hV', hB⟩ := hrel
        by_cases hlt : k < mV
        · obtain ⟨l1, l2⟩ := hV'.out
          obtain ⟨bb, cc, z1, hbB, hbl, z2, z3, ⟨cs, hh⟩, hst⟩ := hT.out.store (k := k) (i := 0) (by omega) (by have := l2 k hlt; omega)
          have hnx : Hid ((V'.set k ((V'.getD k []).set 0 (-1))).length = mV ∧ ∀ j, j < mV → 1 ≤ ((V'.set k ((V'.getD k []).set 0 (-1))).getD j []).length) := Lib.hid ⟨by rw [List.length_set]; exact l1, fun j hj => by
            by_cases hjk : j = k
            · subst hjk
              rw [set_at (by omega), List.length_set]; exact l2 j hj
            · have h9 := l2 j hj
              rw [List.getD_eq_getElem?_getD] at h9 ⊢
              rw [List.getElem?_set_ne (fun e => hjk e.symm)]
              exact h9⟩
          have hst' := hst (-1)
          have hm1 := l2 k hlt
          obtain ⟨m, hm⟩ : ∃ m, m = (V'.getD k []).length := ⟨_, rfl⟩
          rw [← hm] at z1 hm1
          have i0 : (0 : Int) < (m : Int) := by omega
          have i1 : (k : Int) < (mV : Int) := by omega
          have hne5 : G5 ≠ bb := fun e => by
            rw [e, hh] at r5
            simp at r5
          obtain ⟨xv, hxv⟩ : ∃ x, x = (V'.getD k []).getD 0 0 := ⟨_, rfl⟩
          rw [← hxv] at z2
          generalize V'.set k ((V'.getD k []).set 0 (-1)) = V3 at hst' hnx
          have Hst := Lib.hid hst'
          clear hst hst' l1 l2 hm hxv hV' hT
          obtain ⟨⟨y0, y1⟩, -, -⟩ := row_fr r5
          go_wp2_with fail
          have r5n := (heap_setCell_other wr ⟨bb, 0, none⟩ G5 (.int .i64 (-1)) hne5).trans r5
          have hBn := below_setCell (g := bb) (o := 0) hB hbB (.int .i64 (-1))
          go_roundw
          case rel => exact ⟨k + 1, V3, by omega, by go_num, r5n, Hst, hnx, hBn⟩
          case measure => simp [intOf]; omega
        · have hk2 : k = mV := by omega
          have Hk := Lib.hid hk2
          clear hk2 hT hV'
          obtain ⟨⟨y0, y1⟩, -, -⟩ := row_fr r5
          have hfE := HW4.out.1.below hB
          have hoE := HW4.out.2.2.1.below hB
          have rfE := heap_keep hB HW4.out.2.1
          have r3E := heap_keep hB HW4.out.2.2.2.1
          have hAE := HW4.out.2.2.2.2.trans (hB.mono HW4.out.2.2.2.2.size)
          obtain ⟨⟨x0, x1⟩, -, -⟩ := row_fr rfE
          obtain ⟨⟨z0, z1⟩, -, -⟩ := row_fr r3E
          go_wp2_with fail
          refine (sSame_yes L2 V qL nL qcL qV nV qcV aoL cL aoV cV wr hoE hfE hl hv hr).mono ?_
          rintro e z5 ⟨rfl, hb5⟩
          replace hAE := hAE.trans (hb5.mono hAE.size)
          clear hb5 x0 x1 z0 z1
          go_wp2_with fail
          refine (kknown_any z5).mono ?_
          rintro e z6 ⟨rfl, hb6⟩
          go_wp2_with fail
          go_ret
          exact ⟨rfl, hAE.trans (hb6.mono hAE.size)⟩
    · have hne : (C == 0) = false := by simp [hz]
      have hm0 : mV = 0 := by
        have h := HC.out.2
        unfold Kn.gF at h
        rw [if_neg (by rw [HC.out.1]; exact hz)] at h
        rw [HmL.out.2, ← (Prod.mk.inj h).2]; rfl
      have i1 : ¬ ((0 : Int) < (mV : Int)) := by omega
      clear hm0 hA hf ho rf r3 oF
      obtain ⟨⟨y0, y1⟩, -, -⟩ := row_fr r5
      go_wp2_with fail
      go_loopw [20] (fun i wr => i = .int .i64 0 ∧ wr = w9) (fun _ _ => 0)
      case atStart => exact ⟨rfl, rfl⟩
      case round =>
        obtain ⟨rfl, hw⟩ := hrel
        rw [hw]
        clear hw wr
        have hfE := HW4.out.1.below hB
        have hoE := HW4.out.2.2.1.below hB
        have rfE := heap_keep hB HW4.out.2.1
        have r3E := heap_keep hB HW4.out.2.2.2.1
        have hAE := HW4.out.2.2.2.2.trans (hB.mono HW4.out.2.2.2.2.size)
        obtain ⟨⟨x0, x1⟩, -, -⟩ := row_fr rfE
        obtain ⟨⟨z0, z1⟩, -, -⟩ := row_fr r3E
        go_wp2_with fail
        refine (sSame_yes L V qL nL qcL qV nV qcV aoL cL aoV cV w9 hoE hfE hl hv hr).mono ?_
        rintro e z5 ⟨rfl, hb5⟩
        replace hAE := hAE.trans (hb5.mono hAE.size)
        clear hb5 x0 x1 z0 z1
        go_wp2_with fail
        refine (kknown_any z5).mono ?_
        rintro e z6 ⟨rfl, hb6⟩
        go_wp2_with fail
        go_ret
        exact ⟨rfl, hAE.trans (hb6.mono hAE.size)⟩
end Go.Proofs.Ytemlfklipkpacaa
