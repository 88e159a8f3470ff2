import Derived.Test.YtngonfbmlfolcaaLo
/- Half of package knife and of its reference. -/
namespace Go.Proofs.Ytngonfbmlfolcaa
open Go.RowKit

theorem kwhole_z (w : World) : Calls Try.prog 99 #[.int .i64 0] w fun e w' => e = .returned (.agg #[.int .i64 0, .int .i64 1]) ∧ Below w.heap.size w w' := kwhole_any 0 w
theorem swhole_z (w : World) : Calls Try.prog 39 #[.int .i64 0] w fun e w' => e = .returned (.agg #[.int .i64 0, .int .i64 1]) ∧ Below w.heap.size w w' := rwhole_any 0 w
theorem zero_from : KFrom ((0 : Int) : Rat) := ⟨by decide, by decide, by decide⟩
theorem half_eq (L : List Int) (V : List (List Int)) (o : Nat) : Fl.placeK (Kn.Z L V o) ((0 : Int) : Rat) (mkRat (Fl.tot (Kn.Z L V o) * 1) (2 : Int).toNat) = Kn.halfK L V o := by
  rw [Int.mul_one]; rfl

set_option maxRecDepth 100000 in
set_option maxHeartbeats 8000000 in
theorem khalf_any (L : List Int) (V : List (List Int)) (o : Nat) (aoL : Option Addr) (nL cL : Nat) (aoV : Option Addr) (nV cV : Nat) (w : World) (hf : Fld w aoL nL aoV nV L V) (hok : Kn.Ok L V) (hk : o < V.length) :
    Calls Try.prog 97 #[.agg #[.slice aoL nL cL, .slice aoV nV cV], .int .i64 o] w fun e w' => e = .returned (optFr (Kn.halfK L V o)) ∧ Below w.heap.size w w' := by
  obtain ⟨M, hM⟩ : ∃ c, c = Kn.halfK L V o := ⟨_, rfl⟩
  rw [← hM]
  have hA := below_alloc2 w (.cells #[.slice aoL nL cL, .slice aoV nV cV] 57) (.cells #[.int .i64 0, .int .i64 0] 106)
  have rf := heap_alloc2_old w (.cells #[.slice aoL nL cL, .slice aoV nV cV] 57) (.cells #[.int .i64 0, .int .i64 0] 106)
  have rr := heap_alloc2_new w (.cells #[.slice aoL nL cL, .slice aoV nV cV] 57) (.cells #[.int .i64 0, .int .i64 0] 106)
  go_enter Try.func97, Try.ntmps97
  go_upto_region 1 with fail
  generalize (w.alloc (.cells #[.slice aoL nL cL, .slice aoV nV cV] 57)).alloc (.cells #[.int .i64 0, .int .i64 0] 106) = WX at hA rf rr ⊢
  obtain ⟨G, hG⟩ : ∃ g, g = w.heap.size := ⟨_, rfl⟩
  rw [← hG] at rf rr ⊢
  have HG := Lib.hid hG
  clear hG
  replace hf := hf.below hA
  have hOw := fun w' (hb : Below WX.heap.size WX w') => kown_any L V o _ _ cL _ _ cV w' (hf.below hb).hL (hf.below hb).hV hf.nl hf.nv hok hk
  have hMk : ∀ w' ao cap, Lnd w' ao (Fl.strips 0 (Kn.Z L V o)) → Calls Try.prog 95 #[.slice ao nL cap, .agg #[.int .i64 0, .int .i64 1], .int .i64 1, .int .i64 2] w' fun e w2 => e = .returned (.tuple #[optFr M, .bool M.isSome]) ∧ Below w'.heap.size w' w2 := fun w' ao cap hp => by
    rw [hM, ← half_eq]
    exact kmark_any (Kn.Z L V o) ((0 : Int) : Rat) 1 2 ao nL cap w' hp (by rw [hok.zLen hk]; exact hf.nl) (hok.zOk hk) (by rw [hok.zLen hk]; exact hok.l6) zero_from (by omega) (by omega) (by omega) (by omega)
  clear hM
  have HOw := Lib.hid hOw
  obtain ⟨x, y, hxy⟩ := optFr_pair M
  obtain ⟨bv, hbv⟩ : ∃ b, M.isSome = b := ⟨_, rfl⟩
  rw [hxy, hbv] at hMk
  have HX := Lib.hid (And.intro hxy hbv)
  have HMk := Lib.hid hMk
  clear hMk hOw hxy hbv
  obtain ⟨⟨x0, x1⟩, -, -⟩ := row_fr rf
  go_wp2_with fail
  refine (HOw.out WX (Below.refl _ _)).mono ?_
  rintro e w1 ⟨ao7, cap7, rfl, hl7, hbb⟩
  replace hf := hf.below hbb
  replace rf := heap_keep hbb rf
  replace rr := heap_keep hbb rr
  replace hA := hA.trans (hbb.mono hA.size)
  clear hbb x0 x1 HOw
  go_wp2_with fail
  refine (kwhole_z w1).mono ?_
  rintro e w2 ⟨rfl, hbb⟩
  replace hl7 := hl7.below hbb
  replace hf := hf.below hbb
  replace rf := heap_keep hbb rf
  replace rr := heap_keep hbb rr
  replace hA := hA.trans (hbb.mono hA.size)
  clear hbb
  go_wp2_with fail
  refine (HMk.out w2 _ _ hl7).mono ?_
  rintro e w3 ⟨rfl, hbb⟩
  replace hf := hf.below hbb
  replace rf := heap_keep hbb rf
  replace rr := heap_keep hbb rr
  replace hA := hA.trans (hbb.mono hA.size)
  clear hbb hl7 HMk
  go_upto_region 2 with fail
  have r9 := heap_alloc_new w3 (.cells #[.int .i64 x, .int .i64 y] 106)
  have hal := (Below.refl w3.heap.size w3).alloc (Nat.le_refl _) (.cells #[.int .i64 x, .int .i64 y] 106)
  replace hf := hf.below hal
  replace rf := heap_keep hal rf
  replace rr := heap_keep hal rr
  replace hA := hA.trans (hal.mono hA.size)
  clear hal
  generalize w3.alloc (.cells #[.int .i64 x, .int .i64 y] 106) = W4 at hf rf rr hA r9 ⊢
  obtain ⟨⟨t0, t1⟩, -, -⟩ := row_fr r9
  obtain ⟨⟨r0, r1⟩, s0, s1⟩ := row_fr rr
  go_wp2_with fail
  rw [HX.out.1]
  exact bodyPost_ret (results_cell_row rfl _ _ _ _ _ _ _ rfl (two_cells rr (.int .i64 x) (.int .i64 y)) Try.underlying106 rfl kinfoFr2) rfl ⟨rfl, below_setCell (below_setCell hA (by have := HG.out; omega) _) (by have := HG.out; omega) _⟩

set_option maxRecDepth 100000 in
set_option maxHeartbeats 8000000 in
theorem kHalf_any (L : List Int) (V : List (List Int)) (o : Int) (aoL : Option Addr) (nL cL : Nat) (aoV : Option Addr) (nV cV : Nat) (w : World) (hf : Fld w aoL nL aoV nV L V) (hl : nL ≤ 100) (hv : nV ≤ 100) (hr : ∀ r ∈ V, r.length ≤ 100) :
    Calls Try.prog 48 #[.agg #[.slice aoL nL cL, .slice aoV nV cV], .int .i64 o] w fun e w' => e = .returned (.tuple #[optFr (Kn.hval L V o), .int .i64 (Kn.ocode L V o)]) ∧ Below w.heap.size w w' := by
  obtain ⟨M, hM⟩ : ∃ c, c = Kn.hval L V o := ⟨_, rfl⟩
  obtain ⟨C, hC⟩ : ∃ c, c = Kn.ocode L V o := ⟨_, rfl⟩
  rw [← hM, ← hC]
  have HM := Lib.hid hM
  have HC := Lib.hid hC
  clear hM hC
  have hA := below_alloc2 w (.cells #[.slice aoL nL cL, .slice aoV nV cV] 57) (.cells #[.int .i64 0, .int .i64 0] 29)
  have rf := heap_alloc2_old w (.cells #[.slice aoL nL cL, .slice aoV nV cV] 57) (.cells #[.int .i64 0, .int .i64 0] 29)
  have rr := heap_alloc2_new w (.cells #[.slice aoL nL cL, .slice aoV nV cV] 57) (.cells #[.int .i64 0, .int .i64 0] 29)
  go_enter Try.func48, Try.ntmps48
  go_upto_region 1 with fail
  generalize (w.alloc (.cells #[.slice aoL nL cL, .slice aoV nV cV] 57)).alloc (.cells #[.int .i64 0, .int .i64 0] 29) = W0 at hA rf rr ⊢
  obtain ⟨G, hG⟩ : ∃ g, g = w.heap.size := ⟨_, rfl⟩
  rw [← hG] at rf rr ⊢
  have HG := Lib.hid hG
  clear hG
  replace hf := hf.below hA
  obtain ⟨⟨x0, x1⟩, -, -⟩ := row_fr rf
  go_wp2_with fail
  refine ((kvalidateOwner_any L V o _ _ _ _ _ _ W0 hf hl hv hr)).mono ?_
  rintro e w1 ⟨rfl, hbb⟩
  replace hf := hf.below hbb
  replace rf := heap_keep hbb rf
  replace rr := heap_keep hbb rr
  replace hA := hA.trans (hbb.mono hA.size)
  clear hbb
  clear x0 x1
  by_cases hz : Kn.ocode L V o = 0
  · rw [hz]
    obtain ⟨hok, k, hko, hk⟩ := owner_ok hz
    subst hko
    have HC0 : Hid (C = 0) := Lib.hid (by rw [HC.out, hz])
    have HMv : Hid (M = Kn.halfK L V k) := Lib.hid (by rw [HM.out]; unfold Kn.hval; rw [if_pos hz, Int.toNat_natCast])
    clear hz HM
    obtain ⟨⟨x0, x1⟩, -, -⟩ := row_fr rf
    go_wp2_with fail
    refine (khalf_any L V k _ _ _ _ _ _ w1 hf hok hk).mono ?_
    rintro e w2 ⟨rfl, hbb⟩
    rw [← HMv.out]
    replace hf := hf.below hbb
    replace rf := heap_keep hbb rf
    replace rr := heap_keep hbb rr
    replace hA := hA.trans (hbb.mono hA.size)
    clear hbb x0 x1
    obtain ⟨⟨r0, r1⟩, s0, s1⟩ := row_fr rr
    obtain ⟨x, y, hxy⟩ := optFr_pair M
    have HX := Lib.hid hxy
    rw [hxy]
    clear hxy
    go_wp2_with fail
    rw [HX.out, HC0.out]
    exact bodyPost_ret (results_cell_tmp rfl _ _ _ _ _ _ _ rfl (two_cells rr (.int .i64 x) (.int .i64 y)) Try.underlying29 rfl infoRat2) rfl ⟨rfl, below_setCell (below_setCell hA (by have := HG.out; omega) _) (by have := HG.out; omega) _⟩
  · have HV : Hid (M = none) := Lib.hid (by rw [HM.out]; unfold Kn.hval; rw [if_neg hz])
    have hne : (Kn.ocode L V o != 0) = true := by simp [hz]
    have HC0 := Lib.hid HC.out
    obtain ⟨D, hD⟩ : ∃ c, Kn.ocode L V o = c := ⟨_, rfl⟩
    rw [hD] at hz hne HC0 ⊢
    clear hD HM
    obtain ⟨⟨r0, r1⟩, s0, s1⟩ := row_fr rr
    go_wp2_with fail
    rw [HV.out, optFr_none, HC0.out]
    exact bodyPost_ret (results_cell_tmp rfl _ _ _ _ _ _ _ rfl (two_cells rr (.int .i64 0) (.int .i64 0)) Try.underlying29 rfl infoRat2) rfl ⟨rfl, below_setCell (below_setCell hA (by have := HG.out; omega) _) (by have := HG.out; omega) _⟩

set_option maxRecDepth 100000 in
set_option maxHeartbeats 8000000 in
theorem sHalf_any (L : List Int) (V : List (List Int)) (o : Int) (aoL : Option Addr) (nL cL : Nat) (aoV : Option Addr) (nV cV : Nat) (w : World) (hf : Fld w aoL nL aoV nV L V) (hl : nL ≤ 100) (hv : nV ≤ 100) (hr : ∀ r ∈ V, r.length ≤ 100) :
    Calls Try.prog 49 #[.agg #[.slice aoL nL cL, .slice aoV nV cV], .int .i64 o] w fun e w' => e = .returned (.tuple #[optFr (Kn.hval L V o), .int .i64 (Kn.ocode L V o)]) ∧ Below w.heap.size w w' := by
  obtain ⟨M, hM⟩ : ∃ c, c = Kn.hval L V o := ⟨_, rfl⟩
  obtain ⟨C, hC⟩ : ∃ c, c = Kn.ocode L V o := ⟨_, rfl⟩
  rw [← hM, ← hC]
  have HM := Lib.hid hM
  have HC := Lib.hid hC
  clear hM hC
  have hA := below_alloc2 w (.cells #[.slice aoL nL cL, .slice aoV nV cV] 57) (.cells #[.int .i64 0, .int .i64 0] 29)
  have rf := heap_alloc2_old w (.cells #[.slice aoL nL cL, .slice aoV nV cV] 57) (.cells #[.int .i64 0, .int .i64 0] 29)
  have rr := heap_alloc2_new w (.cells #[.slice aoL nL cL, .slice aoV nV cV] 57) (.cells #[.int .i64 0, .int .i64 0] 29)
  go_enter Try.func49, Try.ntmps49
  go_upto_region 1 with fail
  generalize (w.alloc (.cells #[.slice aoL nL cL, .slice aoV nV cV] 57)).alloc (.cells #[.int .i64 0, .int .i64 0] 29) = W0 at hA rf rr ⊢
  obtain ⟨G, hG⟩ : ∃ g, g = w.heap.size := ⟨_, rfl⟩
  rw [← hG] at rf rr ⊢
  have HG := Lib.hid hG
  clear hG
  replace hf := hf.below hA
  obtain ⟨⟨x0, x1⟩, -, -⟩ := row_fr rf
  go_wp2_with fail
  have hal := (Below.refl W0.heap.size W0).alloc (Nat.le_refl _) (.cells #[.int .i64 o] 3)
  have hI1 : Ints (W0.alloc (.cells #[.int .i64 o] 3)) (some ⟨W0.heap.size, 0, none⟩) [o] := ⟨fun _ => ⟨_, 0, rfl, by simp, fun i hi => by
    match i, hi with
    | 0, _ => exact cell_of_row _ _ 0 _ _ _ (heap_alloc_new W0 _)⟩⟩
  replace hf := hf.below hal
  replace rf := heap_keep hal rf
  replace rr := heap_keep hal rr
  replace hA := hA.trans (hal.mono hA.size)
  refine (sowned_any L V o _ _ _ _ _ _ _ _ _ hf hI1 hl hv hr).mono ?_
  rintro e w1 ⟨rfl, hbb⟩
  replace hf := hf.below hbb
  replace rf := heap_keep hbb rf
  replace rr := heap_keep hbb rr
  replace hA := hA.trans (hbb.mono hA.size)
  clear hbb hal hI1
  clear x0 x1
  by_cases hz : Kn.ocode L V o = 0
  · rw [hz]
    obtain ⟨hok, k, hko, hk⟩ := owner_ok hz
    subst hko
    have HC0 : Hid (C = 0) := Lib.hid (by rw [HC.out, hz])
    have HMv : Hid (M = Kn.halfK L V k) := Lib.hid (by rw [HM.out]; unfold Kn.hval; rw [if_pos hz, Int.toNat_natCast])
    clear hz HM
    obtain ⟨⟨x0, x1⟩, -, -⟩ := row_fr rf
    have hst := hok.stopB
    go_upto_region 4 with fail
    generalize w1 = WX at hf rf rr hA x0 x1 ⊢
    have hMk : ∀ w', Below WX.heap.size WX w' → Calls Try.prog 96 #[.agg #[.slice aoL nL cL, .slice aoV nV cV], .int .i64 k, .agg #[.int .i64 0, .int .i64 1], .int .i64 1, .int .i64 2] w' fun e w2 => e = .returned (.tuple #[optFr M, .bool M.isSome]) ∧ Below w'.heap.size w' w2 := fun w' hb => by
      rw [HMv.out, ← half_eq]
      exact smark_any L V k ((0 : Int) : Rat) 1 2 aoL nL cL aoV nV cV w' (hf.below hb) hok hk zero_from (Rat.intCast_le_intCast.2 (by omega)) (by omega) (by omega) (by omega) (by omega)
    obtain ⟨x, y, hxy⟩ := optFr_pair M
    obtain ⟨bv, hbv⟩ : ∃ b, M.isSome = b := ⟨_, rfl⟩
    rw [hxy, hbv] at hMk
    have HX := Lib.hid (And.intro hxy hbv)
    have HMk := Lib.hid hMk
    clear hMk hxy hbv
    have hk0 : Below WX.heap.size WX WX.drew := below_drewN (Below.refl WX.heap.size WX) 1
    have hkA0 : Below WX.heap.size WX (WX.alloc (.cells #[.int .i64 0, .int .i64 0] 29)).drew := below_drewN ((Below.refl WX.heap.size WX).alloc (Nat.le_refl _) (.cells #[.int .i64 0, .int .i64 0] 29)) 1
    have hl_rr := heap_lt rr
    go_cut [7, 8] from 18 (fun p7 p8 wc => ∃ g : Nat, p7 = .pointer (some ⟨g, 0, none⟩) ∧ p8 = .bool bv ∧ G + 1 < g ∧ wc.heap[g]? = some (.cells #[.int .i64 x, .int .i64 y] 29 (0, 0)) ∧ wc.heap[G + 1]? = some (.cells #[.int .i64 0, .int .i64 0] 29 (0, 0)) ∧ Below WX.heap.size WX wc)
    case first =>
      go_region_held3 (fun w' => w'.cell? ⟨G, 0, none⟩ = some (.slice aoL nL cL) ∧ w'.cell? ⟨G, 1, none⟩ = some (.slice aoV nV cV))
        (first | exact ⟨x0, x1⟩ | exact kS2 | exact kS1 | exact ⟨cell_two_other _ _ (by omega) kS2.1, cell_two_other _ _ (by omega) kS2.2⟩ | go_keep)
        (first
          | (go_at_call 39; (first | (with_reducible refine (swhole_z _).mono ?_; rintro e w1 ⟨rfl, hb1⟩; have hk1 := hk0.trans (hb1.mono hk0.size); (first | (have rg := heap_keep hb1 rg) | skip)) | (with_reducible refine (swhole_z _).mono ?_; rintro e w1 ⟨rfl, hb1⟩; have hk1 := hkA0.trans (hb1.mono hkA0.size); have rg := heap_keep hb1 (heap_alloc_new WX (.cells #[.int .i64 0, .int .i64 0] 29)))); have hl1 := hk1.size; have kS1 := And.intro (keep_cell hk1 x0) ((keep_cell hk1 x1)))
          | (go_at_call 96; have hkA1 := hk1.alloc hk1.size (.cells #[.int .i64 0, .int .i64 0] 29); (first | (with_reducible refine (HMk.out _ hk1).mono ?_; rintro e w2 ⟨rfl, hb2⟩; have hk2 := hk1.trans (hb2.mono hk1.size); (first | (have rg := heap_keep hb2 rg) | skip)) | (with_reducible refine (HMk.out _ hkA1).mono ?_; rintro e w2 ⟨rfl, hb2⟩; have hk2 := hkA1.trans (hb2.mono hkA1.size); have rg := heap_keep hb2 (heap_alloc_new w1 (.cells #[.int .i64 0, .int .i64 0] 29)))); have hl2 := hk2.size; have kS2 := And.intro (keep_cell hk2 x0) ((keep_cell hk2 x1)); (first | (have rgF := rg; obtain ⟨⟨d0, d1⟩, e0, e1⟩ := row_fr rgF) | skip)))
      all_goals go_wp2_with fail
      all_goals go_meet
      all_goals
        have hlm := hk2.size
        have rr' := heap_keep hk2 rr
        first
          | exact ⟨_, rfl, rfl, by omega, two_cells rg _ _, heap_two_other _ _ (by omega) rr', below_setCell (below_setCell hk2 (by omega) _) (by omega) _⟩
          | exact ⟨_, rfl, rfl, by omega, heap_alloc_new w2 _, (heap_alloc_old _ _ (by omega)).trans rr', hk2.alloc (by omega) _⟩
    case rest =>
      obtain ⟨g, rfl, rfl, hg, r9, r2, hB⟩ := hcut
      have hA2 := hA.trans (hB.mono hA.size)
      clear x0 x1 rr
      obtain ⟨⟨t0, t1⟩, -, -⟩ := row_fr r9
      obtain ⟨⟨r0, r1⟩, s0, s1⟩ := row_fr r2
      go_wp2_with fail
      rw [HX.out.1, HC0.out]
      exact bodyPost_ret (results_cell_tmp rfl _ _ _ _ _ _ _ rfl (two_cells r2 (.int .i64 x) (.int .i64 y)) Try.underlying29 rfl infoRat2) rfl ⟨rfl, below_setCell (below_setCell hA2 (by have := HG.out; omega) _) (by have := HG.out; omega) _⟩
  · have HV : Hid (M = none) := Lib.hid (by rw [HM.out]; unfold Kn.hval; rw [if_neg hz])
    have hne : (Kn.ocode L V o != 0) = true := by simp [hz]
    have HC0 := Lib.hid HC.out
    obtain ⟨D, hD⟩ : ∃ c, Kn.ocode L V o = c := ⟨_, rfl⟩
    rw [hD] at hz hne HC0 ⊢
    clear hD HM
    obtain ⟨⟨r0, r1⟩, s0, s1⟩ := row_fr rr
    go_wp2_with fail
    rw [HV.out, optFr_none, HC0.out]
    exact bodyPost_ret (results_cell_tmp rfl _ _ _ _ _ _ _ rfl (two_cells rr (.int .i64 0) (.int .i64 0)) Try.underlying29 rfl infoRat2) rfl ⟨rfl, below_setCell (below_setCell hA (by have := HG.out; omega) _) (by have := HG.out; omega) _⟩
end Go.Proofs.Ytngonfbmlfolcaa
