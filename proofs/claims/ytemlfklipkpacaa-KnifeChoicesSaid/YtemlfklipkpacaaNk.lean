import Derived.Test.YtemlfklipkpacaaNj
/- The reference of package knife: Choose. -/
namespace Go.Proofs.Ytemlfklipkpacaa
open Go.RowKit

/-- What the reference compares. -/
theorem sch_facts {L : List Int} {V : List (List Int)} (hok : Kn.Ok L V) {o : Nat} (ho : o < V.length) {h : Rat} (h0 : 0 ≤ h) (h1 : h ≤ (Kn.stop L : Rat)) (hd : h.den ≤ 40) :
    Fl.before (Fl.units (Kn.Z L V o)) h = Fl.worth (Kn.Z L V o) 0 h ∧ (Fl.tot (Kn.Z L V o) : Rat) - Fl.worth (Kn.Z L V o) 0 h = Fl.worth (Kn.Z L V o) h (Kn.stop L : Rat) ∧
    SumQ (Fl.tot (Kn.Z L V o) : Rat) (Fl.worth (Kn.Z L V o) 0 h) ∧ SumQ (Fl.worth (Kn.Z L V o) 0 h) (Fl.worth (Kn.Z L V o) h (Kn.stop L : Rat)) ∧ UnitsOk (Fl.units (Kn.Z L V o)) ∧ PlaceU (Fl.units (Kn.Z L V o)).length h := by
  have hst := hok.stopB
  have hzo := hok.zOk ho
  have hs := hok.zStop ho
  have hT := hok.zTot ho
  have hl6 : (Kn.Z L V o).length ≤ 6 := by rw [hok.zLen ho]; exact hok.l6
  obtain ⟨a1, a2, a3⟩ := worth_facts (D := h.den) hzo hl6 Rat.le_refl h0 (Nat.one_dvd _) (Nat.dvd_refl _)
  obtain ⟨b1, b2, b3⟩ := worth_facts (D := h.den) hzo hl6 h0 h1 (Nat.dvd_refl _) (Nat.one_dvd _)
  have a4 := Nat.le_of_dvd h.den_pos a3
  have b4 := Nat.le_of_dvd h.den_pos b3
  have e1 := worth_cum hzo Rat.le_refl h0
  have e2 := worth_cum hzo h0 h1
  rw [Fl.cum_zero hzo] at e1
  rw [← hs, Fl.cum_all hzo, hs] at e2
  have hT0 : (0 : Rat) ≤ (Fl.tot (Kn.Z L V o) : Rat) := by exact_mod_cast (show (0 : Int) ≤ Fl.tot (Kn.Z L V o) by omega)
  have hT1 : (Fl.tot (Kn.Z L V o) : Rat) ≤ ((2400 : Int) : Rat) := Rat.intCast_le_intCast.2 hT.2
  have hT2 : ((2400 : Int) : Rat) = ((2400 : Nat) : Rat) := rfl
  refine ⟨by rw [Fl.before_cum hzo h0, e1]; grind, by rw [e1, e2]; grind, ?_, ?_, unitsOk_of hzo (by omega), ⟨h0, by rw [Fl.units_length hzo, hs]; exact h1, by omega⟩⟩
  · exact sumQ_of hT0 a1 2400 2400 (by grind) a2 40 (by rw [Rat.den_intCast]; omega) (by omega) (by omega) (by omega)
  · have hm : (Fl.worth (Kn.Z L V o) 0 h).den * (Fl.worth (Kn.Z L V o) h (Kn.stop L : Rat)).den ≤ 40 * 40 := Nat.mul_le_mul (by omega) (by omega)
    exact sumQ_of a1 b1 2400 2400 a2 b2 1600 (by omega) (by omega) (by omega) (by omega)

set_option maxRecDepth 100000 in
set_option maxHeartbeats 8000000 in
theorem sChoose_any (L : List Int) (V : List (List Int)) (aoL : Option Addr) (nL cL : Nat) (aoV : Option Addr) (nV cV : Nat) (w : World) (hf : Fld w aoL nL aoV nV L V) (hl : nL ≤ 100) (hv : nV ≤ 100) (hr : ∀ r ∈ V, r.length ≤ 100) :
    Calls Try.prog 49 #[.agg #[.slice aoL nL cL, .slice aoV nV cV]] w fun e w' => ∃ v, e = .returned (.tuple #[v, .int .i64 (Kn.val2 L V)]) ∧ w'.ownsRow w.heap.size 86 5 v (Kn.chL L V).length (flat5 (Kn.chL L V)) ∧ Below w.heap.size w w' := by
  have hA := (Below.refl _ w).alloc (Nat.le_refl _) (.cells #[.slice aoL nL cL, .slice aoV nV cV] 57)
  have rf := heap_alloc_new w (.cells #[.slice aoL nL cL, .slice aoV nV cV] 57)
  go_enter Try.func49, Try.ntmps49
  go_upto_region 1 with fail
  generalize w.alloc (.cells #[.slice aoL nL cL, .slice aoV nV cV] 57) = W0 at hA rf ⊢
  obtain ⟨G, hG⟩ : ∃ g, g = w.heap.size := ⟨_, rfl⟩
  rw [← hG] at rf ⊢
  have HG := Lib.hid hG
  clear hG
  replace hf := hf.below hA
  obtain ⟨⟨x0, x1⟩, -, -⟩ := row_fr rf
  go_wp2_with fail
  refine ((spaired_any L V _ _ _ _ _ _ W0 hf hl hv hr)).mono ?_
  rintro e w1 ⟨rfl, hbb⟩
  replace hf := hf.below hbb
  replace rf := heap_keep hbb rf
  replace hA := hA.trans (hbb.mono hA.size)
  clear hbb
  clear x0 x1
  by_cases hz : Kn.val2 L V = 0
  · obtain ⟨hok, h2⟩ := val2_ok hz
    obtain ⟨h, hh, h0, h1, hd, -⟩ := half_facts hok (o := 0) (by omega)
    have hk : Hid (Kn.chL L V = Kn.chP L V h) := Lib.hid (by unfold Kn.chL; rw [if_pos hz, hh]; rfl)
    have hlen : Hid ((Kn.chP L V h).length = 2) := Lib.hid (by unfold Kn.chP; split <;> rfl)
    have hB : Hid (Kn.chP L V h = if Kn.chB L V h = true then [(0, (0, 1), pr h), (1, pr h, (Kn.stop L, 1))] else [(1, (0, 1), pr h), (0, pr h, (Kn.stop L, 1))]) := Lib.hid rfl
    have hcB : Hid (Kn.chB L V h = decide (Fl.worth (Kn.Z L V 1) 0 h < Fl.worth (Kn.Z L V 1) h (Kn.stop L : Rat))) := Lib.hid rfl
    obtain ⟨f1, f2, f3, f4, f5, f6⟩ := sch_facts hok (o := 1) (by omega) h0 h1 hd
    have hst := hok.stopB
    rw [hz]
    have Hz := Lib.hid hz
    clear hz
    obtain ⟨⟨x0, x1⟩, -, -⟩ := row_fr rf
    go_upto_region 4 with fail
    generalize w1 = WX at hf rf hA x0 x1 ⊢
    have hMk : ∀ w', Below WX.heap.size WX w' → Calls Try.prog 102 #[.agg #[.slice aoL nL cL, .slice aoV nV cV], .int .i64 0, .agg #[.int .i64 0, .int .i64 1], .int .i64 1, .int .i64 2] w' fun e w2 => e = .returned (.tuple #[.agg #[.int .i64 h.num, .int .i64 h.den], .bool true]) ∧ Below w'.heap.size w' w2 := fun w' hb => by
      have h5 := smark_any L V 0 ((0 : Int) : Rat) 1 2 aoL nL cL aoV nV cV w' (hf.below hb) hok hok.v1 zero_from (Rat.intCast_le_intCast.2 (by omega)) (by omega) (by omega) (by omega) (by omega)
      rw [half_eq, hh] at h5
      exact h5
    have HMk := Lib.hid hMk
    clear hMk hh
    have hk0 : Below WX.heap.size WX WX.drew := below_drewN (Below.refl WX.heap.size WX) 1
    have hkA0 : Below WX.heap.size WX (WX.alloc (.cells #[.int .i64 0, .int .i64 0] 29)).drew := below_drewN ((Below.refl WX.heap.size WX).alloc (Nat.le_refl _) (.cells #[.int .i64 0, .int .i64 0] 29)) 1
    have hl_rf := heap_lt rf
    go_cut [5, 6] from 19 (fun p5 p6 wc => ∃ g : Nat, p5 = .pointer (some ⟨g, 0, none⟩) ∧ p6 = .bool true ∧ G < g ∧ wc.heap[g]? = some (.cells #[.int .i64 h.num, .int .i64 h.den] 29 (0, 0)) ∧ wc.heap[G]? = some (.cells #[.slice aoL nL cL, .slice aoV nV cV] 57 (0, 0)) ∧ Below WX.heap.size WX wc)
    case first =>
      go_region_held3 (fun w' => w'.cell? ⟨G, 0, none⟩ = some (.slice aoL nL cL) ∧ w'.cell? ⟨G, 1, none⟩ = some (.slice aoV nV cV))
        (first | exact ⟨x0, x1⟩ | exact kS2 | exact kS1 | exact ⟨cell_two_other _ _ (by omega) kS2.1, cell_two_other _ _ (by omega) kS2.2⟩ | go_keep)
        (first
          | (go_at_call 40; (first | (with_reducible refine (swhole_z _).mono ?_; rintro e w1 ⟨rfl, hb1⟩; have hk1 := hk0.trans (hb1.mono hk0.size); (first | (have rg := heap_keep hb1 rg) | skip)) | (with_reducible refine (swhole_z _).mono ?_; rintro e w1 ⟨rfl, hb1⟩; have hk1 := hkA0.trans (hb1.mono hkA0.size); have rg := heap_keep hb1 (heap_alloc_new WX (.cells #[.int .i64 0, .int .i64 0] 29)))); have hl1 := hk1.size; have kS1 := And.intro (keep_cell hk1 x0) ((keep_cell hk1 x1)))
          | (go_at_call 102; have hkA1 := hk1.alloc hk1.size (.cells #[.int .i64 0, .int .i64 0] 29); (first | (with_reducible refine (HMk.out _ hk1).mono ?_; rintro e w2 ⟨rfl, hb2⟩; have hk2 := hk1.trans (hb2.mono hk1.size); (first | (have rg := heap_keep hb2 rg) | skip)) | (with_reducible refine (HMk.out _ hkA1).mono ?_; rintro e w2 ⟨rfl, hb2⟩; have hk2 := hkA1.trans (hb2.mono hkA1.size); have rg := heap_keep hb2 (heap_alloc_new w1 (.cells #[.int .i64 0, .int .i64 0] 29)))); have hl2 := hk2.size; have kS2 := And.intro (keep_cell hk2 x0) ((keep_cell hk2 x1)); (first | (have rgF := rg; obtain ⟨⟨d0, d1⟩, e0, e1⟩ := row_fr rgF) | skip)))
      all_goals go_wp2_with fail
      all_goals go_meet
      all_goals
        have hlm := hk2.size
        have rf' := heap_keep hk2 rf
        first
          | exact ⟨_, rfl, rfl, by omega, two_cells rg _ _, heap_two_other _ _ (by omega) rf', below_setCell (below_setCell hk2 (by omega) _) (by omega) _⟩
          | exact ⟨_, rfl, rfl, by omega, heap_alloc_new w2 _, (heap_alloc_old _ _ (by omega)).trans rf', hk2.alloc (by omega) _⟩
    case rest =>
      obtain ⟨g5, rfl, rfl, hg5, r5, rf', hB5⟩ := hcut
      have hA2 := hA.trans (hB5.mono hA.size)
      have hf2 := hf.below hB5
      clear x0 x1 rf HMk hf hA hB5
      rename World => WY
      have rf := rf'
      clear rf'
      have hU : ∀ w', Below WY.heap.size WY w' → Calls Try.prog 104 #[.agg #[.slice aoL nL cL, .slice aoV nV cV], .int .i64 1] w' fun e w2 => ∃ ao2 cap2, e = .returned (.slice ao2 (Fl.units (Kn.Z L V 1)).length cap2) ∧ Ints w2 ao2 (Fl.units (Kn.Z L V 1)) ∧ Below w'.heap.size w' w2 := fun w' hb => sunits_any L V 1 aoL nL cL aoV nV cV w' (hf2.below hb) hok (by omega)
      have hBf := fun w' ao cap (hI : Ints w' ao (Fl.units (Kn.Z L V 1))) => rbefore_any (Fl.units (Kn.Z L V 1)) h ao cap w' hI f5 f6
      rw [f1] at hBf
      have hAl : ∀ w', Below WY.heap.size WY w' → Calls Try.prog 105 #[.agg #[.slice aoL nL cL, .slice aoV nV cV], .int .i64 1] w' fun e w2 => e = .returned (.int .i64 (Fl.tot (Kn.Z L V 1))) ∧ Below w'.heap.size w' w2 := fun w' hb => sall_any L V 1 aoL nL cL aoV nV cV w' (hf2.below hb) hok (by omega)
      generalize Fl.units (Kn.Z L V 1) = U at hU hBf f1 f5 f6
      generalize Fl.worth (Kn.Z L V 1) 0 h = Wa at hBf f1 f2 f3 f4 hcB
      generalize Fl.worth (Kn.Z L V 1) h (Kn.stop L : Rat) = Wb at f2 f4 hcB
      generalize Fl.tot (Kn.Z L V 1) = T at f2 f3 hAl
      have HU := Lib.hid hU
      have HBf := Lib.hid hBf
      have HAl := Lib.hid hAl
      clear hU hBf hAl f1 f5 f6
      obtain ⟨⟨x0, x1⟩, -, -⟩ := row_fr rf
      obtain ⟨⟨t0, t1⟩, -, -⟩ := row_fr r5
      go_upto_region 5 with fail
      have hk0 : Below WY.heap.size WY WY.drew := below_drewN (Below.refl WY.heap.size WY) 1
      have hkA0 : Below WY.heap.size WY (WY.alloc (.cells #[.int .i64 0, .int .i64 0] 29)).drew := below_drewN ((Below.refl WY.heap.size WY).alloc (Nat.le_refl _) (.cells #[.int .i64 0, .int .i64 0] 29)) 1
      have hl_rf := heap_lt rf
      have hl_r5 := heap_lt r5
      go_cut [7] from 23 (fun p7 wc => ∃ g : Nat, p7 = .pointer (some ⟨g, 0, none⟩) ∧ True ∧ (G < g ∧ g5 < g) ∧ wc.heap[g]? = some (.cells #[.int .i64 Wa.num, .int .i64 Wa.den] 29 (0, 0)) ∧ wc.heap[G]? = some (.cells #[.slice aoL nL cL, .slice aoV nV cV] 57 (0, 0)) ∧ wc.heap[g5]? = some (.cells #[.int .i64 h.num, .int .i64 h.den] 29 (0, 0)) ∧ Below WY.heap.size WY wc)
      case first =>
        go_region_held3 (fun w' => w'.cell? ⟨G, 0, none⟩ = some (.slice aoL nL cL) ∧ w'.cell? ⟨G, 1, none⟩ = some (.slice aoV nV cV) ∧ w'.cell? ⟨g5, 0, none⟩ = some (.int .i64 h.num) ∧ w'.cell? ⟨g5, 1, none⟩ = some (.int .i64 h.den))
          (first | exact ⟨x0, x1, t0, t1⟩ | exact kS2 | exact kS1 | exact ⟨cell_two_other _ _ (by omega) kS2.1, cell_two_other _ _ (by omega) kS2.2.1, cell_two_other _ _ (by omega) kS2.2.2.1, cell_two_other _ _ (by omega) kS2.2.2.2⟩ | go_keep)
          (first
            | (go_at_call 104; (first | (with_reducible refine (HU.out _ hk0).mono ?_; rintro e w1 ⟨ao7, cap7, rfl, hI7, hb1⟩; have hk1 := hk0.trans (hb1.mono hk0.size); (first | (have rg := heap_keep hb1 rg) | skip)) | (with_reducible refine (HU.out _ hkA0).mono ?_; rintro e w1 ⟨ao7, cap7, rfl, hI7, hb1⟩; have hk1 := hkA0.trans (hb1.mono hkA0.size); have rg := heap_keep hb1 (heap_alloc_new WY (.cells #[.int .i64 0, .int .i64 0] 29)))); have hl1 := hk1.size; have kS1 := And.intro (keep_cell hk1 x0) (And.intro (keep_cell hk1 x1) (And.intro (keep_cell hk1 t0) ((keep_cell hk1 t1)))))
            | (go_at_call 103; have hkA1 := hk1.alloc hk1.size (.cells #[.int .i64 0, .int .i64 0] 29); (first | (with_reducible refine (HBf.out _ _ _ hI7).mono ?_; rintro e w2 ⟨rfl, hb2⟩; have hk2 := hk1.trans (hb2.mono hk1.size); (first | (have rg := heap_keep hb2 rg) | skip)) | (with_reducible refine (HBf.out _ _ _ (hI7.below ((Below.refl _ w1).alloc (Nat.le_refl _) (.cells #[.int .i64 0, .int .i64 0] 29)))).mono ?_; rintro e w2 ⟨rfl, hb2⟩; have hk2 := hkA1.trans (hb2.mono hkA1.size); have rg := heap_keep hb2 (heap_alloc_new w1 (.cells #[.int .i64 0, .int .i64 0] 29)))); have hl2 := hk2.size; have kS2 := And.intro (keep_cell hk2 x0) (And.intro (keep_cell hk2 x1) (And.intro (keep_cell hk2 t0) ((keep_cell hk2 t1)))); (first | (have rgF := rg; obtain ⟨⟨d0, d1⟩, e0, e1⟩ := row_fr rgF) | skip)))
        all_goals go_wp2_with fail
        all_goals go_meet
        all_goals
          have hlm := hk2.size
          have rf' := heap_keep hk2 rf
          have r5' := heap_keep hk2 r5
          first
            | exact ⟨_, rfl, trivial, by omega, two_cells rg _ _, heap_two_other _ _ (by omega) rf', heap_two_other _ _ (by omega) r5', below_setCell (below_setCell hk2 (by omega) _) (by omega) _⟩
            | exact ⟨_, rfl, trivial, by omega, heap_alloc_new w2 _, (heap_alloc_old _ _ (by omega)).trans rf', (heap_alloc_old _ _ (by omega)).trans r5', hk2.alloc (by omega) _⟩
      case rest =>
        obtain ⟨g7, rfl, -, ⟨hg7, hg75⟩, r7, rf', r5', hB7⟩ := hcut
        have hA3 := hA2.trans (hB7.mono hA2.size)
        have hf3 := hf2.below hB7
        have HAl2 : Hid (∀ w', Below wc.heap.size wc w' → Calls Try.prog 105 #[.agg #[.slice aoL nL cL, .slice aoV nV cV], .int .i64 1] w' fun e w2 => e = .returned (.int .i64 T) ∧ Below w'.heap.size w' w2) := Lib.hid (fun w' hb => HAl.out w' (hB7.trans (hb.mono hB7.size)))
        clear x0 x1 t0 t1 rf r5 hA2 hf2 hB7 HU HBf HAl
        obtain ⟨⟨x0, x1⟩, -, -⟩ := row_fr rf'
        obtain ⟨⟨t0, t1⟩, -, -⟩ := row_fr r7
        have hSl := fun w' => rsub_q (T : Rat) Wa w' f3
        have hLs := fun w' => rless_q Wa Wb w' f4
        have hWh := fun w' => rwhole_any T w'
        rw [f2] at hSl
        obtain ⟨TR, hTR⟩ : ∃ x, x = (T : Rat) := ⟨_, rfl⟩
        rw [← hTR] at hSl hWh
        have HSl := Lib.hid hSl
        have HLs := Lib.hid hLs
        have HWh := Lib.hid hWh
        clear hSl hLs hWh hTR f2 f3 f4
        obtain ⟨bv, hbv⟩ : ∃ b, b = decide (Wa < Wb) := ⟨_, rfl⟩
        rw [← hbv] at hcB HLs
        clear hbv
        go_upto_region 6 with fail
        have hdr : Below wc.heap.size wc wc.drew := below_drewN (Below.refl wc.heap.size wc) 1
        refine wp_region_held_drew (S := fun w' => w'.cell? ⟨G, 0, none⟩ = some (.slice aoL nL cL) ∧ w'.cell? ⟨G, 1, none⟩ = some (.slice aoV nV cV) ∧ w'.cell? ⟨g7, 0, none⟩ = some (.int .i64 Wa.num) ∧ w'.cell? ⟨g7, 1, none⟩ = some (.int .i64 Wa.den)) (by kernel_rfl) ⟨keep_cell hdr x0, keep_cell hdr x1, keep_cell hdr t0, keep_cell hdr t1⟩ (fun hHeld => ?_)
        refine wpAnyH_take (i := 0) (v := .agg #[.int .i64 Wa.num, .int .i64 Wa.den]) rfl (by kernel_rfl) (by kernel_rfl) (by kernel_rfl) (fun _ _ _ h => h) (Or.inl ⟨by rfl, fun w hSw => ?_⟩) (by assumption) ?_
        · obtain ⟨s0, s1, s2, s3⟩ := hSw
          (go_simp <;> omega)
        try simp only [List.getElem_toArray, List.getElem_cons_zero, Act.put, List.setIfInBounds_toArray, List.set_cons_zero, List.set_cons_succ]
        refine wpAnyH_take (i := 1) (v := .agg #[.slice aoL nL cL, .slice aoV nV cV]) rfl (by kernel_rfl) (by kernel_rfl) (by kernel_rfl) (fun _ _ _ h => h) (Or.inl ⟨by rfl, fun w hSw => ?_⟩) (by assumption) ?_
        · obtain ⟨s0, s1, s2, s3⟩ := hSw
          (go_simp <;> omega)
        try simp only [List.getElem_toArray, List.getElem_cons_zero, List.getElem_cons_succ, Act.put, List.setIfInBounds_toArray, List.set_cons_zero, List.set_cons_succ]
        refine wpAnyH_take (i := 4) (v := .agg #[.int .i64 Wa.num, .int .i64 Wa.den]) rfl (by kernel_rfl) (by kernel_rfl) (by kernel_rfl) (fun _ _ _ h => h) (Or.inl ⟨by rfl, fun w hSw => ?_⟩) (by assumption) ?_
        · obtain ⟨s0, s1, s2, s3⟩ := hSw
          (go_simp <;> omega)
        try simp only [List.getElem_toArray, List.getElem_cons_zero, List.getElem_cons_succ, Act.put, List.setIfInBounds_toArray, List.set_cons_zero, List.set_cons_succ]
        refine wpAnyH_ready (rs := [2]) (by kernel_rfl) (by simp) ?_
        refine AllReadyH.cons rfl (fun K hK => ?_) AllReadyH.nil
        go_simp
        go_at_call 105
        refine (HAl2.out _ hdr).mono ?_
        rintro e u1 ⟨rfl, hb1⟩
        have hb1' := hdr.trans (hb1.mono hdr.size)
        (try dsimp only)
        refine hK.out _ _ ⟨keep_cell hb1' x0, keep_cell hb1' x1, keep_cell hb1' t0, keep_cell hb1' t1⟩ (fun hHeld => ?_)
        clear hK K
        try simp only [List.getElem_toArray, List.getElem_cons_zero, List.getElem_cons_succ, Act.put, List.setIfInBounds_toArray, List.set_cons_zero, List.set_cons_succ]
        refine wpAnyH_ready (rs := [3]) (by kernel_rfl) (by simp) ?_
        refine AllReadyH.cons rfl (fun K hK => ?_) AllReadyH.nil
        go_simp
        go_at_call 40
        refine (HWh.out _).mono ?_
        rintro e u2 ⟨rfl, hb2⟩
        have hb2' := hb1'.trans (hb2.mono hb1'.size)
        (try dsimp only)
        refine hK.out _ _ ⟨keep_cell hb2' x0, keep_cell hb2' x1, keep_cell hb2' t0, keep_cell hb2' t1⟩ (fun hHeld => ?_)
        clear hK K
        try simp only [List.getElem_toArray, List.getElem_cons_zero, List.getElem_cons_succ, Act.put, List.setIfInBounds_toArray, List.set_cons_zero, List.set_cons_succ]
        refine wpAnyH_ready (rs := [5]) (by kernel_rfl) (by simp) ?_
        refine AllReadyH.cons rfl (fun K hK => ?_) AllReadyH.nil
        go_simp
        go_at_call 88
        refine (HSl.out _).mono ?_
        rintro e u3 ⟨rfl, hb3⟩
        have hb3' := hb2'.trans (hb3.mono hb2'.size)
        (try dsimp only)
        refine hK.out _ _ ⟨keep_cell hb3' x0, keep_cell hb3' x1, keep_cell hb3' t0, keep_cell hb3' t1⟩ (fun hHeld => ?_)
        clear hK K
        try simp only [List.getElem_toArray, List.getElem_cons_zero, List.getElem_cons_succ, Act.put, List.setIfInBounds_toArray, List.set_cons_zero, List.set_cons_succ]
        refine wpAnyH_ready (rs := [6]) (by kernel_rfl) (by simp) ?_
        refine AllReadyH.cons rfl (fun K hK => ?_) AllReadyH.nil
        go_simp
        go_at_call 36
        refine (HLs.out _).mono ?_
        rintro e u4 ⟨rfl, hb4⟩
        have hb4' := hb3'.trans (hb4.mono hb3'.size)
        (try dsimp only)
        refine hK.out _ _ ⟨keep_cell hb4' x0, keep_cell hb4' x1, keep_cell hb4' t0, keep_cell hb4' t1⟩ (fun hHeld => ?_)
        clear hK K
        try simp only [List.getElem_toArray, List.getElem_cons_zero, List.getElem_cons_succ, Act.put, List.setIfInBounds_toArray, List.set_cons_zero, List.set_cons_succ]
        refine wpAnyH_done (by kernel_rfl) ?_ _
        have hA4 := hA3.trans (hb4'.mono hA3.size)
        have hf4 := hf3.below hb4'
        have rf4 := heap_keep hb4' rf'
        have r54 := heap_keep hb4' r5'
        clear hdr hb1 hb2 hb3 hb4 hb1' hb2' hb3' hb4' x0 x1 t0 t1 HAl2 HSl HLs HWh hA3 hf3 rf' r5' r7
        obtain ⟨⟨x0, x1⟩, -, -⟩ := row_fr rf4
        obtain ⟨⟨t0, t1⟩, -, -⟩ := row_fr r54
        cases bv with
        | true =>
          go_wp2_with fail
          refine (scutAt_any L V 0 1 h aoL nL cL aoV nV cV u4 hf4 hok rfl).mono ?_
          rintro e z7 ⟨g8, rfl, ho, hb7⟩
          go_wp2_with fail
          go_ret2
          refine ⟨.slice (some ⟨g8, 0, none⟩) 2 2, by simp [Hz.out], ?_, hA4.trans (hb7.mono hA4.size)⟩
          rw [hk.out, hlen.out, hB.out, hcB.out, if_pos rfl]
          exact own_mono ho hA4.size
        | false =>
          go_wp2_with fail
          refine (scutAt_any L V 1 0 h aoL nL cL aoV nV cV u4 hf4 hok rfl).mono ?_
          rintro e z7 ⟨g8, rfl, ho, hb7⟩
          go_wp2_with fail
          go_ret2
          refine ⟨.slice (some ⟨g8, 0, none⟩) 2 2, by simp [Hz.out], ?_, hA4.trans (hb7.mono hA4.size)⟩
          rw [hk.out, hlen.out, hB.out, hcB.out, if_neg (by simp)]
          exact own_mono ho hA4.size
  · have hk : Hid (Kn.chL L V = []) := Lib.hid (by unfold Kn.chL; rw [if_neg hz])
    have hne : (Kn.val2 L V != 0) = true := by simp [hz]
    obtain ⟨C, hC⟩ : ∃ C, Kn.val2 L V = C := ⟨_, rfl⟩
    rw [hC] at hz hne ⊢
    have HC := Lib.hid hC
    clear hC
    go_wp2_with fail
    go_ret2
    refine ⟨.slice none 0 0, by simp [HC.out], ?_, hA⟩
    rw [hk.out]
    exact own_none
end Go.Proofs.Ytemlfklipkpacaa
