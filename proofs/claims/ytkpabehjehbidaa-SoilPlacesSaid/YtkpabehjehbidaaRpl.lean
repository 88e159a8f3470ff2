import Derived.Test.YtkpabehjehbidaaPlb
import Derived.Test.YtkpabehjehbidaaRr
import Derived.Test.YtkpabehjehbidaaOpr
namespace Go.Proofs.Ytkpabehjehbidaa
open Go.RowKit

theorem asked_one {l : List (Int × Int)} {n1 d1 : Int} : Fl.askedC l [(n1, d1)] = if Fl.validate l ≠ 0 then Fl.validate l else if Fl.plc (Fl.len l) n1 d1 1000 = true then 0 else 1 := by
  unfold Fl.askedC; simp
theorem pts_one {w : World} {g : Nat} {n1 d1 : Int} {t : TypeId} (h : w.heap[g]? = some (.cells #[.int .i64 n1, .int .i64 d1] t (0, 0))) : Pts w (some ⟨g, 0, none⟩) [(n1, d1)] := by
  have hc := fun j => cell_of_row w g j _ _ _ h
  refine ⟨fun _ => ⟨_, 0, rfl, heap_lt h, fun i hi => ?_⟩⟩
  match i, hi with
  | 0, _ => exact ⟨hc 0, hc 1⟩
theorem reachR_eq {l : List (Int × Int)} (hok : Fl.Ok l) {a w : Rat} (h0 : 0 ≤ a) (h1 : a ≤ (Fl.len l : Rat)) (hw : 0 ≤ w) :
    Fl.reachR (Fl.units l) a w = if Fl.worth l a (Fl.len l : Rat) < w then none else some (Fl.place l a w) := by
  unfold Fl.reachR
  have hW : 0 ≤ Fl.worth l a (Fl.len l : Rat) := by
    rw [Fl.worth_rest hok h0 h1, Fl.before_cum hok h0]
    have := (Fl.cum_bound hok h0).2
    grind
  by_cases hz : w = 0
  · subst hz
    rw [if_pos (by decide), if_neg (by grind)]
    unfold Fl.place
    rw [if_pos rfl]
  · have hpos : 0 < w := by grind
    have hn : ¬ w.num ≤ 0 := by
      intro h
      have h2 := Fl.num_nonneg hw
      have h3 : w.num = 0 := by omega
      exact hz (Rat.num_eq_zero.1 h3)
    rw [if_neg hn, Fl.reach_eq hok h0 h1 hpos]
    by_cases hle : w ≤ Fl.worth l a (Fl.len l : Rat)
    · rw [if_pos hle, if_neg (by grind)]
    · rw [if_neg hle, if_pos (by grind)]
theorem optFr_pair (o : Option Rat) : ∃ x y : Int, optFr o = .agg #[.int .i64 x, .int .i64 y] := by
  cases o with
  | none => exact ⟨_, _, rfl⟩
  | some q => exact ⟨_, _, rfl⟩
/-- The whole part of a fraction against a whole number. -/
theorem quo_small {n d T : Int} (hn : 0 ≤ n) (hd : 1 ≤ d) (h : ¬ T < n / d) : mkRat n d.toNat ≤ ((T + 1 : Int) : Rat) := by
  have e : ((d.toNat : Nat) : Rat) = (d : Rat) := by rw [← Rat.intCast_natCast, Int.toNat_of_nonneg (by omega)]
  have hp : (0 : Rat) < (d : Rat) := by exact_mod_cast (show (0 : Int) < d by omega)
  have h1 := Int.mul_ediv_add_emod n d
  have h2 := Int.emod_lt_of_pos n (show 0 < d by omega)
  have h3 : d * (n / d) ≤ d * T := Int.mul_le_mul_of_nonneg_left (by omega) (by omega)
  have h4 : n ≤ (T + 1) * d := by rw [Int.add_mul, Int.mul_comm T d]; omega
  rw [Rat.mkRat_eq_div, e]
  refine Rat.not_lt.1 fun hgt => ?_
  have h5 := Rat.mul_lt_mul_of_pos_right hgt hp
  rw [Rat.div_mul_cancel (by grind)] at h5
  have h6 : (n : Rat) ≤ (((T + 1) * d : Int) : Rat) := Rat.intCast_le_intCast.2 h4
  rw [Rat.intCast_mul] at h6
  grind
theorem quo_big {n d T : Int} (hd : 1 ≤ d) (h : T < n / d) : (T : Rat) < mkRat n d.toNat := by
  have := quo_gt (n := n) (L := T) hd (by omega)
  grind

set_option maxRecDepth 100000 in
set_option maxHeartbeats 8000000 in
theorem rPlace_any (l : List (Int × Int)) (ao : Option Addr) (m cap : Nat) (n1 d1 n2 d2 : Int) (w : World) (hp : Pts w ao l) (hln : m = l.length) (hm : m ≤ 100000) (hn1 : Rng n1) (hn2 : Rng n2) :
    Calls Try.prog 30 #[.slice ao m cap, .agg #[.int .i64 n1, .int .i64 d1], .agg #[.int .i64 n2, .int .i64 d2]] w fun e w' => e = .returned (.tuple #[frOr (Fl.pcode l n1 d1 n2 d2) (Fl.place l (mkRat n1 d1.toNat) (mkRat n2 d2.toNat)), .int .i64 (Fl.pcode l n1 d1 n2 d2)]) ∧ Below w.heap.size w w' := by
  have Hn := Lib.hid hln
  clear hln
  obtain ⟨C, hC⟩ : ∃ c, Fl.pcode l n1 d1 n2 d2 = c := ⟨_, rfl⟩
  rw [hC]
  have HC := Lib.hid hC
  clear hC
  have hB := below_alloc4 w (.cells #[.int .i64 n1, .int .i64 d1] 29) (.cells #[.int .i64 n2, .int .i64 d2] 29) (.cells #[.int .i64 0, .int .i64 0] 29) (.cells #[.int .i64 n1, .int .i64 d1] 29)
  have A2 := heap_alloc4 w (.cells #[.int .i64 n1, .int .i64 d1] 29) (.cells #[.int .i64 n2, .int .i64 d2] 29) (.cells #[.int .i64 0, .int .i64 0] 29) (.cells #[.int .i64 n1, .int .i64 d1] 29)
  replace hp := hp.below hB
  have HA := Lib.hid (And.intro hB A2)
  clear hB A2
  obtain ⟨v, hv⟩ : ∃ v, v = Fl.validate l := ⟨_, rfl⟩
  have hv0 : v = 0 ∨ (v != 0) = true := by by_cases h : v = 0 <;> simp [h]
  have Hv := Lib.hid hv
  clear hv
  obtain ⟨V, hV⟩ : ∃ x, x = Fl.place l (mkRat n1 d1.toNat) (mkRat n2 d2.toNat) := ⟨_, rfl⟩
  rw [← hV]
  have HV := Lib.hid hV
  clear hV
  have HR : Hid (∀ p ∈ [(n1, d1)], -9223372036854775808 ≤ p.1 ∧ p.1 ≤ 9223372036854775807) := Lib.hid (by
    intro p hp
    simp only [List.mem_cons, List.not_mem_nil, or_false] at hp
    subst hp
    exact ⟨hn1.1, hn1.2⟩)
  have HAsk := Lib.hid (asked_one (l := l) (n1 := n1) (d1 := d1))
  obtain ⟨hn2a, hn2b⟩ := hn2
  go_enter Try.func30, Try.ntmps30
  go_wp2_with fail
  obtain ⟨hB, r4, r5, r6, r7⟩ := HA.out
  have hq := pts_one r7
  clear HA r7
  refine (rasked_any l [(n1, d1)] _ _ _ _ _ _ _ hp Hn.out hm hq rfl (by simp) HR.out).mono ?_
  rintro e w1 ⟨rfl, hbb⟩
  replace hp := hp.below hbb
  replace r4 := heap_keep hbb r4
  replace r5 := heap_keep hbb r5
  replace r6 := heap_keep hbb r6
  replace hB := hB.trans (hbb.mono hB.size)
  clear hbb
  clear hq
  rw [HAsk.out, ← Hv.out]
  rcases hv0 with rfl | hv0
  · have hok := Fl.validate_ok.1 Hv.out.symm
    have hlb := Fl.len_bound hok.2
    have hl1 := hok.1.1
    have hl6 := hok.1.2
    have htb := Fl.tot_bound hok.2
    rw [if_neg (by simp)]
    cases hp1 : Fl.plc (Fl.len l) n1 d1 1000 with
    | false =>
      have hc := Fl.pcode_arg (n1 := n1) (d1 := d1) (n2 := n2) (d2 := d2) Hv.out.symm (by rw [hp1]; rfl)
      rw [HC.out] at hc
      subst hc
      clear hp1
      obtain ⟨⟨c0, c1⟩, f0, f1⟩ := row_fr r6
      simp only [Bool.false_eq_true, if_false]
      go_wp2
      rw [show frOr 1 V = .agg #[.int .i64 0, .int .i64 0] from rfl]
      exact bodyPost_ret (results_cell_tmp rfl _ _ _ _ _ _ _ rfl (two_cells r6 (.int .i64 0) (.int .i64 0)) Try.underlying29 rfl infoRat2) rfl ⟨rfl, below_setCell (below_setCell hB (by omega) _) (by omega) _⟩
    | true =>
      have Hp1 := Lib.hid hp1
      clear hp1
      simp only [if_true]
      obtain ⟨⟨c0, c1⟩, -, -⟩ := row_fr r5
      go_wp2_with fail
      refine (risValid_any n2 d2 1000 _ hn2a hn2b (by omega)).mono ?_
      rintro e w2 ⟨rfl, hbb⟩
      replace hp := hp.below hbb
      replace r4 := heap_keep hbb r4
      replace r5 := heap_keep hbb r5
      replace r6 := heap_keep hbb r6
      replace hB := hB.trans (hbb.mono hB.size)
      clear hbb
      clear c0 c1
      cases hval : valB n2 d2 1000 with
      | false =>
        have ha : Fl.amt n2 d2 1000 = false := by
          by_cases h : 0 ≤ n2
          · rw [← valB_amt h]; exact hval
          · unfold Fl.amt; simp [h]
        have hc := Fl.pcode_arg (n1 := n1) (d1 := d1) (n2 := n2) (d2 := d2) Hv.out.symm (by rw [ha]; simp)
        rw [HC.out] at hc
        subst hc
        clear hval ha
        obtain ⟨⟨c0, c1⟩, f0, f1⟩ := row_fr r6
        go_wp2
        rw [show frOr 1 V = .agg #[.int .i64 0, .int .i64 0] from rfl]
        exact bodyPost_ret (results_cell_tmp rfl _ _ _ _ _ _ _ rfl (two_cells r6 (.int .i64 0) (.int .i64 0)) Try.underlying29 rfl infoRat2) rfl ⟨rfl, below_setCell (below_setCell hB (by omega) _) (by omega) _⟩
      | true =>
        have Hval := Lib.hid hval
        clear hval
        obtain ⟨⟨c2, c3⟩, -, -⟩ := row_fr r5
        by_cases hneg : n2 < 0
        · have ha : Fl.amt n2 d2 1000 = false := by unfold Fl.amt; simp; omega
          have hc := Fl.pcode_arg (n1 := n1) (d1 := d1) (n2 := n2) (d2 := d2) Hv.out.symm (by rw [ha]; simp)
          rw [HC.out] at hc
          subst hc
          clear ha
          obtain ⟨⟨c0, c1⟩, f0, f1⟩ := row_fr r6
          go_wp2
          rw [show frOr 1 V = .agg #[.int .i64 0, .int .i64 0] from rfl]
          exact bodyPost_ret (results_cell_tmp rfl _ _ _ _ _ _ _ rfl (two_cells r6 (.int .i64 0) (.int .i64 0)) Try.underlying29 rfl infoRat2) rfl ⟨rfl, below_setCell (below_setCell hB (by omega) _) (by omega) _⟩
        · have hp2 : Fl.amt n2 d2 1000 = true := by rw [← valB_amt (by omega)]; exact Hval.out
          have hc := Fl.pcode_ok (n1 := n1) (d1 := d1) (n2 := n2) (d2 := d2) Hv.out.symm Hp1.out hp2
          obtain ⟨q1, hq1, a1, a2, a3, a4, a5⟩ := Fl.plc_rat Hp1.out
          obtain ⟨b1, b2, b3, b4, b5, b6⟩ := Fl.amt_rat hp2
          have hsm := quo_small (T := Fl.tot l) b4 b5
          have hbg := quo_big (n := n2) (T := Fl.tot l) b5
          obtain ⟨q2, hq2⟩ : ∃ q, q = mkRat n2 d2.toNat := ⟨_, rfl⟩
          rw [← hq2] at b1 b2 b3 hc hsm hbg
          rw [← hq1, HC.out] at hc
          have hrest := Fl.worth_rest hok.2 a3 a4
          have hb0 := (before_bound (unitsOk_of hok.2 hl6) (placeU_of hok.2 a3 a4 (by omega))).1
          have hWt : Fl.worth l q1 (Fl.len l : Rat) ≤ (Fl.tot l : Rat) := by rw [hrest]; grind
          have hR0 := reachR_eq hok.2 a3 a4 b3
          obtain ⟨W, hW⟩ : ∃ x, x = Fl.worth l q1 (Fl.len l : Rat) := ⟨_, rfl⟩
          rw [← hW] at hc hWt hR0
          clear hrest hW
          obtain ⟨d, hd⟩ : ∃ x : Nat, (x : Int) = d2 := ⟨d2.toNat, by omega⟩
          obtain ⟨nn, hnn⟩ : ∃ x : Nat, (x : Int) = n2 := ⟨n2.toNat, by omega⟩
          have hb := IntWalk.tdiv_le (nn : Int) d (by omega) (by omega)
          have x1 : IntKind.i64.wrap ((nn : Int) / (d : Int)) = (nn : Int) / (d : Int) := IntWalk.i64_in _ (by omega)
          have t1 : (nn : Int).tdiv (d : Int) = (nn : Int) / (d : Int) := Int.tdiv_eq_ediv_of_nonneg (by omega)
          have gz : ¬ d = 0 := by omega
          have gz2 : ((d : Int) == 0) = false := by simp; omega
          rw [← hnn] at c2 hsm hbg hneg
          rw [← hd] at c3 hsm hbg
          have HD := Lib.hid (And.intro hd hnn)
          have HQ := Lib.hid (And.intro hq1 hq2)
          have HCC := Lib.hid hc
          have HR0 := Lib.hid hR0
          have Hsm := Lib.hid hsm
          have Hbg := Lib.hid hbg
          have Hb12 := Lib.hid (And.intro b1 b2)
          clear hq1 hq2 hp2 hc hR0 hd hnn b1 b2 hsm hbg
          subst a1 a2
          go_wp2_with fail
          have hp0 : Pts w2.drew ao l := ⟨hp.cells⟩
          go_region_held3 (fun w' => w'.cell? ⟨w.heap.size + 1, 0, none⟩ = some (.int .i64 nn) ∧ w'.cell? ⟨w.heap.size + 1, 1, none⟩ = some (.int .i64 d))
            (first | exact ⟨c2, c3⟩ | exact ka)
            (first
              | (go_at_call 57; refine (rtotal_any l _ _ _ _ hp0 Hn.out hok.2 hl6).mono ?_; rintro e w4 ⟨rfl, hb1⟩; have ka := And.intro (keep_cell hb1 c2) (keep_cell hb1 c3); replace hB := (below_drewN hB 1).trans (hb1.mono (by have := hB.size; exact this)); replace r4 := heap_keep hb1 r4; replace r5 := heap_keep hb1 r5; replace r6 := heap_keep hb1 r6; replace hp := hp0.below hb1))
          clear x1 t1 gz gz2 c2 c3 ka
          by_cases hgt : Fl.tot l < (nn : Int) / (d : Int)
          · have hc2 : Hid (C = 8) := Lib.hid (by rw [HCC.out, if_pos (by have := Hbg.out hgt; grind)])
            obtain ⟨⟨c0, c1⟩, f0, f1⟩ := row_fr r6
            go_wp2
            rw [hc2.out, show frOr 8 V = .agg #[.int .i64 0, .int .i64 0] from rfl]
            exact bodyPost_ret (results_cell_tmp rfl _ _ _ _ _ _ _ rfl (two_cells r6 (.int .i64 0) (.int .i64 0)) Try.underlying29 rfl infoRat2) rfl ⟨rfl, below_setCell (below_setCell hB (by omega) _) (by omega) _⟩
          · have hq4 := Hsm.out (by omega)
            have hwant : WantU q2 := ⟨b3, Rat.le_trans hq4 (by have : ((Fl.tot l + 1 : Int) : Rat) ≤ ((4000 : Int) : Rat) := Rat.intCast_le_intCast.2 (by omega); exact this), by have := Hb12.out.2; omega⟩
            have hu := unitsOk_of hok.2 hl6
            have pu1 := placeU_of hok.2 a3 a4 (by omega)
            obtain ⟨R, hRR⟩ : ∃ r, r = Fl.reachR (Fl.units l) q1 q2 := ⟨_, rfl⟩
            have HRR : Hid (R = if W < q2 then none else some (Fl.place l q1 q2)) := Lib.hid (by rw [hRR, HR0.out])
            obtain ⟨x, y, hxy⟩ := optFr_pair R
            rw [← HD.out.2, ← HD.out.1] at Hb12
            rw [← HD.out.2, ← HD.out.1] at r5
            rw [← Hb12.out.1, ← Hb12.out.2] at r5
            have HrR := Lib.hid hRR
            have Hxy := Lib.hid hxy
            clear hRR hxy hq4
            obtain ⟨⟨c0, c1⟩, -, -⟩ := row_fr r4
            obtain ⟨⟨c2, c3⟩, -, -⟩ := row_fr r5
            have hl6x := heap_lt r6
            go_upto_region 9 with fail
            have hp1 : Pts w4.drew ao l := ⟨hp.cells⟩
            have hp2 : Pts (w4.alloc (.cells #[.int .i64 0, .int .i64 0] 29)).drew ao l := ⟨(hp.below ((Below.refl _ w4).alloc (Nat.le_refl _) (.cells #[.int .i64 0, .int .i64 0] 29))).cells⟩
            have HK : Below w4.heap.size w4 (w4.alloc (.cells #[.int .i64 0, .int .i64 0] 29)).drew := below_drewN ((Below.refl _ w4).alloc (Nat.le_refl _) _) 1
            go_cut [9, 10] from 11 (fun p9 p10 wc => ∃ g : Nat, p9 = .pointer (some ⟨g, 0, none⟩) ∧ p10 = .bool R.isSome ∧ w.heap.size + 2 < g ∧ wc.heap[g]? = some (.cells #[.int .i64 x, .int .i64 y] 29 (0, 0)) ∧ wc.heap[w.heap.size + 1 + 1]? = some (.cells #[.int .i64 0, .int .i64 0] 29 (0, 0)) ∧ Below w.heap.size w wc)
            case first =>
              go_region_held3 (fun w' => w'.cell? ⟨w.heap.size, 0, none⟩ = some (.int .i64 q1.num) ∧ w'.cell? ⟨w.heap.size, 1, none⟩ = some (.int .i64 q1.den) ∧ w'.cell? ⟨w.heap.size + 1, 0, none⟩ = some (.int .i64 q2.num) ∧ w'.cell? ⟨w.heap.size + 1, 1, none⟩ = some (.int .i64 q2.den))
                (first | exact ⟨c0, c1, c2, c3⟩ | exact ka | exact kb | exact ⟨cell_two_other _ _ (by omega) kb.1, cell_two_other _ _ (by omega) kb.2.1, cell_two_other _ _ (by omega) kb.2.2.1, cell_two_other _ _ (by omega) kb.2.2.2⟩ | exact ⟨keep_cell HK c0, keep_cell HK c1, keep_cell HK c2, keep_cell HK c3⟩ | exact ⟨keep_cell hk5 ka.1, keep_cell hk5 ka.2.1, keep_cell hk5 ka.2.2.1, keep_cell hk5 ka.2.2.2⟩ | exact ⟨keep_cell hk6 kb.1, keep_cell hk6 kb.2.1, keep_cell hk6 kb.2.2.1, keep_cell hk6 kb.2.2.2⟩ | go_keep)
                (first
                  | (go_at_call 55; (first | ((with_reducible refine (units_any l _ _ _ _ hp1 Hn.out hok.2 hl6).mono ?_); rintro e w5 ⟨ao3, cap3, rfl, hI, hb1⟩; have hk1 : Below w4.heap.size w4 w5 := (below_drewN (Below.refl _ w4) 1).trans hb1) | ((with_reducible refine (units_any l _ _ _ _ hp2 Hn.out hok.2 hl6).mono ?_); rintro e w5 ⟨ao3, cap3, rfl, hI, hb1⟩; have hk1 : Below w4.heap.size w4 w5 := (below_drewN ((Below.refl _ w4).alloc (Nat.le_refl _) _) 1).trans (hb1.mono (by simp)); have rg := heap_keep hb1 (heap_alloc_new w4 (.cells #[.int .i64 0, .int .i64 0] 29)))); have hl1 : w4.heap.size ≤ w5.heap.size := hk1.size; have ka := And.intro (keep_cell hk1 c0) (And.intro (keep_cell hk1 c1) (And.intro (keep_cell hk1 c2) (keep_cell hk1 c3))); have hk5 := (Below.refl _ w5).alloc (Nat.le_refl _) (.cells #[.int .i64 0, .int .i64 0] 29); have hI2 := hI.below hk5)
                  | (go_at_call 72; (first | ((with_reducible refine (rreach_any _ q1 q2 _ _ _ hI hu pu1 (by omega) hwant).mono ?_); rintro e w6 ⟨rfl, hb2⟩; have hkk : Below w5.heap.size w5 w6 := hb2; (first | (have rg2 := heap_keep hb2 rg; obtain ⟨⟨d0, d1⟩, f0, f1⟩ := row_fr rg2) | skip)) | ((with_reducible refine (rreach_any _ q1 q2 _ _ _ hI2 hu pu1 (by omega) hwant).mono ?_); rintro e w6 ⟨rfl, hb2⟩; have hkk : Below w5.heap.size w5 w6 := ((Below.refl _ w5).alloc (Nat.le_refl _) _).trans (hb2.mono (by simp)); have rg2 := heap_keep hb2 (heap_alloc_new w5 (.cells #[.int .i64 0, .int .i64 0] 29)); obtain ⟨⟨d0, d1⟩, f0, f1⟩ := row_fr rg2)); have kb := And.intro (keep_cell hkk ka.1) (And.intro (keep_cell hkk ka.2.1) (And.intro (keep_cell hkk ka.2.2.1) (keep_cell hkk ka.2.2.2))); have hk6 := (Below.refl _ w6).alloc (Nat.le_refl _) (.cells #[.int .i64 0, .int .i64 0] 29); rw [← HrR.out, Hxy.out]))
              all_goals go_wp2_with fail
              all_goals go_meet
              all_goals
                have hBB : Below w.heap.size w w6 := (hB.trans (hk1.mono hB.size)).trans (hkk.mono (hB.trans (hk1.mono hB.size)).size)
                have r66 := heap_keep hkk (heap_keep hk1 r6)
                have hl2 := hkk.size
                first
                  | exact ⟨_, rfl, rfl, by omega, two_cells rg2 _ _, heap_two_other _ _ (by omega) r66, below_setCell (below_setCell hBB (by omega) _) (by omega) _⟩
                  | exact ⟨_, rfl, rfl, by omega, heap_alloc_new w6 _, (heap_alloc_old _ _ (by omega)).trans r66, hBB.alloc (by omega) _⟩
            case rest =>
              obtain ⟨g, rfl, rfl, hg, rT, r6, hB⟩ := hcut
              clear c0 c1 c2 c3 hl6x hp1 hp2
              by_cases hlt : W < q2
              · have hRn : R = none := by rw [HRR.out, if_pos hlt]
                subst hRn
                have hc2 : Hid (C = 8) := Lib.hid (by rw [HCC.out, if_pos hlt])
                clear hlt
                obtain ⟨⟨c0, c1⟩, f0, f1⟩ := row_fr r6
                go_wp2
                rw [hc2.out, show frOr 8 V = .agg #[.int .i64 0, .int .i64 0] from rfl]
                exact bodyPost_ret (results_cell_tmp rfl _ _ _ _ _ _ _ rfl (two_cells r6 (.int .i64 0) (.int .i64 0)) Try.underlying29 rfl infoRat2) rfl ⟨rfl, below_setCell (below_setCell hB (by omega) _) (by omega) _⟩
              · have hRn : R = some V := by rw [HRR.out, if_neg hlt, HV.out, ← HQ.out.1, ← HQ.out.2]
                subst hRn
                have hc2 : Hid (C = 0) := Lib.hid (by rw [HCC.out, if_neg hlt])
                have hxy := Hxy.out
                simp only [optFr_some, Fr, Value.agg.injEq, Array.mk.injEq, List.cons.injEq, Value.int.injEq, true_and, and_true] at hxy
                obtain ⟨rfl, rfl⟩ := hxy
                clear hlt
                obtain ⟨⟨c0, c1⟩, f0, f1⟩ := row_fr r6
                obtain ⟨⟨c2, c3⟩, -, -⟩ := row_fr rT
                go_wp2
                rw [hc2.out, show frOr 0 V = Fr V from rfl]
                exact bodyPost_ret (results_cell_tmp rfl _ _ _ _ _ _ _ rfl (two_cells r6 (.int .i64 V.num) (.int .i64 V.den)) Try.underlying29 rfl infoRat2) rfl ⟨rfl, below_setCell (below_setCell hB (by omega) _) (by omega) _⟩
  · have hc := Fl.pcode_bad (l := l) (n1 := n1) (d1 := d1) (n2 := n2) (d2 := d2) (by rw [← Hv.out]; exact code_ne hv0)
    rw [HC.out, ← Hv.out] at hc
    subst hc
    rw [if_pos (code_ne hv0)]
    obtain ⟨⟨c0, c1⟩, f0, f1⟩ := row_fr r6
    go_wp2
    rw [frOr_no hv0]
    exact bodyPost_ret (results_cell_tmp rfl _ _ _ _ _ _ _ rfl (two_cells r6 (.int .i64 0) (.int .i64 0)) Try.underlying29 rfl infoRat2) rfl ⟨rfl, below_setCell (below_setCell hB (by omega) _) (by omega) _⟩
end Go.Proofs.Ytkpabehjehbidaa
