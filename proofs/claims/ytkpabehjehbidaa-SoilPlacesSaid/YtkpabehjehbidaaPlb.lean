import Derived.Test.YtkpabehjehbidaaPl
import Derived.Test.YtkpabehjehbidaaFai
import Derived.Test.YtkpabehjehbidaaRch
namespace Go.Proofs.Ytkpabehjehbidaa
open Go.RowKit
namespace Fl
/-- The code that is asked of Place. -/
def pcode (l : List (Int × Int)) (n1 d1 n2 d2 : Int) : Int :=
  if validate l ≠ 0 then validate l else if plc (len l) n1 d1 1000 && amt n2 d2 1000 then (if worth l (mkRat n1 d1.toNat) (len l : Rat) < mkRat n2 d2.toNat then 8 else 0) else 1
theorem pcode_bad {l : List (Int × Int)} {n1 d1 n2 d2 : Int} (h : validate l ≠ 0) : pcode l n1 d1 n2 d2 = validate l := if_pos h
theorem pcode_arg {l : List (Int × Int)} {n1 d1 n2 d2 : Int} (h : validate l = 0) (h2 : (plc (len l) n1 d1 1000 && amt n2 d2 1000) = false) : pcode l n1 d1 n2 d2 = 1 := by
  unfold pcode; rw [if_neg (by simp [h]), h2]; rfl
theorem pcode_ok {l : List (Int × Int)} {n1 d1 n2 d2 : Int} (h : validate l = 0) (h2 : plc (len l) n1 d1 1000 = true) (h3 : amt n2 d2 1000 = true) :
    pcode l n1 d1 n2 d2 = if worth l (mkRat n1 d1.toNat) (len l : Rat) < mkRat n2 d2.toNat then 8 else 0 := by
  unfold pcode; rw [if_neg (by simp [h]), h2, h3]; rfl
end Fl
/-- What a field is worth from a place on. -/
theorem rest_known {l : List (Int × Int)} (hok : Fl.Ok l) (h6 : l.length ≤ 6) {a : Rat} (h0 : 0 ≤ a) (h1 : a ≤ (Fl.len l : Rat)) (hd : (a.den : Int) ≤ 1000) :
    PlaceOk a (Fl.len l : Rat) ∧ 0 ≤ Fl.worth l a (Fl.len l : Rat) ∧ Fl.worth l a (Fl.len l : Rat) ≤ ((2400 : Nat) : Rat) ∧ (Fl.worth l a (Fl.len l : Rat)).den ≤ 1000 := by
  have hlb := Fl.len_bound hok
  have hl0 : (0 : Rat) ≤ (Fl.len l : Rat) := by exact_mod_cast (show (0 : Int) ≤ Fl.len l by omega)
  have hpo := placeOk_of h0 hl0 h1 Rat.le_refl (by omega) (by omega) (by omega) (by rw [Rat.den_intCast]; omega)
  obtain ⟨p1, -, -, p4, p5⟩ := (Fl.worth_adds hpo.d hok h6).2
  refine ⟨hpo, p1, Rat.le_trans p5 ?_, ?_⟩
  · have : ((20 * Fl.len l : Int) : Rat) ≤ ((2400 : Int) : Rat) := Rat.intCast_le_intCast.2 (by omega)
    exact this
  · have h : (Fl.worth l a (Fl.len l : Rat)).den ≤ a.den * (Fl.len l : Rat).den := p4
    rw [Rat.den_intCast, Nat.mul_one] at h
    omega

set_option maxRecDepth 100000 in
set_option maxHeartbeats 4000000 in
theorem Place_any (l : List (Int × Int)) (ao : Option Addr) (m cap : Nat) (n1 d1 n2 d2 : Int) (w : World) (hp : Pts w ao l) (hln : m = l.length) (hm : m ≤ 100000) (hn1 : n1 ≤ 9223372036854775807) (hn2 : n2 ≤ 9223372036854775807) :
    Calls Try.prog 29 #[.slice ao m cap, .agg #[.int .i64 n1, .int .i64 d1], .agg #[.int .i64 n2, .int .i64 d2]] w fun e w' => e = .returned (.tuple #[frOr (Fl.pcode l n1 d1 n2 d2) (Fl.place l (mkRat n1 d1.toNat) (mkRat n2 d2.toNat)), .int .i64 (Fl.pcode l n1 d1 n2 d2)]) ∧ Below w.heap.size w w' := by
  have Hn := Lib.hid hln
  clear hln
  obtain ⟨C, hC⟩ : ∃ c, Fl.pcode l n1 d1 n2 d2 = c := ⟨_, rfl⟩
  rw [hC]
  have HC := Lib.hid hC
  clear hC
  have hB := below_alloc3 w (.cells #[.int .i64 n1, .int .i64 d1] 29) (.cells #[.int .i64 n2, .int .i64 d2] 29) (.cells #[.int .i64 0, .int .i64 0] 29)
  have A2 := heap_alloc3_all w (.cells #[.int .i64 n1, .int .i64 d1] 29) (.cells #[.int .i64 n2, .int .i64 d2] 29) (.cells #[.int .i64 0, .int .i64 0] 29)
  replace hp := hp.below hB
  have HA := Lib.hid (And.intro hB A2)
  clear hB A2
  obtain ⟨v, hv⟩ : ∃ v, v = Fl.validate l := ⟨_, rfl⟩
  have hv0 : v = 0 ∨ (v != 0) = true := by by_cases h : v = 0 <;> simp [h]
  have Hv := Lib.hid hv
  clear hv
  obtain ⟨V, hV⟩ : ∃ x, x = Fl.place l (mkRat n1 d1.toNat) (mkRat n2 d2.toNat) := ⟨_, rfl⟩
  rw [← hV]
  have HV := Lib.hid hV
  clear hV
  go_enter Try.func29, Try.ntmps29
  go_wp2_with fail
  obtain ⟨hB, r4, r5, r6⟩ := HA.out
  clear HA
  refine (validate_any l _ _ _ _ hp Hn.out hm).mono ?_
  rintro e w1 ⟨rfl, hbb⟩
  replace hp := hp.below hbb
  replace r4 := heap_keep hbb r4
  replace r5 := heap_keep hbb r5
  replace r6 := heap_keep hbb r6
  replace hB := hB.trans (hbb.mono hB.size)
  clear hbb
  rw [← Hv.out]
  rcases hv0 with rfl | hv0
  · have hok := Fl.validate_ok.1 Hv.out.symm
    have hlb := Fl.len_bound hok.2
    have hl1 := hok.1.1
    have hl6 := hok.1.2
    obtain ⟨⟨c0, c1⟩, -, -⟩ := row_fr r4
    go_wp2_with fail
    refine (isPlace_any l _ _ _ n1 d1 1000 _ hp Hn.out hok.2 hl6 hn1 (by omega)).mono ?_
    rintro e w2 ⟨rfl, hbb⟩
    replace hp := hp.below hbb
    replace r4 := heap_keep hbb r4
    replace r5 := heap_keep hbb r5
    replace r6 := heap_keep hbb r6
    replace hB := hB.trans (hbb.mono hB.size)
    clear hbb
    clear c0 c1
    cases hp1 : Fl.plc (Fl.len l) n1 d1 1000 with
    | false =>
      have hc := Fl.pcode_arg (n1 := n1) (d1 := d1) (n2 := n2) (d2 := d2) Hv.out.symm (by rw [hp1]; rfl)
      rw [HC.out] at hc
      subst hc
      clear hp1
      obtain ⟨⟨c0, c1⟩, f0, f1⟩ := row_fr r6
      go_wp2
      rw [show frOr 1 V = .agg #[.int .i64 0, .int .i64 0] from rfl]
      exact bodyPost_ret (results_cell_tmp rfl _ _ _ _ _ _ _ rfl (two_cells r6 (.int .i64 0) (.int .i64 0)) Try.underlying29 rfl infoRat2) rfl ⟨rfl, below_setCell (below_setCell hB (by omega) _) (by omega) _⟩
    | true =>
      have Hp1 := Lib.hid hp1
      clear hp1
      obtain ⟨⟨c0, c1⟩, -, -⟩ := row_fr r5
      go_wp2_with fail
      refine (isAmount_any n2 d2 1000 _ hn2 (by omega)).mono ?_
      rintro e w3 ⟨rfl, hbb⟩
      replace hp := hp.below hbb
      replace r4 := heap_keep hbb r4
      replace r5 := heap_keep hbb r5
      replace r6 := heap_keep hbb r6
      replace hB := hB.trans (hbb.mono hB.size)
      clear hbb
      clear c0 c1
      cases hp2 : Fl.amt n2 d2 1000 with
      | false =>
        have hc := Fl.pcode_arg (n1 := n1) (d1 := d1) (n2 := n2) (d2 := d2) Hv.out.symm (by rw [hp2]; simp)
        rw [HC.out] at hc
        subst hc
        clear hp2
        obtain ⟨⟨c0, c1⟩, f0, f1⟩ := row_fr r6
        go_wp2
        rw [show frOr 1 V = .agg #[.int .i64 0, .int .i64 0] from rfl]
        exact bodyPost_ret (results_cell_tmp rfl _ _ _ _ _ _ _ rfl (two_cells r6 (.int .i64 0) (.int .i64 0)) Try.underlying29 rfl infoRat2) rfl ⟨rfl, below_setCell (below_setCell hB (by omega) _) (by omega) _⟩
      | true =>
        have hc := Fl.pcode_ok (n1 := n1) (d1 := d1) (n2 := n2) (d2 := d2) Hv.out.symm Hp1.out hp2
        obtain ⟨q1, hq1, a1, a2, a3, a4, a5⟩ := Fl.plc_rat Hp1.out
        obtain ⟨b1, b2, b3, b4, b5, b6⟩ := Fl.amt_rat hp2
        obtain ⟨q2, hq2⟩ : ∃ q, q = mkRat n2 d2.toNat := ⟨_, rfl⟩
        rw [← hq2] at b1 b2 b3 hc
        rw [← hq1, HC.out] at hc
        obtain ⟨hpo, k0, k1, k2⟩ := rest_known hok.2 hl6 a3 a4 a5
        have hkn := Fl.num_le k1
        have hkn0 := Fl.num_nonneg k0
        obtain ⟨W, hW⟩ : ∃ x, x = Fl.worth l q1 (Fl.len l : Rat) := ⟨_, rfl⟩
        rw [← hW] at hc k0 k1 k2 hkn hkn0
        have hcq : Hid ((q2.den : Int) * (W.den : Int) ≤ 4000000000000000000) :=
          Lib.hid (by have : q2.den * W.den ≤ 1000 * 1000 := Nat.mul_le_mul (by omega) k2; rw [← Int.natCast_mul]; omega)
        have HQ := Lib.hid (And.intro hq1 hq2)
        have HW := Lib.hid hW
        have HCC := Lib.hid hc
        have Hp2 := Lib.hid hp2
        clear hq1 hq2 hp2 hW hc
        subst a1 b1 a2 b2
        obtain ⟨⟨c0, c1⟩, -, -⟩ := row_fr r4
        obtain ⟨⟨c2, c3⟩, -, -⟩ := row_fr r5
        go_wp2_with fail
        have hp0 : Pts w3.drew ao l := ⟨hp.cells⟩
        go_region_held3 (fun w' => w'.cell? ⟨w.heap.size, 0, none⟩ = some (.int .i64 q1.num) ∧ w'.cell? ⟨w.heap.size, 1, none⟩ = some (.int .i64 q1.den) ∧ w'.cell? ⟨w.heap.size + 1, 0, none⟩ = some (.int .i64 q2.num) ∧ w'.cell? ⟨w.heap.size + 1, 1, none⟩ = some (.int .i64 q2.den))
          (first | exact ⟨c0, c1, c2, c3⟩ | exact ka | exact kb | exact kc | exact kd)
          (first
            | (go_at_call 54; refine (length_any l _ _ _ _ hp0 Hn.out hok.2 hl6).mono ?_; rintro e w4 ⟨rfl, hb1⟩; have ka := And.intro (keep_cell hb1 c0) (And.intro (keep_cell hb1 c1) (And.intro (keep_cell hb1 c2) (keep_cell hb1 c3))); have hp1 := hp0.below hb1)
            | (go_at_call 69; refine (whole_any _ _).mono ?_; rintro e w5 ⟨rfl, hb2⟩; have kb := And.intro (keep_cell hb2 ka.1) (And.intro (keep_cell hb2 ka.2.1) (And.intro (keep_cell hb2 ka.2.2.1) (keep_cell hb2 ka.2.2.2))); have hp2 := hp1.below hb2)
            | (go_at_call 63; refine (worth_any l q1 (Fl.len l : Rat) _ _ _ _ hp2 Hn.out hok.2 hl1 hl6 hpo).mono ?_; rintro e w6 ⟨rfl, hb3⟩; rw [← HW.out]; have kc := And.intro (keep_cell hb3 kb.1) (And.intro (keep_cell hb3 kb.2.1) (And.intro (keep_cell hb3 kb.2.2.1) (keep_cell hb3 kb.2.2.2))))
            | (go_at_call 68; refine (compare_any q2 W _ b4 hkn0 hn2 (by omega) hcq.out).mono ?_; rintro e w7 ⟨rfl, hb4⟩; have kd := And.intro (keep_cell hb4 kc.1) (And.intro (keep_cell hb4 kc.2.1) (And.intro (keep_cell hb4 kc.2.2.1) (keep_cell hb4 kc.2.2.2))); replace hB := (below_drewN hB 1).trans (hb1.mono (by have := hB.size; exact this)); replace hB := hB.trans (hb2.mono hB.size); replace hB := hB.trans (hb3.mono hB.size); replace hB := hB.trans (hb4.mono hB.size); replace r6 := heap_keep hb4 (heap_keep hb3 (heap_keep hb2 (heap_keep hb1 r6))); replace hp := ((hp2.below hb3).below hb4)))
        by_cases hlt : W < q2
        · have hc2 : Hid (C = 8) := Lib.hid (by rw [HCC.out, if_pos hlt])
          have hcm : 0 < Fl.cmpR q2 W := by unfold Fl.cmpR; grind
          clear c0 c1 c2 c3 ka kb kc kd hlt
          obtain ⟨⟨c0, c1⟩, f0, f1⟩ := row_fr r6
          go_wp2
          rw [hc2.out, show frOr 8 V = .agg #[.int .i64 0, .int .i64 0] from rfl]
          exact bodyPost_ret (results_cell_tmp rfl _ _ _ _ _ _ _ rfl (two_cells r6 (.int .i64 0) (.int .i64 0)) Try.underlying29 rfl infoRat2) rfl ⟨rfl, below_setCell (below_setCell hB (by omega) _) (by omega) _⟩
        · have hc2 : Hid (C = 0) := Lib.hid (by rw [HCC.out, if_neg hlt])
          have hcm : ¬ 0 < Fl.cmpR q2 W := by unfold Fl.cmpR; grind
          have hgo : Fl.GoOk q1 q2 := by
            have e1 : ((2400 : Nat) : Rat) = 2400 := rfl
            have hl1000 : (Fl.len l : Rat) ≤ ((1000 : Int) : Rat) := Rat.intCast_le_intCast.2 (by omega)
            have e2 : ((1000 : Int) : Rat) = 1000 := rfl
            have hdd : q1.den * q2.den ≤ 1000 * 1000 := Nat.mul_le_mul (by omega) (by omega)
            exact ⟨a3, by grind, b3, by grind, by omega⟩
          clear c0 c1 c2 c3 ka kb kc hlt
          obtain ⟨c0, c1, c2, c3⟩ := kd
          go_wp2_with fail
          refine (place_any l q1 q2 _ _ _ _ hp Hn.out hok.2 hl1 hl6 hgo).mono ?_
          rintro e w4 ⟨rfl, hbb⟩
          replace hp := hp.below hbb
          replace r6 := heap_keep hbb r6
          replace hB := hB.trans (hbb.mono hB.size)
          clear hbb
          clear c0 c1 c2 c3
          obtain ⟨⟨c0, c1⟩, f0, f1⟩ := row_fr r6
          have HV2 : Hid (V = Fl.place l q1 q2) := Lib.hid (by rw [HV.out, ← HQ.out.1, ← HQ.out.2])
          rw [← HV2.out]
          go_wp2
          rw [hc2.out, show frOr 0 V = Fr V from rfl]
          exact bodyPost_ret (results_cell_tmp rfl _ _ _ _ _ _ _ rfl (two_cells r6 (.int .i64 V.num) (.int .i64 V.den)) Try.underlying29 rfl infoRat2) rfl ⟨rfl, below_setCell (below_setCell hB (by omega) _) (by omega) _⟩
  · have hc := Fl.pcode_bad (l := l) (n1 := n1) (d1 := d1) (n2 := n2) (d2 := d2) (by rw [← Hv.out]; exact code_ne hv0)
    rw [HC.out, ← Hv.out] at hc
    subst hc
    obtain ⟨⟨c0, c1⟩, f0, f1⟩ := row_fr r6
    go_wp2
    rw [frOr_no hv0]
    exact bodyPost_ret (results_cell_tmp rfl _ _ _ _ _ _ _ rfl (two_cells r6 (.int .i64 0) (.int .i64 0)) Try.underlying29 rfl infoRat2) rfl ⟨rfl, below_setCell (below_setCell hB (by omega) _) (by omega) _⟩
end Go.Proofs.Ytkpabehjehbidaa
