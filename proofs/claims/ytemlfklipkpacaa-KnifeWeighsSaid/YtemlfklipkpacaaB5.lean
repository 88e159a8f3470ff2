import Derived.Test.YtemlfklipkpacaaB2
import Derived.Test.YtemlfklipkpacaaB4
namespace Go.Proofs.Ytemlfklipkpacaa
open Go.RowKit
namespace Fl
/-- The code that is asked of Place. -/
def pcode (l : List (Int × Int)) (n1 d1 n2 d2 : Int) : Int :=
  if validate l ≠ 0 then validate l else if plc (len l) n1 d1 1000 && amt n2 d2 1000 then (if worth l (mkRat n1 d1.toNat) (len l : Rat) < mkRat n2 d2.toNat then 8 else 0) else 1
theorem pcode_bad {l : List (Int × Int)} {n1 d1 n2 d2 : Int} (h : validate l ≠ 0) : pcode l n1 d1 n2 d2 = validate l := if_pos h
theorem pcode_arg {l : List (Int × Int)} {n1 d1 n2 d2 : Int} (h : validate l = 0) (h2 : (plc (len l) n1 d1 1000 && amt n2 d2 1000) = false) : pcode l n1 d1 n2 d2 = 1 := by
  unfold pcode; rw [if_neg (by simp [h]), h2]; rfl
theorem pcode_ok {l : List (Int × Int)} {n1 d1 n2 d2 : Int} (h : validate l = 0) (h2 : plc (len l) n1 d1 1000 = true) (h3 : amt n2 d2 1000 = true) :
    pcode l n1 d1 n2 d2 = if worth l (mkRat n1 d1.toNat) (len l : Rat) < mkRat n2 d2.toNat then 8 else 0 := by
  unfold pcode; rw [if_neg (by simp [h]), h2, h3]; rfl
end Fl
/-- What a field is worth from a place on. -/
theorem rest_known {l : List (Int × Int)} (hok : Fl.Ok l) (h6 : l.length ≤ 6) {a : Rat} (h0 : 0 ≤ a) (h1 : a ≤ (Fl.len l : Rat)) (hd : (a.den : Int) ≤ 1000) :
    PlaceOk a (Fl.len l : Rat) ∧ 0 ≤ Fl.worth l a (Fl.len l : Rat) ∧ Fl.worth l a (Fl.len l : Rat) ≤ ((2400 : Nat) : Rat) ∧ (Fl.worth l a (Fl.len l : Rat)).den ≤ 1000 := by
  have hlb := Fl.len_bound hok
  have hl0 : (0 : Rat) ≤ (Fl.len l : Rat) := by exact_mod_cast (show (0 : Int) ≤ Fl.len l by omega)
  have hpo := placeOk_of h0 hl0 h1 Rat.le_refl (by omega) (by omega) (by omega) (by rw [Rat.den_intCast]; omega)
  obtain ⟨p1, -, -, p4, p5⟩ := (Fl.worth_adds hpo.d hok h6).2
  refine ⟨hpo, p1, Rat.le_trans p5 ?_, ?_⟩
  · have : ((20 * Fl.len l : Int) : Rat) ≤ ((2400 : Int) : Rat) := Rat.intCast_le_intCast.2 (by omega)
    exact this
  · have h : (Fl.worth l a (Fl.len l : Rat)).den ≤ a.den * (Fl.len l : Rat).den := p4
    rw [Rat.den_intCast, Nat.mul_one] at h
    omega

set_option maxRecDepth 100000 in
set_option maxHeartbeats 4000000 in
theorem Place_any (l : List (Int × Int)) (ao : Option Addr) (m cap : Nat) (n1 d1 n2 d2 : Int) (w : World) (hp : Pts w ao l) (hln : m = l.length) (hm : m ≤ 100000) (hn1 : n1 ≤ 9223372036854775807) (hn2 : n2 ≤ 9223372036854775807) :
    Calls Try.prog 27 #[.slice ao m cap, .agg #[.int .i64 n1, .int .i64 d1], .agg #[.int .i64 n2, .int .i64 d2]] w fun e w' => e = .returned (.tuple #[frOr (Fl.pcode l n1 d1 n2 d2) (Fl.place l (mkRat n1 d1.toNat) (mkRat n2 d2.toNat)), .int .i64 (Fl.pcode l n1 d1 n2 d2)]) ∧ Below w.heap.size w w' := by
  have Hn := Lib.hid hln
  clear hln
  obtain ⟨C, hC⟩ : ∃ c, Fl.pcode l n1 d1 n2 d2 = c := ⟨_, rfl⟩
  rw [hC]
  have HC := Lib.hid hC
  clear hC
  have hB := below_alloc3 w (.cells #[.int .i64 n1, .int .i64 d1] 29) (.cells #[.int .i64 n2, .int .i64 d2] 29) (.cells #[.int .i64 0, .int .i64 0] 29)
  have A2 := heap_alloc3_all w (.cells #[.int .i64 n1, .int .i64 d1] 29) (.cells #[.int .i64 n2, .int .i64 d2] 29) (.cells #[.int .i64 0, .int .i64 0] 29)
  replace hp := hp.below hB
  have HA := Lib.hid (And.intro hB A2)
  clear hB A2
  obtain ⟨v, hv⟩ : ∃ v, v = Fl.validate l := ⟨_, rfl⟩
  have hv0 : v = 0 ∨ (v != 0) = true := by by_cases h : v = 0 <;> simp [h]
  have Hv := Lib.hid hv
  clear hv
  obtain ⟨V, hV⟩ : ∃ x, x = Fl.place l (mkRat n1 d1.toNat) (mkRat n2 d2.toNat) := ⟨_, rfl⟩
  rw [← hV]
  have HV := Lib.hid hV
  clear hV
  go_enter Try.func27, Try.ntmps27
  go_wp2_with fail
  obtain ⟨hB, r4, r5, r6⟩ := HA.out
  clear HA
  refine (validate_any l _ _ _ _ hp Hn.out hm).mono ?_
  rintro e w1 ⟨rfl, hbb⟩
  replace hp := hp.below hbb
  replace r4 := heap_keep hbb r4
  replace r5 := heap_keep hbb r5
  replace r6 := heap_keep hbb r6
  replace hB := hB.trans (hbb.mono hB.size)
  clear hbb
  rw [← Hv.out]
  rcases hv0 with rfl | hv0
  · have hok := Fl.validate_ok.1 Hv.out.symm
    have hlb := Fl.len_bound hok.2
    have hl1 := hok.1.1
    have hl6 := hok.1.2
    obtain ⟨⟨c0, c1⟩, -, -⟩ := row_fr r4
    go_wp2_with fail
    refine (isPlace_any l _ _ _ n1 d1 1000 _ hp Hn.out hok.2 hl6 hn1 (by omega)).mono ?_
    rintro e w2 ⟨rfl, hbb⟩
    replace hp := hp.below hbb
    replace r4 := heap_keep hbb r4
    replace r5 := heap_keep hbb r5
    replace r6 := heap_keep hbb r6
    replace hB := hB.trans (hbb.mono hB.size)
    clear hbb
    clear c0 c1
    cases hp1 : Fl.plc (Fl.len l) n1 d1 1000 with
    | false =>
      have hc := Fl.pcode_arg (n1 := n1) (d1 := d1) (n2 := n2) (d2 := d2) Hv.out.symm (by rw [hp1]; rfl)
      rw [HC.out] at hc
      subst hc
      clear hp1
      obtain ⟨⟨c0, c1⟩, f0, f1⟩ := row_fr r6
      go_wp2
      rw [show frOr 1 V = .agg #[.int .i64 0, .int .i64 0] from rfl]
      exact bodyPost_ret (results_cell_tmp rfl _ _ _ _ _ _ _ rfl (two_cells r6 (.int .i64 0) (.int .i64 0)) Try.underlying29 rfl infoRat2) rfl ⟨rfl, below_setCell (below_setCell hB (by omega) _) (by omega) _⟩
    | true =>
      have Hp1 := Lib.hid hp1
      clear hp1
      obtain ⟨⟨c0, c1⟩, -, -⟩ := row_fr r5
      go_wp2_with fail
      refine (isAmount_any n2 d2 1000 _ hn2 (by omega)).mono ?_
      rintro e w3 ⟨rfl, hbb⟩
      replace hp := hp.below hbb
      replace r4 := heap_keep hbb r4
      replace r5 := heap_keep hbb r5
      replace r6 := heap_keep hbb r6
      replace hB := hB.trans (hbb.mono hB.size)
      clear hbb
      clear c0 c1
      cases hp2 : Fl.amt n2 d2 1000 with
      | false =>
        have hc := Fl.pcode_arg (n1 := n1) (d1 := d1) (n2 := n2) (d2 := d2) Hv.out.symm (by rw [hp2]; simp)
        rw [HC.out] at hc
        subst hc
        clear hp2
        obtain ⟨⟨c0, c1⟩, f0, f1⟩ := row_fr r6
        go_wp2
        rw [show frOr 1 V = .agg #[.int .i64 0, .int .i64 0] from rfl]
        exact bodyPost_ret (results_cell_tmp rfl _ _ _ _ _ _ _ rfl (two_cells r6 (.int .i64 0) (.int .i64 0)) Try.underlying29 rfl infoRat2) rfl ⟨rfl, below_setCell (below_setCell hB (by omega) _) (by omega) _⟩
      | true =>
        have hc := Fl.pcode_ok (n1 := n1) (d1 := d1) (n2 := n2) (d2 := d2) Hv.out.symm Hp1.out hp2
        obtain ⟨q1, hq1, a1, a2, a3, a4, a5⟩ := Fl.plc_rat Hp1.out
        obtain ⟨b1, b2, b3, b4, b5, b6⟩ := Fl.amt_rat hp2
        obtain ⟨q2, hq2⟩ : ∃ q, q = mkRat n2 d2.toNat := ⟨_, rfl⟩
        rw [← hq2] at b1 b2 b3 hc
        rw [← hq1, HC.out] at hc
        obtain ⟨hpo, k0, k1, k2⟩ := rest_known hok.2 hl6 a3 a4 a5
        have hkn := Fl.num_le k1
        have hkn0 := Fl.num_nonneg k0
        obtain ⟨W, hW⟩ : ∃ x, x = Fl.worth l q1 (Fl.len l : Rat) := ⟨_, rfl⟩
        rw [← hW] at hc k0 k1 k2 hkn hkn0
        have hcq : Hid ((q2.den : Int) * (W.den : Int) ≤ 4000000000000000000) :=
          Lib.hid (by have : q2.den * W.den ≤ 1000 * 1000 := Nat.mul_le_mul (by omega) k2; rw [← Int.natCast_mul]; omega)
        have HQ := Lib.hid (And.intro hq1 hq2)
        have HW := Lib.hid hW
        have HCC := Lib.hid hc
        have Hp2 := Lib.hid hp2
        clear hq1 hq2 hp2 hW hc
        subst a1 b1 a2 b2
        obtain ⟨⟨c0, c1⟩, -, -⟩ := row_fr r4
        obtain ⟨⟨c2, c3⟩, -, -⟩ := row_fr r5
        go_wp2_with fail
        have hp0 : Pts w3.drew ao l := ⟨hp.cells⟩
        go_region_held3 (fun w' => w'.cell? ⟨w.heap.size, 0, none⟩ = some (.int .i64 q1.num) ∧ w'.cell? ⟨w.heap.size, 1, none⟩ = some (.int .i64 q1.den) ∧ w'.cell? ⟨w.heap.size + 1, 0, none⟩ = some (.int .i64 q2.num) ∧ w'.cell? ⟨w.heap.size + 1, 1, none⟩ = some (.int .i64 q2.den))
          (first | exact ⟨c0, c1, c2, c3⟩ | exact ka | exact kb | exact kc | exact kd)
          (first
            | (go_at_call 65; refine (length_any l _ _ _ _ hp0 Hn.out hok.2 hl6).mono ?_; rintro e w4 ⟨rfl, hb1⟩; have ka := And.intro (keep_cell hb1 c0) (And.intro (keep_cell hb1 c1) (And.intro (keep_cell hb1 c2) (keep_cell hb1 c3))); have hp1 := hp0.below hb1)
            | (go_at_call 79; refine (whole_any _ _).mono ?_; rintro e w5 ⟨rfl, hb2⟩; have kb := And.intro (keep_cell hb2 ka.1) (And.intro (keep_cell hb2 ka.2.1) (And.intro (keep_cell hb2 ka.2.2.1) (keep_cell hb2 ka.2.2.2))); have hp2 := hp1.below hb2)
            | (go_at_call 74; refine (worth_any l q1 (Fl.len l : Rat) _ _ _ _ hp2 Hn.out hok.2 hl1 hl6 hpo).mono ?_; rintro e w6 ⟨rfl, hb3⟩; rw [← HW.out]; have kc := And.intro (keep_cell hb3 kb.1) (And.intro (keep_cell hb3 kb.2.1) (And.intro (keep_cell hb3 kb.2.2.1) (keep_cell hb3 kb.2.2.2))))
            | (go_at_call 78; refine (compare_any q2 W _ b4 hkn0 hn2 (by omega) hcq.out).mono ?_; rintro e w7 ⟨rfl, hb4⟩; have kd := And.intro (keep_cell hb4 kc.1) (And.intro (keep_cell hb4 kc.2.1) (And.intro (keep_cell hb4 kc.2.2.1) (keep_cell hb4 kc.2.2.2))); replace hB := (below_drewN hB 1).trans (hb1.mono (by have := hB.size; exact this)); replace hB := hB.trans (hb2.mono hB.size); replace hB := hB.trans (hb3.mono hB.size); replace hB := hB.trans (hb4.mono hB.size); replace r6 := heap_keep hb4 (heap_keep hb3 (heap_keep hb2 (heap_keep hb1 r6))); replace hp := ((hp2.below hb3).below hb4)))
        by_cases hlt : W < q2
        · have hc2 : Hid (C = 8) := Lib.hid (by rw [HCC.out, if_pos hlt])
          have hcm : 0 < Fl.cmpR q2 W := by unfold Fl.cmpR; grind
          clear c0 c1 c2 c3 ka kb kc kd hlt
          obtain ⟨⟨c0, c1⟩, f0, f1⟩ := row_fr r6
          go_wp2
          rw [hc2.out, show frOr 8 V = .agg #[.int .i64 0, .int .i64 0] from rfl]
          exact bodyPost_ret (results_cell_tmp rfl _ _ _ _ _ _ _ rfl (two_cells r6 (.int .i64 0) (.int .i64 0)) Try.underlying29 rfl infoRat2) rfl ⟨rfl, below_setCell (below_setCell hB (by omega) _) (by omega) _⟩
        · have hc2 : Hid (C = 0) := Lib.hid (by rw [HCC.out, if_neg hlt])
          have hcm : ¬ 0 < Fl.cmpR q2 W := by unfold Fl.cmpR; grind
          have hgo : Fl.GoOk q1 q2 := by
            have e1 : ((2400 : Nat) : Rat) = 2400 := rfl
            have hl1000 : (Fl.len l : Rat) ≤ ((1000 : Int) : Rat) := Rat.intCast_le_intCast.2 (by omega)
            have e2 : ((1000 : Int) : Rat) = 1000 := rfl
            have hdd : q1.den * q2.den ≤ 1000 * 1000 := Nat.mul_le_mul (by omega) (by omega)
            exact ⟨a3, by grind, b3, by grind, by omega⟩
          clear c0 c1 c2 c3 ka kb kc hlt
          obtain ⟨c0, c1, c2, c3⟩ := kd
          go_wp2_with fail
          refine (place_any l q1 q2 _ _ _ _ hp Hn.out hok.2 hl1 hl6 hgo).mono ?_
          rintro e w4 ⟨rfl, hbb⟩
          replace hp := hp.below hbb
          replace r6 := heap_keep hbb r6
          replace hB := hB.trans (hbb.mono hB.size)
          clear hbb
          clear c0 c1 c2 c3
          obtain ⟨⟨c0, c1⟩, f0, f1⟩ := row_fr r6
          have HV2 : Hid (V = Fl.place l q1 q2) := Lib.hid (by rw [HV.out, ← HQ.out.1, ← HQ.out.2])
          rw [← HV2.out]
          go_wp2
          rw [hc2.out, show frOr 0 V = Fr V from rfl]
          exact bodyPost_ret (results_cell_tmp rfl _ _ _ _ _ _ _ rfl (two_cells r6 (.int .i64 V.num) (.int .i64 V.den)) Try.underlying29 rfl infoRat2) rfl ⟨rfl, below_setCell (below_setCell hB (by omega) _) (by omega) _⟩
  · have hc := Fl.pcode_bad (l := l) (n1 := n1) (d1 := d1) (n2 := n2) (d2 := d2) (by rw [← Hv.out]; exact code_ne hv0)
    rw [HC.out, ← Hv.out] at hc
    subst hc
    obtain ⟨⟨c0, c1⟩, f0, f1⟩ := row_fr r6
    go_wp2
    rw [frOr_no hv0]
    exact bodyPost_ret (results_cell_tmp rfl _ _ _ _ _ _ _ rfl (two_cells r6 (.int .i64 0) (.int .i64 0)) Try.underlying29 rfl infoRat2) rfl ⟨rfl, below_setCell (below_setCell hB (by omega) _) (by omega) _⟩
end Go.Proofs.Ytemlfklipkpacaa

namespace Go.Proofs.Ytemlfklipkpacaa
open Go.RowKit

theorem over_low {a : Rat} {n : Int} {G e1 e2 : Nat} (hn : 0 < n) (hG : 0 < G) (k1 : a.num = ((e1 * G : Nat) : Int)) (k2 : n = ((e2 * G : Nat) : Int)) : mkRat (e1 : Int) (a.den * e2) = a / (n : Rat) := by
  rw [← div_q a n hn]
  have e : mkRat ((e1 : Int) * (G : Int)) ((a.den * e2) * G) = mkRat (e1 : Int) (a.den * e2) := Rat.mkRat_mul_right (by omega)
  rw [← e]
  congr 1
  · rw [k1]; push_cast; rfl
  · rw [k2, ← Int.natCast_mul, Int.toNat_natCast, Nat.mul_assoc]

set_option maxRecDepth 100000 in
set_option maxHeartbeats 2000000 in
theorem rover_any (a : Rat) (n : Int) (w : World) (h0 : 0 ≤ a.num) (h1 : a.num ≤ 4000000000000000000) (hn : 1 ≤ n) (hn2 : n ≤ 1000000) (hd : a.den ≤ 1000000000000) :
    Calls Try.prog 139 #[Fr a, .int .i64 n] w fun e w' => e = .returned (Fr (a / (n : Rat))) ∧ Below w.heap.size w w' := by
  obtain ⟨N, hN⟩ : ∃ x : Nat, (x : Int) = a.num := ⟨a.num.toNat, by omega⟩
  obtain ⟨M, rfl⟩ := Int.eq_ofNat_of_zero_le (show 0 ≤ n by omega)
  obtain ⟨D, hD⟩ : ∃ d, d = a.den := ⟨_, rfl⟩
  have dp := a.den_pos
  obtain ⟨G, hG⟩ : ∃ g, g = Nat.gcd N M := ⟨_, rfl⟩
  have hG0 : 0 < G := by rw [hG]; exact Nat.gcd_pos_of_pos_right _ (by omega)
  obtain ⟨e1, k1⟩ : ∃ e, N = e * G := by
    obtain ⟨e, he⟩ := Nat.gcd_dvd_left N M
    exact ⟨e, by rw [hG, Nat.mul_comm]; exact he⟩
  obtain ⟨e2, k2⟩ : ∃ e, M = e * G := by
    obtain ⟨e, he⟩ := Nat.gcd_dvd_right N M
    exact ⟨e, by rw [hG, Nat.mul_comm]; exact he⟩
  have hR := over_low (a := a) (n := (M : Int)) (by omega) hG0 (by rw [← hN, k1]) (by rw [← k2])
  obtain ⟨Q, hQ⟩ : ∃ q, q = a / ((M : Int) : Rat) := ⟨_, rfl⟩
  rw [← hQ, ← hD] at hR
  rw [← hQ]
  show Calls Try.prog 139 #[.agg #[.int .i64 a.num, .int .i64 a.den], .int .i64 (M : Int)] w _
  rw [← hN, ← hD]
  rw [← hD] at hd dp
  have hR := Lib.hid hR
  clear hQ
  have q1 : (N : Int) / (G : Int) = (e1 : Int) := by rw [k1]; push_cast; exact Int.mul_ediv_cancel _ (by omega)
  have q2 : (M : Int) / (G : Int) = (e2 : Int) := by rw [k2]; push_cast; exact Int.mul_ediv_cancel _ (by omega)
  have l1 : e1 ≤ N := by rw [k1]; exact Nat.le_mul_of_pos_right _ hG0
  have l2 : e2 ≤ M := by rw [k2]; exact Nat.le_mul_of_pos_right _ hG0
  have g1 : G ≤ M := by rw [hG]; exact Nat.gcd_le_right _ (by omega)
  have e2p : 0 < e2 := by rcases Nat.eq_zero_or_pos e2 with h | h; (· rw [h, Nat.zero_mul] at k2; omega); (· exact h)
  have hb1 : D * e2 ≤ 1000000000000 * 1000000 := Nat.mul_le_mul hd (by omega)
  have hbp : 0 < D * e2 := Nat.mul_pos dp e2p
  have Hg := Lib.hid hG
  have nb : (N : Int) ≤ 4000000000000000000 := by omega
  clear hD hN hG k1 k2
  have gz : ¬ G = 0 := by omega
  have gn : ((G : Int) == 0) = false := by simp; omega
  have t1 : (N : Int).tdiv (G : Int) = (e1 : Int) := by rw [Int.tdiv_eq_ediv_of_nonneg (by omega)]; exact q1
  have t2 : (M : Int).tdiv (G : Int) = (e2 : Int) := by rw [Int.tdiv_eq_ediv_of_nonneg (by omega)]; exact q2
  have x1 : IntKind.i64.wrap (e1 : Int) = (e1 : Int) := IntWalk.i64_in _ (by omega)
  have x2 : IntKind.i64.wrap (e2 : Int) = (e2 : Int) := IntWalk.i64_in _ (by omega)
  have x3 : IntKind.i64.wrap ((D : Int) * (e2 : Int)) = (D : Int) * (e2 : Int) := IntWalk.i64_in _ (by rw [← Int.natCast_mul]; omega)
  have hB := below_alloc2 w (.cells #[.int .i64 N, .int .i64 D] 29) (.cells #[.int .i64 0, .int .i64 0] 29)
  have r3 := heap_alloc2_old w (.cells #[.int .i64 N, .int .i64 D] 29) (.cells #[.int .i64 0, .int .i64 0] 29)
  have r4 := heap_alloc2_new w (.cells #[.int .i64 N, .int .i64 D] 29) (.cells #[.int .i64 0, .int .i64 0] 29)
  have HA := Lib.hid (And.intro hB (And.intro r3 r4))
  clear hB r3 r4
  go_enter Try.func139, Try.ntmps139
  go_wp2_with fail
  refine (rgcd_any (N : Int) (M : Int) _ (by omega) (by omega) (by omega) (by omega)).mono ?_
  rintro e w' ⟨rfl, rfl⟩
  rw [Int.natAbs_natCast, Int.natAbs_natCast, ← Hg.out]
  go_wp2_with fail
  obtain ⟨hB, r3, r4⟩ := HA.out
  generalize ((w.alloc (.cells #[.int .i64 N, .int .i64 D] 29)).alloc (.cells #[.int .i64 0, .int .i64 0] 29)) = wx at hB r3 r4 ⊢
  obtain ⟨⟨c0, c1⟩, -, -⟩ := row_fr r3
  clear HA r3
  go_still_tail 10, (by kernel_rfl)
  change wpList _ _ _ _ _ wx.drew
  replace hB : Below w.heap.size w wx.drew := below_drewN hB 1
  have hcast : ((D : Int) * (e2 : Int)) = ((D * e2 : Nat) : Int) := (Int.natCast_mul _ _).symm
  replace r4 : wx.drew.heap[w.heap.size + 1]? = some (.cells #[.int .i64 0, .int .i64 0] 29 (0, 0)) := r4
  generalize wx.drew = wd at hB r4 ⊢
  clear t1 t2 x1 x2 x3 q1 q2 gn gz
  rw [hcast]
  clear hcast c0 c1
  obtain ⟨DD, hDD⟩ : ∃ x, x = D * e2 := ⟨_, rfl⟩
  rw [← hDD] at hR ⊢
  rw [← hDD] at hb1 hbp
  clear hDD
  go_wp2_with fail
  refine (ratio_any (e1 : Int) DD _ hbp (by omega) (by omega) (by omega)).mono ?_
  rintro e w1 ⟨rfl, hbb⟩
  replace r4 := heap_keep hbb r4
  replace hB := hB.trans (hbb.mono hB.size)
  clear hbb
  rw [hR.out]
  obtain ⟨⟨d0, d1⟩, f0, f1⟩ := row_fr r4
  go_wp2
  exact bodyPost_ret (results_cell_row rfl _ _ _ _ _ _ _ rfl (two_cells r4 (.int .i64 Q.num) (.int .i64 Q.den)) Try.underlying29 rfl infoRat2) rfl ⟨rfl, below_setCell (below_setCell hB (by omega) _) (by omega) _⟩

/-- What is asked of a worth that is to be reached. -/
structure WantU (w : Rat) : Prop where
  w0 : 0 ≤ w
  w1 : w ≤ ((4000 : Nat) : Rat)
  d : w.den ≤ 1000
namespace Fl
/-- What Reach answers. -/
def reachR (u : List Int) (a w : Rat) : Option Rat := if w.num ≤ 0 then some a else reachF 0 0 u (before u a + w)
end Fl
/-- A place, or the zero value. -/
def optFr : Option Rat → Value
  | some q => Fr q
  | none => .agg #[.int .i64 0, .int .i64 0]
theorem optFr_some (q : Rat) : optFr (some q) = Fr q := rfl

/-- What is known of the place that is wanted. -/
structure WantK (T : Rat) : Prop where
  t0 : 0 ≤ T
  t1 : T ≤ ((6820 : Nat) : Rat)
  d : T.den ≤ 1000000
theorem want_known {u : List Int} {a w : Rat} (hu : UnitsOk u) (ha : PlaceU u.length a) (ha2 : a.den ≤ 1000) (hw : WantU w) : WantK (Fl.before u a + w) ∧ SumQ (Fl.before u a) w := by
  obtain ⟨b0, b1, b2⟩ := before_bound hu ha
  have hd : (Fl.before u a).den * w.den ≤ 1000 * 1000 := Nat.mul_le_mul (by omega) hw.d
  have w0 := hw.w0
  have w1 := hw.w1
  have e1 : ((6820 : Nat) : Rat) = 6820 := rfl
  have e2 : ((2820 : Nat) : Rat) = 2820 := rfl
  have e3 : ((4000 : Nat) : Rat) = 4000 := rfl
  refine ⟨⟨by grind, by grind, Nat.le_trans (Fl.den_add_le _ _) (by omega)⟩, sumQ_of b0 w0 2820 4000 b1 w1 1000000 (by omega) (by omega) (by omega) (by omega)⟩
theorem less_want {s : Int} {T : Rat} (hs : 0 ≤ s) (hs2 : s ≤ 10000) (hT : WantK T) : SumQ (s : Rat) T := by
  have s0 : (0 : Rat) ≤ (s : Rat) := by exact_mod_cast hs
  have s1 : (s : Rat) ≤ ((10000 : Nat) : Rat) := by
    have : (s : Rat) ≤ ((10000 : Int) : Rat) := Rat.intCast_le_intCast.2 hs2
    exact this
  exact sumQ_of s0 hT.t0 10000 6820 s1 hT.t1 1000000 (by rw [Rat.den_intCast, Nat.one_mul]; exact hT.d) (by omega) (by omega) (by omega)
theorem sub_want {s : Int} {T : Rat} (hs : 0 ≤ s) (hs2 : s ≤ 10000) (hT : WantK T) : SumQ T (s : Rat) := by
  have h := less_want hs hs2 hT
  exact ⟨h.p2, h.p1, h.b1, h.b2, h.a1, h.a2, by rw [Nat.mul_comm]; exact h.c⟩
theorem found {s i v : Int} {T : Rat} (hs : 0 ≤ s) (_ : s ≤ 10000) (hT : WantK T) (hi : 0 ≤ i) (hi2 : i ≤ 1000) (hlt : (s : Rat) < T) (hle : T ≤ ((s + v : Int) : Rat)) (hv2 : v ≤ 20) :
    1 ≤ v ∧ 0 ≤ (T - (s : Rat)).num ∧ (T - (s : Rat)).num ≤ 4000000000000000000 ∧ (T - (s : Rat)).den ≤ 1000000000000 ∧ SumQ (i : Rat) ((T - (s : Rat)) / (v : Rat)) := by
  have hv : 1 ≤ v := by
    have h : (s : Rat) < ((s + v : Int) : Rat) := by grind
    have := Rat.intCast_lt_intCast.1 h
    omega
  have e : ((s + v : Int) : Rat) = (s : Rat) + (v : Rat) := Rat.intCast_add s v
  have hd : (T - (s : Rat)).den ≤ 1000000 := by
    have := Fl.den_sub_le T (s : Rat)
    rw [Rat.den_intCast, Nat.mul_one] at this
    have := hT.d
    omega
  have s0 : (0 : Rat) ≤ (s : Rat) := by exact_mod_cast hs
  have t1 := hT.t1
  have x1 : T - (s : Rat) ≤ ((6820 : Nat) : Rat) := by
    have e1 : ((6820 : Nat) : Rat) = 6820 := rfl
    grind
  have n0 : 0 ≤ (T - (s : Rat)).num := Fl.num_nonneg (by grind)
  have n1 := Fl.num_le x1
  have vr : (0 : Rat) < (v : Rat) := by exact_mod_cast (show (0 : Int) < v by omega)
  have q0 : 0 ≤ (T - (s : Rat)) / (v : Rat) := by
    rw [Rat.div_def]
    exact Rat.mul_nonneg (by grind) (Rat.le_of_lt (Rat.inv_pos.2 vr))
  have q1 : (T - (s : Rat)) / (v : Rat) ≤ ((1 : Nat) : Rat) := by
    have h1 : (T - (s : Rat)) / (v : Rat) * (v : Rat) = T - (s : Rat) := Rat.div_mul_cancel (by grind)
    have e1 : ((1 : Nat) : Rat) = 1 := rfl
    rw [e1]
    refine Rat.not_lt.1 fun hgt => ?_
    have := Rat.mul_lt_mul_of_pos_right hgt vr
    grind
  have qd : ((T - (s : Rat)) / (v : Rat)).den ≤ 20000000 := by
    rw [← div_q _ v (by omega)]
    have hp : 0 < ((T - (s : Rat)).den : Int) * v := Int.mul_pos (by have := (T - (s : Rat)).den_pos; omega) (by omega)
    have h2 : ((T - (s : Rat)).den : Int) * v ≤ 1000000 * 20 := Int.mul_le_mul (by omega) hv2 (by omega) (by omega)
    have := mk_den_le (n := (T - (s : Rat)).num) (d := (((T - (s : Rat)).den : Int) * v).toNat) (by omega)
    omega
  have i0 : (0 : Rat) ≤ (i : Rat) := by exact_mod_cast hi
  have i1 : (i : Rat) ≤ ((1000 : Nat) : Rat) := by
    have : (i : Rat) ≤ ((1000 : Int) : Rat) := Rat.intCast_le_intCast.2 hi2
    exact this
  exact ⟨hv, n0, by omega, by omega, sumQ_of i0 q0 1000 1 i1 q1 20000000 (by rw [Rat.den_intCast, Nat.one_mul]; exact qd) (by omega) (by omega) (by omega)⟩
end Go.Proofs.Ytemlfklipkpacaa

namespace Go.Proofs.Ytemlfklipkpacaa
open Go.RowKit

theorem reachF_drop {u : List Int} {T : Rat} {k : Nat} (hk : k < u.length) (h : ¬ T ≤ ((Fl.sumI (u.take k) + u.getD k 0 : Int) : Rat)) :
    Fl.reachF (Fl.sumI (u.take k)) k (u.drop k) T = Fl.reachF (Fl.sumI (u.take (k + 1))) ((k + 1 : Nat) : Int) (u.drop (k + 1)) T := by
  rw [List.drop_eq_getElem_cons hk, Fl.sumI_take hk]
  rw [List.getD_eq_getElem?_getD, List.getElem?_eq_getElem hk] at h ⊢
  simp only [Option.getD_some] at h ⊢
  simp only [Fl.reachF]
  rw [if_neg h]
  rfl
theorem reachF_here {u : List Int} {T : Rat} {k : Nat} (hk : k < u.length) (h : T ≤ ((Fl.sumI (u.take k) + u.getD k 0 : Int) : Rat)) :
    Fl.reachF (Fl.sumI (u.take k)) k (u.drop k) T = some (((k : Int) : Rat) + (T - (Fl.sumI (u.take k) : Rat)) / ((u.getD k 0 : Int) : Rat)) := by
  rw [List.drop_eq_getElem_cons hk]
  rw [List.getD_eq_getElem?_getD, List.getElem?_eq_getElem hk] at h ⊢
  simp only [Option.getD_some] at h ⊢
  simp only [Fl.reachF]
  rw [if_pos h]

theorem heap_two_other {w : World} {g k : Nat} {o : Obj} (u v : Value) (hne : k ≠ g) (h : w.heap[k]? = some o) : ((w.setCell ⟨g, 0, none⟩ u).setCell ⟨g, 1, none⟩ v).heap[k]? = some o := by
  rw [heap_setCell_other _ _ _ _ (by show k ≠ g; exact hne), heap_setCell_other _ _ _ _ (by show k ≠ g; exact hne)]
  exact h

set_option maxRecDepth 100000 in
set_option maxHeartbeats 8000000 in
theorem rreach_any (u : List Int) (a wt : Rat) (ao : Option Addr) (cap : Nat) (w : World) (hI : Ints w ao u) (hu : UnitsOk u) (ha : PlaceU u.length a) (ha2 : a.den ≤ 1000) (hw : WantU wt) :
    Calls Try.prog 82 #[.slice ao u.length cap, Fr a, Fr wt] w fun e w' => e = .returned (.tuple #[optFr (Fl.reachR u a wt), .bool (Fl.reachR u a wt).isSome]) ∧ Below w.heap.size w w' := by
  obtain ⟨hK, hS⟩ := want_known hu ha ha2 hw
  obtain ⟨R, hR⟩ : ∃ r, Fl.reachR u a wt = r := ⟨_, rfl⟩
  rw [hR]
  unfold Fl.reachR at hR
  have hB := below_alloc3 w (.cells #[.int .i64 a.num, .int .i64 a.den] 29) (.cells #[.int .i64 wt.num, .int .i64 wt.den] 29) (.cells #[.int .i64 0, .int .i64 0] 29)
  have A2 := heap_alloc3_all w (.cells #[.int .i64 a.num, .int .i64 a.den] 29) (.cells #[.int .i64 wt.num, .int .i64 wt.den] 29) (.cells #[.int .i64 0, .int .i64 0] 29)
  have HI0 := Lib.hid hI
  replace hI := hI.below hB
  have HA := Lib.hid (And.intro hB A2)
  clear hB A2
  by_cases hpos : wt.num ≤ 0
  · rw [if_pos hpos] at hR
    subst hR
    go_enter Try.func82, Try.ntmps82
    go_wp2_with fail
    exact bodyPost_ret (results_cell_tmp rfl _ _ _ _ _ _ _ rfl (heap_alloc3_all w _ _ _).2.2 Try.underlying29 rfl infoRat2) rfl ⟨rfl, below_alloc3 w _ _ _⟩
  · rw [if_neg hpos] at hR
    have hT0 : Hid (0 < Fl.before u a + wt ∧ (((0 : Int) : Rat)) < Fl.before u a + wt) := Lib.hid (by
      obtain ⟨b0, -, -⟩ := before_bound hu ha
      have h1 : 0 < wt := by
        have h2 : ¬ wt ≤ 0 := fun h => by
          have := (Rat.le_iff wt 0).mp h
          simp at this
          omega
        grind
      have e0 : ((0 : Int) : Rat) = 0 := rfl
      exact ⟨by grind, by rw [e0]; grind⟩)
    obtain ⟨T, hT⟩ : ∃ t, Fl.before u a + wt = t := ⟨_, rfl⟩
    rw [hT] at hR hK hT0
    have HT := Lib.hid hT
    have HR := Lib.hid hR
    have HU := Lib.hid hu
    have hul := hu.l
    clear hT hR hu
    go_enter Try.func82, Try.ntmps82
    go_wp2_with fail
    obtain ⟨hB, r4, r5, r6⟩ := HA.out
    clear HA
    generalize (((w.alloc (.cells #[.int .i64 a.num, .int .i64 a.den] 29)).alloc (.cells #[.int .i64 wt.num, .int .i64 wt.den] 29)).alloc (.cells #[.int .i64 0, .int .i64 0] 29)) = wx at hB r4 r5 r6 hI ⊢
    have hI1 : Ints wx.drew ao u := ⟨hI.cells⟩
    have hI2 : Ints (wx.alloc (.cells #[.int .i64 0, .int .i64 0] 29)).drew ao u := ⟨(hI.below ((Below.refl _ wx).alloc (Nat.le_refl _) (.cells #[.int .i64 0, .int .i64 0] 29))).cells⟩
    obtain ⟨⟨a0, a1⟩, -, -⟩ := row_fr r4
    obtain ⟨⟨b0, b1⟩, -, -⟩ := row_fr r5
    have hlx := heap_lt r6
    go_upto_region 4 with fail
    go_cut [8] from 11 (fun p8 wc => ∃ g : Nat, p8 = .pointer (some ⟨g, 0, none⟩) ∧ w.heap.size + 2 < g ∧ wc.heap[g]? = some (.cells #[.int .i64 T.num, .int .i64 T.den] 29 (0, 0)) ∧ wc.heap[w.heap.size + 1 + 1]? = some (.cells #[.int .i64 0, .int .i64 0] 29 (0, 0)) ∧ Below w.heap.size w wc)
    case first =>
      go_region_held3 (fun w' => w'.cell? ⟨w.heap.size, 0, none⟩ = some (.int .i64 a.num) ∧ w'.cell? ⟨w.heap.size, 1, none⟩ = some (.int .i64 a.den) ∧ w'.cell? ⟨w.heap.size + 1, 0, none⟩ = some (.int .i64 wt.num) ∧ w'.cell? ⟨w.heap.size + 1, 1, none⟩ = some (.int .i64 wt.den))
        (first | exact ⟨a0, a1, b0, b1⟩ | exact ka | exact kb | exact ⟨cell_two_other _ _ (by omega) kb.1, cell_two_other _ _ (by omega) kb.2.1, cell_two_other _ _ (by omega) kb.2.2.1, cell_two_other _ _ (by omega) kb.2.2.2⟩ | go_keep)
        (first
          | (go_at_call 103; (first | ((with_reducible refine (rbefore_any u a ao cap _ hI1 HU.out ha).mono ?_); rintro e w1 ⟨rfl, hb1⟩; have hk1 : Below wx.heap.size wx w1 := (below_drewN (Below.refl _ wx) 1).trans hb1) | ((with_reducible refine (rbefore_any u a ao cap _ hI2 HU.out ha).mono ?_); rintro e w1 ⟨rfl, hb1⟩; have hk1 : Below wx.heap.size wx w1 := (below_drewN ((Below.refl _ wx).alloc (Nat.le_refl _) _) 1).trans (hb1.mono (by simp)); have rg := heap_keep hb1 (heap_alloc_new wx (.cells #[.int .i64 0, .int .i64 0] 29)))); have hl1 : wx.heap.size ≤ w1.heap.size := hk1.size; have ka := And.intro (keep_cell hk1 a0) (And.intro (keep_cell hk1 a1) (And.intro (keep_cell hk1 b0) (keep_cell hk1 b1))))
          | (go_at_call 39; refine (radd_q _ _ _ hS).mono ?_; rintro e w2 ⟨rfl, hb2⟩; have hkk : Below w1.heap.size w1 w2 := (by first | exact hb2 | exact ((Below.refl _ w1).alloc (Nat.le_refl _) _).trans (hb2.mono (by simp))); have kb := And.intro (keep_cell hkk ka.1) (And.intro (keep_cell hkk ka.2.1) (And.intro (keep_cell hkk ka.2.2.1) (keep_cell hkk ka.2.2.2))); (first | (have rg2 := heap_keep hb2 rg; obtain ⟨⟨d0, d1⟩, f0, f1⟩ := row_fr rg2) | (have rg := heap_keep hb2 (heap_alloc_new w1 (.cells #[.int .i64 0, .int .i64 0] 29)); obtain ⟨⟨d0, d1⟩, f0, f1⟩ := row_fr rg) | skip); rw [HT.out]))
      all_goals go_wp2_with fail
      all_goals go_meet
      all_goals
        have hBB : Below w.heap.size w w2 := (hB.trans (hk1.mono hB.size)).trans (hkk.mono (hB.trans (hk1.mono hB.size)).size)
        have r66 := heap_keep hkk (heap_keep hk1 r6)
        have hl2 := hkk.size
        first
          | exact ⟨_, rfl, by omega, two_cells rg2 _ _, heap_two_other _ _ (by omega) r66, below_setCell (below_setCell hBB (by omega) _) (by omega) _⟩
          | exact ⟨_, rfl, by omega, two_cells rg _ _, heap_two_other _ _ (by omega) r66, below_setCell (below_setCell hBB (by omega) _) (by omega) _⟩
          | exact ⟨_, rfl, by omega, heap_alloc_new w2 _, (heap_alloc_old _ _ (by omega)).trans r66, hBB.alloc (by omega) _⟩
    case rest =>
      obtain ⟨g, rfl, hg, rT, r6, hB⟩ := hcut
      clear hlx r4 r5 a0 a1 b0 b1 hI1 hI2 hI hS
      go_wp2
      go_loopw [9, 10] (fun sv i wr => ∃ k : Nat, k ≤ u.length ∧ i = .int .i64 k ∧ sv = .int .i64 (Fl.sumI (u.take k)) ∧ Hid (Fl.reachF (Fl.sumI (u.take k)) k (u.drop k) T = R ∧ ((Fl.sumI (u.take k) : Int) : Rat) < T) ∧ wr.heap[g]? = some (.cells #[.int .i64 T.num, .int .i64 T.den] 29 (0, 0)) ∧ wr.heap[w.heap.size + 1 + 1]? = some (.cells #[.int .i64 0, .int .i64 0] 29 (0, 0)) ∧ Below w.heap.size w wr) (fun _ i _ => u.length - (intOf i).toNat)
      case atStart => exact ⟨0, Nat.zero_le _, rfl, rfl, Lib.hid ⟨HR.out, hT0.out.2⟩, rT, r6, hB⟩
      case round =>
        clear rT r6 hB
        obtain ⟨k, hk, rfl, rfl, hst, rT, r6, hB⟩ := hrel
        have h1 := HU.out.s k
        have h2 := HU.out.v k
        by_cases hlt : k < u.length
        · obtain ⟨b, off, rfl, hbs, hc⟩ := HI0.out.at hlt
          replace hc := keep_cell hB hc
          have hdrop := reachF_drop (T := T) hlt
          have hhere := reachF_here (T := T) hlt
          have hstep := Fl.sumI_take hlt
          obtain ⟨y, hy⟩ : ∃ x, x = u.getD k 0 := ⟨_, rfl⟩
          obtain ⟨s, hs⟩ : ∃ x, x = Fl.sumI (u.take k) := ⟨_, rfl⟩
          rw [← hs, ← hy] at hdrop hhere
          rw [← hs] at h1 hst hstep ⊢
          rw [← hy] at hc h2 hstep
          obtain ⟨z, hz⟩ : ∃ z, z = s + y := ⟨_, rfl⟩
          rw [← hz] at hdrop hhere hstep
          have hz2 : s ≤ z ∧ z ≤ s + 20 := by omega
          have Hz := Lib.hid hz
          have Hstep := Lib.hid hstep
          have Hdrop := Lib.hid hdrop
          have Hhere := Lib.hid hhere
          clear hy hs hstep hdrop hhere
          have hLess : SumQ (z : Rat) T := less_want (by omega) (by omega) hK
          have i1 : (k : Int) < (u.length : Int) := by omega
          have x1 : IntKind.i64.wrap (s + y) = s + y := IntWalk.i64_in _ (by omega)
          clear hz
          obtain ⟨⟨t0, t1⟩, -, -⟩ := row_fr rT
          have hwr : g < wr.heap.size := heap_lt rT
          go_wp2_with fail
          go_region_held3 (fun w' => w'.cell? ⟨b, off + k, none⟩ = some (.int .i64 y) ∧ w'.cell? ⟨g, 0, none⟩ = some (.int .i64 T.num) ∧ w'.cell? ⟨g, 1, none⟩ = some (.int .i64 T.den))
            (first | exact ⟨hc, t0, t1⟩ | exact ka | exact kb)
            (first
              | (go_at_call 40; rw [← Hz.out]; refine (rwhole_any z _).mono ?_; rintro e w1 ⟨rfl, hb1⟩; have ka := And.intro (keep_cell hb1 hc) (And.intro (keep_cell hb1 t0) (keep_cell hb1 t1)))
              | (go_at_call 36; refine (rless_q _ _ _ hLess).mono ?_; rintro e w2 ⟨rfl, hb2⟩; have kb := And.intro (keep_cell hb2 ka.1) (And.intro (keep_cell hb2 ka.2.1) (keep_cell hb2 ka.2.2)); replace hB := (below_drewN hB 1).trans (hb1.mono (by have := hB.size; exact this)); replace hB := hB.trans (hb2.mono hB.size); replace rT := heap_keep hb2 (heap_keep hb1 rT); replace r6 := heap_keep hb2 (heap_keep hb1 r6)))
          clear hc t0 t1 ka hb1 hb2
          obtain ⟨hc, t0, t1⟩ := kb
          obtain ⟨bv, hbv⟩ : ∃ v, decide ((z : Rat) < T) = v := ⟨_, rfl⟩
          rw [hbv]
          cases bv with
          | true =>
            have hnle : ¬ T ≤ (z : Rat) := by have := of_decide_eq_true hbv; grind
            have hnew : Hid (Fl.reachF (Fl.sumI (u.take (k + 1))) ((k + 1 : Nat) : Int) (u.drop (k + 1)) T = R ∧ ((Fl.sumI (u.take (k + 1)) : Int) : Rat) < T) := Lib.hid ⟨(Hdrop.out hnle).symm.trans hst.out.1, by rw [Hstep.out]; exact of_decide_eq_true hbv⟩
            clear hbv hnle
            go_wp2
            go_roundw
            case rel => exact ⟨k + 1, by omega, by go_num, by rw [Hstep.out, Hz.out], hnew, rT, r6, hB⟩
            case measure => simp [intOf]; omega
          | false =>
            have hle : T ≤ (z : Rat) := by have := of_decide_eq_false hbv; grind
            obtain ⟨f1, f2, f3, f4, f5⟩ := found (i := (k : Int)) (by omega) (by omega) hK (by omega) (by omega) hst.out.2 (by rw [← Hz.out]; exact hle) h2.2
            have hR1 : Hid (some (((k : Int) : Rat) + (T - (s : Rat)) / (y : Rat)) = R) := Lib.hid ((Hhere.out hle).symm.trans hst.out.1)
            obtain ⟨V, hV⟩ : ∃ v, v = ((k : Int) : Rat) + (T - (s : Rat)) / (y : Rat) := ⟨_, rfl⟩
            rw [← hV] at hR1
            have HV := Lib.hid hV
            have hSub := sub_want (s := s) (by omega) (by omega) hK
            clear hbv hle hV
            go_wp2_with fail
            have hbg : b ≠ w.heap.size + 1 + 1 := by omega
            go_region_held3 (fun w' => w'.cell? ⟨b, off + k, none⟩ = some (.int .i64 y) ∧ w'.cell? ⟨g, 0, none⟩ = some (.int .i64 T.num) ∧ w'.cell? ⟨g, 1, none⟩ = some (.int .i64 T.den))
              (first | exact ⟨hc, t0, t1⟩ | exact ⟨cell_two_other _ _ hbg ke.1, cell_two_other _ _ (by omega) ke.2.1, cell_two_other _ _ (by omega) ke.2.2⟩ | exact ka | exact kb | exact kc | exact kd | exact ke)
              (first
                | (go_at_call_of 40 (s); refine (rwhole_any s _).mono ?_; rintro e w4 ⟨rfl, hb4⟩; have kb := And.intro (keep_cell hb4 ka.1) (And.intro (keep_cell hb4 ka.2.1) (keep_cell hb4 ka.2.2)))
                | (go_at_call 40; refine (rwhole_any (k : Int) _).mono ?_; rintro e w3 ⟨rfl, hb3⟩; have ka := And.intro (keep_cell hb3 hc) (And.intro (keep_cell hb3 t0) (keep_cell hb3 t1)))
                | (go_at_call 88; refine (rsub_q _ _ _ hSub).mono ?_; rintro e w5 ⟨rfl, hb5⟩; have kc := And.intro (keep_cell hb5 kb.1) (And.intro (keep_cell hb5 kb.2.1) (keep_cell hb5 kb.2.2)))
                | (go_at_call 139; refine (rover_any _ y _ f2 f3 f1 (by omega) f4).mono ?_; rintro e w6 ⟨rfl, hb6⟩; have kd := And.intro (keep_cell hb6 kc.1) (And.intro (keep_cell hb6 kc.2.1) (keep_cell hb6 kc.2.2)))
                | (go_at_call 39; refine (radd_q _ _ _ f5).mono ?_; rintro e w7 ⟨rfl, hb7⟩; have ke := And.intro (keep_cell hb7 kd.1) (And.intro (keep_cell hb7 kd.2.1) (keep_cell hb7 kd.2.2)); replace hB := (below_drewN hB 1).trans (hb3.mono (by have := hB.size; exact this)); replace hB := hB.trans (hb4.mono hB.size); replace hB := hB.trans (hb5.mono hB.size); replace hB := hB.trans (hb6.mono hB.size); replace hB := hB.trans (hb7.mono hB.size); replace r6 := heap_keep hb7 (heap_keep hb6 (heap_keep hb5 (heap_keep hb4 (heap_keep hb3 r6)))); obtain ⟨⟨d0, d1⟩, e0, e1⟩ := row_fr r6; rw [← HV.out]))
            go_wp2
            rw [← hR1.out]
            exact bodyPost_ret (results_cell_tmp rfl _ _ _ _ _ _ _ rfl (two_cells r6 (.int .i64 V.num) (.int .i64 V.den)) Try.underlying29 rfl infoRat2) rfl ⟨rfl, below_setCell (below_setCell hB (by omega) _) (by omega) _⟩
        · have hke : k = u.length := by omega
          have hRn : Hid (none = R) := Lib.hid (by
            have := hst.out.1
            rw [hke, List.drop_length] at this
            exact this)
          clear hke
          obtain ⟨⟨d0, d1⟩, e0, e1⟩ := row_fr r6
          go_wp2
          rw [← hRn.out]
          exact bodyPost_ret (results_cell_tmp rfl _ _ _ _ _ _ _ rfl (two_cells r6 (.int .i64 0) (.int .i64 0)) Try.underlying29 rfl infoRat2) rfl ⟨rfl, below_setCell (below_setCell hB (by omega) _) (by omega) _⟩
end Go.Proofs.Ytemlfklipkpacaa

namespace Go.Proofs.Ytemlfklipkpacaa
open Go.RowKit

theorem asked_one {l : List (Int × Int)} {n1 d1 : Int} : Fl.askedC l [(n1, d1)] = if Fl.validate l ≠ 0 then Fl.validate l else if Fl.plc (Fl.len l) n1 d1 1000 = true then 0 else 1 := by
  unfold Fl.askedC; simp
theorem pts_one {w : World} {g : Nat} {n1 d1 : Int} {t : TypeId} (h : w.heap[g]? = some (.cells #[.int .i64 n1, .int .i64 d1] t (0, 0))) : Pts w (some ⟨g, 0, none⟩) [(n1, d1)] := by
  have hc := fun j => cell_of_row w g j _ _ _ h
  refine ⟨fun _ => ⟨_, 0, rfl, heap_lt h, fun i hi => ?_⟩⟩
  match i, hi with
  | 0, _ => exact ⟨hc 0, hc 1⟩
theorem reachR_eq {l : List (Int × Int)} (hok : Fl.Ok l) {a w : Rat} (h0 : 0 ≤ a) (h1 : a ≤ (Fl.len l : Rat)) (hw : 0 ≤ w) :
    Fl.reachR (Fl.units l) a w = if Fl.worth l a (Fl.len l : Rat) < w then none else some (Fl.place l a w) := by
  unfold Fl.reachR
  have hW : 0 ≤ Fl.worth l a (Fl.len l : Rat) := by
    rw [Fl.worth_rest hok h0 h1, Fl.before_cum hok h0]
    have := (Fl.cum_bound hok h0).2
    grind
  by_cases hz : w = 0
  · subst hz
    rw [if_pos (by decide), if_neg (by grind)]
    unfold Fl.place
    rw [if_pos rfl]
  · have hpos : 0 < w := by grind
    have hn : ¬ w.num ≤ 0 := by
      intro h
      have h2 := Fl.num_nonneg hw
      have h3 : w.num = 0 := by omega
      exact hz (Rat.num_eq_zero.1 h3)
    rw [if_neg hn, Fl.reach_eq hok h0 h1 hpos]
    by_cases hle : w ≤ Fl.worth l a (Fl.len l : Rat)
    · rw [if_pos hle, if_neg (by grind)]
    · rw [if_neg hle, if_pos (by grind)]
theorem optFr_pair (o : Option Rat) : ∃ x y : Int, optFr o = .agg #[.int .i64 x, .int .i64 y] := by
  cases o with
  | none => exact ⟨_, _, rfl⟩
  | some q => exact ⟨_, _, rfl⟩
/-- The whole part of a fraction against a whole number. -/
theorem quo_small {n d T : Int} (_ : 0 ≤ n) (hd : 1 ≤ d) (h : ¬ T < n / d) : mkRat n d.toNat ≤ ((T + 1 : Int) : Rat) := by
  have e : ((d.toNat : Nat) : Rat) = (d : Rat) := by rw [← Rat.intCast_natCast, Int.toNat_of_nonneg (by omega)]
  have hp : (0 : Rat) < (d : Rat) := by exact_mod_cast (show (0 : Int) < d by omega)
  have h1 := Int.mul_ediv_add_emod n d
  have h2 := Int.emod_lt_of_pos n (show 0 < d by omega)
  have h3 : d * (n / d) ≤ d * T := Int.mul_le_mul_of_nonneg_left (by omega) (by omega)
  have h4 : n ≤ (T + 1) * d := by rw [Int.add_mul, Int.mul_comm T d]; omega
  rw [Rat.mkRat_eq_div, e]
  refine Rat.not_lt.1 fun hgt => ?_
  have h5 := Rat.mul_lt_mul_of_pos_right hgt hp
  rw [Rat.div_mul_cancel (by grind)] at h5
  have h6 : (n : Rat) ≤ (((T + 1) * d : Int) : Rat) := Rat.intCast_le_intCast.2 h4
  rw [Rat.intCast_mul] at h6
  grind
theorem quo_big {n d T : Int} (hd : 1 ≤ d) (h : T < n / d) : (T : Rat) < mkRat n d.toNat := by
  have := quo_gt (n := n) (L := T) hd (by omega)
  grind

set_option maxRecDepth 100000 in
set_option maxHeartbeats 8000000 in
theorem rPlace_any (l : List (Int × Int)) (ao : Option Addr) (m cap : Nat) (n1 d1 n2 d2 : Int) (w : World) (hp : Pts w ao l) (hln : m = l.length) (hm : m ≤ 100000) (hn1 : Rng n1) (hn2 : Rng n2) :
    Calls Try.prog 28 #[.slice ao m cap, .agg #[.int .i64 n1, .int .i64 d1], .agg #[.int .i64 n2, .int .i64 d2]] w fun e w' => e = .returned (.tuple #[frOr (Fl.pcode l n1 d1 n2 d2) (Fl.place l (mkRat n1 d1.toNat) (mkRat n2 d2.toNat)), .int .i64 (Fl.pcode l n1 d1 n2 d2)]) ∧ Below w.heap.size w w' := by
  have Hn := Lib.hid hln
  clear hln
  obtain ⟨C, hC⟩ : ∃ c, Fl.pcode l n1 d1 n2 d2 = c := ⟨_, rfl⟩
  rw [hC]
  have HC := Lib.hid hC
  clear hC
  have hB := below_alloc4 w (.cells #[.int .i64 n1, .int .i64 d1] 29) (.cells #[.int .i64 n2, .int .i64 d2] 29) (.cells #[.int .i64 0, .int .i64 0] 29) (.cells #[.int .i64 n1, .int .i64 d1] 29)
  have A2 := heap_alloc4 w (.cells #[.int .i64 n1, .int .i64 d1] 29) (.cells #[.int .i64 n2, .int .i64 d2] 29) (.cells #[.int .i64 0, .int .i64 0] 29) (.cells #[.int .i64 n1, .int .i64 d1] 29)
  replace hp := hp.below hB
  have HA := Lib.hid (And.intro hB A2)
  clear hB A2
  obtain ⟨v, hv⟩ : ∃ v, v = Fl.validate l := ⟨_, rfl⟩
  have hv0 : v = 0 ∨ (v != 0) = true := by by_cases h : v = 0 <;> simp [h]
  have Hv := Lib.hid hv
  clear hv
  obtain ⟨V, hV⟩ : ∃ x, x = Fl.place l (mkRat n1 d1.toNat) (mkRat n2 d2.toNat) := ⟨_, rfl⟩
  rw [← hV]
  have HV := Lib.hid hV
  clear hV
  have HR : Hid (∀ p ∈ [(n1, d1)], -9223372036854775808 ≤ p.1 ∧ p.1 ≤ 9223372036854775807) := Lib.hid (by
    intro p hp
    simp only [List.mem_cons, List.not_mem_nil, or_false] at hp
    subst hp
    exact ⟨hn1.1, hn1.2⟩)
  have HAsk := Lib.hid (asked_one (l := l) (n1 := n1) (d1 := d1))
  obtain ⟨hn2a, hn2b⟩ := hn2
  go_enter Try.func28, Try.ntmps28
  go_wp2_with fail
  obtain ⟨hB, r4, r5, r6, r7⟩ := HA.out
  have hq := pts_one r7
  clear HA r7
  refine (rasked_any l [(n1, d1)] _ _ _ _ _ _ _ hp Hn.out hm hq rfl (by simp) HR.out).mono ?_
  rintro e w1 ⟨rfl, hbb⟩
  replace hp := hp.below hbb
  replace r4 := heap_keep hbb r4
  replace r5 := heap_keep hbb r5
  replace r6 := heap_keep hbb r6
  replace hB := hB.trans (hbb.mono hB.size)
  clear hbb
  clear hq
  rw [HAsk.out, ← Hv.out]
  rcases hv0 with rfl | hv0
  · have hok := Fl.validate_ok.1 Hv.out.symm
    have hlb := Fl.len_bound hok.2
    have hl1 := hok.1.1
    have hl6 := hok.1.2
    have htb := Fl.tot_bound hok.2
    rw [if_neg (by simp)]
    cases hp1 : Fl.plc (Fl.len l) n1 d1 1000 with
    | false =>
      have hc := Fl.pcode_arg (n1 := n1) (d1 := d1) (n2 := n2) (d2 := d2) Hv.out.symm (by rw [hp1]; rfl)
      rw [HC.out] at hc
      subst hc
      clear hp1
      obtain ⟨⟨c0, c1⟩, f0, f1⟩ := row_fr r6
      simp only [Bool.false_eq_true, if_false]
      go_wp2
      rw [show frOr 1 V = .agg #[.int .i64 0, .int .i64 0] from rfl]
      exact bodyPost_ret (results_cell_tmp rfl _ _ _ _ _ _ _ rfl (two_cells r6 (.int .i64 0) (.int .i64 0)) Try.underlying29 rfl infoRat2) rfl ⟨rfl, below_setCell (below_setCell hB (by omega) _) (by omega) _⟩
    | true =>
      have Hp1 := Lib.hid hp1
      clear hp1
      simp only [if_true]
      obtain ⟨⟨c0, c1⟩, -, -⟩ := row_fr r5
      go_wp2_with fail
      refine (risValid_any n2 d2 1000 _ hn2a hn2b (by omega)).mono ?_
      rintro e w2 ⟨rfl, hbb⟩
      replace hp := hp.below hbb
      replace r4 := heap_keep hbb r4
      replace r5 := heap_keep hbb r5
      replace r6 := heap_keep hbb r6
      replace hB := hB.trans (hbb.mono hB.size)
      clear hbb
      clear c0 c1
      cases hval : valB n2 d2 1000 with
      | false =>
        have ha : Fl.amt n2 d2 1000 = false := by
          by_cases h : 0 ≤ n2
          · rw [← valB_amt h]; exact hval
          · unfold Fl.amt; simp [h]
        have hc := Fl.pcode_arg (n1 := n1) (d1 := d1) (n2 := n2) (d2 := d2) Hv.out.symm (by rw [ha]; simp)
        rw [HC.out] at hc
        subst hc
        clear hval ha
        obtain ⟨⟨c0, c1⟩, f0, f1⟩ := row_fr r6
        go_wp2
        rw [show frOr 1 V = .agg #[.int .i64 0, .int .i64 0] from rfl]
        exact bodyPost_ret (results_cell_tmp rfl _ _ _ _ _ _ _ rfl (two_cells r6 (.int .i64 0) (.int .i64 0)) Try.underlying29 rfl infoRat2) rfl ⟨rfl, below_setCell (below_setCell hB (by omega) _) (by omega) _⟩
      | true =>
        have Hval := Lib.hid hval
        clear hval
        obtain ⟨⟨c2, c3⟩, -, -⟩ := row_fr r5
        by_cases hneg : n2 < 0
        · have ha : Fl.amt n2 d2 1000 = false := by unfold Fl.amt; simp; omega
          have hc := Fl.pcode_arg (n1 := n1) (d1 := d1) (n2 := n2) (d2 := d2) Hv.out.symm (by rw [ha]; simp)
          rw [HC.out] at hc
          subst hc
          clear ha
          obtain ⟨⟨c0, c1⟩, f0, f1⟩ := row_fr r6
          go_wp2
          rw [show frOr 1 V = .agg #[.int .i64 0, .int .i64 0] from rfl]
          exact bodyPost_ret (results_cell_tmp rfl _ _ _ _ _ _ _ rfl (two_cells r6 (.int .i64 0) (.int .i64 0)) Try.underlying29 rfl infoRat2) rfl ⟨rfl, below_setCell (below_setCell hB (by omega) _) (by omega) _⟩
        · have hp2 : Fl.amt n2 d2 1000 = true := by rw [← valB_amt (by omega)]; exact Hval.out
          have hc := Fl.pcode_ok (n1 := n1) (d1 := d1) (n2 := n2) (d2 := d2) Hv.out.symm Hp1.out hp2
          obtain ⟨q1, hq1, a1, a2, a3, a4, a5⟩ := Fl.plc_rat Hp1.out
          obtain ⟨b1, b2, b3, b4, b5, b6⟩ := Fl.amt_rat hp2
          have hsm := quo_small (T := Fl.tot l) b4 b5
          have hbg := quo_big (n := n2) (T := Fl.tot l) b5
          obtain ⟨q2, hq2⟩ : ∃ q, q = mkRat n2 d2.toNat := ⟨_, rfl⟩
          rw [← hq2] at b1 b2 b3 hc hsm hbg
          rw [← hq1, HC.out] at hc
          have hrest := Fl.worth_rest hok.2 a3 a4
          have hb0 := (before_bound (unitsOk_of hok.2 hl6) (placeU_of hok.2 a3 a4 (by omega))).1
          have hWt : Fl.worth l q1 (Fl.len l : Rat) ≤ (Fl.tot l : Rat) := by rw [hrest]; grind
          have hR0 := reachR_eq hok.2 a3 a4 b3
          obtain ⟨W, hW⟩ : ∃ x, x = Fl.worth l q1 (Fl.len l : Rat) := ⟨_, rfl⟩
          rw [← hW] at hc hWt hR0
          clear hrest hW
          obtain ⟨d, hd⟩ : ∃ x : Nat, (x : Int) = d2 := ⟨d2.toNat, by omega⟩
          obtain ⟨nn, hnn⟩ : ∃ x : Nat, (x : Int) = n2 := ⟨n2.toNat, by omega⟩
          have hb := IntWalk.tdiv_le (nn : Int) d (by omega) (by omega)
          have x1 : IntKind.i64.wrap ((nn : Int) / (d : Int)) = (nn : Int) / (d : Int) := IntWalk.i64_in _ (by omega)
          have t1 : (nn : Int).tdiv (d : Int) = (nn : Int) / (d : Int) := Int.tdiv_eq_ediv_of_nonneg (by omega)
          have gz : ¬ d = 0 := by omega
          have gz2 : ((d : Int) == 0) = false := by simp; omega
          rw [← hnn] at c2 hsm hbg hneg
          rw [← hd] at c3 hsm hbg
          have HD := Lib.hid (And.intro hd hnn)
          have HQ := Lib.hid (And.intro hq1 hq2)
          have HCC := Lib.hid hc
          have HR0 := Lib.hid hR0
          have Hsm := Lib.hid hsm
          have Hbg := Lib.hid hbg
          have Hb12 := Lib.hid (And.intro b1 b2)
          clear hq1 hq2 hp2 hc hR0 hd hnn b1 b2 hsm hbg
          subst a1 a2
          go_wp2_with fail
          have hp0 : Pts w2.drew ao l := ⟨hp.cells⟩
          go_region_held3 (fun w' => w'.cell? ⟨w.heap.size + 1, 0, none⟩ = some (.int .i64 nn) ∧ w'.cell? ⟨w.heap.size + 1, 1, none⟩ = some (.int .i64 d))
            (first | exact ⟨c2, c3⟩ | exact ka)
            (first
              | (go_at_call 68; refine (rtotal_any l _ _ _ _ hp0 Hn.out hok.2 hl6).mono ?_; rintro e w4 ⟨rfl, hb1⟩; have ka := And.intro (keep_cell hb1 c2) (keep_cell hb1 c3); replace hB := (below_drewN hB 1).trans (hb1.mono (by have := hB.size; exact this)); replace r4 := heap_keep hb1 r4; replace r5 := heap_keep hb1 r5; replace r6 := heap_keep hb1 r6; replace hp := hp0.below hb1))
          clear x1 t1 gz gz2 c2 c3 ka
          by_cases hgt : Fl.tot l < (nn : Int) / (d : Int)
          · have hc2 : Hid (C = 8) := Lib.hid (by rw [HCC.out, if_pos (by have := Hbg.out hgt; grind)])
            obtain ⟨⟨c0, c1⟩, f0, f1⟩ := row_fr r6
            go_wp2
            rw [hc2.out, show frOr 8 V = .agg #[.int .i64 0, .int .i64 0] from rfl]
            exact bodyPost_ret (results_cell_tmp rfl _ _ _ _ _ _ _ rfl (two_cells r6 (.int .i64 0) (.int .i64 0)) Try.underlying29 rfl infoRat2) rfl ⟨rfl, below_setCell (below_setCell hB (by omega) _) (by omega) _⟩
          · have hq4 := Hsm.out (by omega)
            have hwant : WantU q2 := ⟨b3, Rat.le_trans hq4 (by have : ((Fl.tot l + 1 : Int) : Rat) ≤ ((4000 : Int) : Rat) := Rat.intCast_le_intCast.2 (by omega); exact this), by have := Hb12.out.2; omega⟩
            have hu := unitsOk_of hok.2 hl6
            have pu1 := placeU_of hok.2 a3 a4 (by omega)
            obtain ⟨R, hRR⟩ : ∃ r, r = Fl.reachR (Fl.units l) q1 q2 := ⟨_, rfl⟩
            have HRR : Hid (R = if W < q2 then none else some (Fl.place l q1 q2)) := Lib.hid (by rw [hRR, HR0.out])
            obtain ⟨x, y, hxy⟩ := optFr_pair R
            rw [← HD.out.2, ← HD.out.1] at Hb12
            rw [← HD.out.2, ← HD.out.1] at r5
            rw [← Hb12.out.1, ← Hb12.out.2] at r5
            have HrR := Lib.hid hRR
            have Hxy := Lib.hid hxy
            clear hRR hxy hq4
            obtain ⟨⟨c0, c1⟩, -, -⟩ := row_fr r4
            obtain ⟨⟨c2, c3⟩, -, -⟩ := row_fr r5
            have hl6x := heap_lt r6
            go_upto_region 9 with fail
            have hp1 : Pts w4.drew ao l := ⟨hp.cells⟩
            have hp2 : Pts (w4.alloc (.cells #[.int .i64 0, .int .i64 0] 29)).drew ao l := ⟨(hp.below ((Below.refl _ w4).alloc (Nat.le_refl _) (.cells #[.int .i64 0, .int .i64 0] 29))).cells⟩
            have HK : Below w4.heap.size w4 (w4.alloc (.cells #[.int .i64 0, .int .i64 0] 29)).drew := below_drewN ((Below.refl _ w4).alloc (Nat.le_refl _) _) 1
            go_cut [9, 10] from 11 (fun p9 p10 wc => ∃ g : Nat, p9 = .pointer (some ⟨g, 0, none⟩) ∧ p10 = .bool R.isSome ∧ w.heap.size + 2 < g ∧ wc.heap[g]? = some (.cells #[.int .i64 x, .int .i64 y] 29 (0, 0)) ∧ wc.heap[w.heap.size + 1 + 1]? = some (.cells #[.int .i64 0, .int .i64 0] 29 (0, 0)) ∧ Below w.heap.size w wc)
            case first =>
              go_region_held3 (fun w' => w'.cell? ⟨w.heap.size, 0, none⟩ = some (.int .i64 q1.num) ∧ w'.cell? ⟨w.heap.size, 1, none⟩ = some (.int .i64 q1.den) ∧ w'.cell? ⟨w.heap.size + 1, 0, none⟩ = some (.int .i64 q2.num) ∧ w'.cell? ⟨w.heap.size + 1, 1, none⟩ = some (.int .i64 q2.den))
                (first | exact ⟨c0, c1, c2, c3⟩ | exact ka | exact kb | exact ⟨cell_two_other _ _ (by omega) kb.1, cell_two_other _ _ (by omega) kb.2.1, cell_two_other _ _ (by omega) kb.2.2.1, cell_two_other _ _ (by omega) kb.2.2.2⟩ | exact ⟨keep_cell HK c0, keep_cell HK c1, keep_cell HK c2, keep_cell HK c3⟩ | exact ⟨keep_cell hk5 ka.1, keep_cell hk5 ka.2.1, keep_cell hk5 ka.2.2.1, keep_cell hk5 ka.2.2.2⟩ | exact ⟨keep_cell hk6 kb.1, keep_cell hk6 kb.2.1, keep_cell hk6 kb.2.2.1, keep_cell hk6 kb.2.2.2⟩ | go_keep)
                (first
                  | (go_at_call 66; (first | ((with_reducible refine (units_any l _ _ _ _ hp1 Hn.out hok.2 hl6).mono ?_); rintro e w5 ⟨ao3, cap3, rfl, hI, hb1⟩; have hk1 : Below w4.heap.size w4 w5 := (below_drewN (Below.refl _ w4) 1).trans hb1) | ((with_reducible refine (units_any l _ _ _ _ hp2 Hn.out hok.2 hl6).mono ?_); rintro e w5 ⟨ao3, cap3, rfl, hI, hb1⟩; have hk1 : Below w4.heap.size w4 w5 := (below_drewN ((Below.refl _ w4).alloc (Nat.le_refl _) _) 1).trans (hb1.mono (by simp)); have rg := heap_keep hb1 (heap_alloc_new w4 (.cells #[.int .i64 0, .int .i64 0] 29)))); have hl1 : w4.heap.size ≤ w5.heap.size := hk1.size; have ka := And.intro (keep_cell hk1 c0) (And.intro (keep_cell hk1 c1) (And.intro (keep_cell hk1 c2) (keep_cell hk1 c3))); have hk5 := (Below.refl _ w5).alloc (Nat.le_refl _) (.cells #[.int .i64 0, .int .i64 0] 29); have hI2 := hI.below hk5)
                  | (go_at_call 82; (first | ((with_reducible refine (rreach_any _ q1 q2 _ _ _ hI hu pu1 (by omega) hwant).mono ?_); rintro e w6 ⟨rfl, hb2⟩; have hkk : Below w5.heap.size w5 w6 := hb2; (first | (have rg2 := heap_keep hb2 rg; obtain ⟨⟨d0, d1⟩, f0, f1⟩ := row_fr rg2) | skip)) | ((with_reducible refine (rreach_any _ q1 q2 _ _ _ hI2 hu pu1 (by omega) hwant).mono ?_); rintro e w6 ⟨rfl, hb2⟩; have hkk : Below w5.heap.size w5 w6 := ((Below.refl _ w5).alloc (Nat.le_refl _) _).trans (hb2.mono (by simp)); have rg2 := heap_keep hb2 (heap_alloc_new w5 (.cells #[.int .i64 0, .int .i64 0] 29)); obtain ⟨⟨d0, d1⟩, f0, f1⟩ := row_fr rg2)); have kb := And.intro (keep_cell hkk ka.1) (And.intro (keep_cell hkk ka.2.1) (And.intro (keep_cell hkk ka.2.2.1) (keep_cell hkk ka.2.2.2))); have hk6 := (Below.refl _ w6).alloc (Nat.le_refl _) (.cells #[.int .i64 0, .int .i64 0] 29); rw [← HrR.out, Hxy.out]))
              all_goals go_wp2_with fail
              all_goals go_meet
              all_goals
                have hBB : Below w.heap.size w w6 := (hB.trans (hk1.mono hB.size)).trans (hkk.mono (hB.trans (hk1.mono hB.size)).size)
                have r66 := heap_keep hkk (heap_keep hk1 r6)
                have hl2 := hkk.size
                first
                  | exact ⟨_, rfl, rfl, by omega, two_cells rg2 _ _, heap_two_other _ _ (by omega) r66, below_setCell (below_setCell hBB (by omega) _) (by omega) _⟩
                  | exact ⟨_, rfl, rfl, by omega, heap_alloc_new w6 _, (heap_alloc_old _ _ (by omega)).trans r66, hBB.alloc (by omega) _⟩
            case rest =>
              obtain ⟨g, rfl, rfl, hg, rT, r6, hB⟩ := hcut
              clear c0 c1 c2 c3 hl6x hp1 hp2
              by_cases hlt : W < q2
              · have hRn : R = none := by rw [HRR.out, if_pos hlt]
                subst hRn
                have hc2 : Hid (C = 8) := Lib.hid (by rw [HCC.out, if_pos hlt])
                clear hlt
                obtain ⟨⟨c0, c1⟩, f0, f1⟩ := row_fr r6
                go_wp2
                rw [hc2.out, show frOr 8 V = .agg #[.int .i64 0, .int .i64 0] from rfl]
                exact bodyPost_ret (results_cell_tmp rfl _ _ _ _ _ _ _ rfl (two_cells r6 (.int .i64 0) (.int .i64 0)) Try.underlying29 rfl infoRat2) rfl ⟨rfl, below_setCell (below_setCell hB (by omega) _) (by omega) _⟩
              · have hRn : R = some V := by rw [HRR.out, if_neg hlt, HV.out, ← HQ.out.1, ← HQ.out.2]
                subst hRn
                have hc2 : Hid (C = 0) := Lib.hid (by rw [HCC.out, if_neg hlt])
                have hxy := Hxy.out
                simp only [optFr_some, Fr, Value.agg.injEq, Array.mk.injEq, List.cons.injEq, Value.int.injEq, true_and, and_true] at hxy
                obtain ⟨rfl, rfl⟩ := hxy
                clear hlt
                obtain ⟨⟨c0, c1⟩, f0, f1⟩ := row_fr r6
                obtain ⟨⟨c2, c3⟩, -, -⟩ := row_fr rT
                go_wp2
                rw [hc2.out, show frOr 0 V = Fr V from rfl]
                exact bodyPost_ret (results_cell_tmp rfl _ _ _ _ _ _ _ rfl (two_cells r6 (.int .i64 V.num) (.int .i64 V.den)) Try.underlying29 rfl infoRat2) rfl ⟨rfl, below_setCell (below_setCell hB (by omega) _) (by omega) _⟩
  · have hc := Fl.pcode_bad (l := l) (n1 := n1) (d1 := d1) (n2 := n2) (d2 := d2) (by rw [← Hv.out]; exact code_ne hv0)
    rw [HC.out, ← Hv.out] at hc
    subst hc
    rw [if_pos (code_ne hv0)]
    obtain ⟨⟨c0, c1⟩, f0, f1⟩ := row_fr r6
    go_wp2
    rw [frOr_no hv0]
    exact bodyPost_ret (results_cell_tmp rfl _ _ _ _ _ _ _ rfl (two_cells r6 (.int .i64 0) (.int .i64 0)) Try.underlying29 rfl infoRat2) rfl ⟨rfl, below_setCell (below_setCell hB (by omega) _) (by omega) _⟩
end Go.Proofs.Ytemlfklipkpacaa

namespace Go.Proofs.Ytemlfklipkpacaa
namespace Fl
theorem piece_tail {s zl v : Int} {a : Rat} (h1 : 1 ≤ zl) : piece (s, s + zl, v) a ((s + zl : Int) : Rat) = if ((s + zl : Int) : Rat) ≤ a then 0 else if (s : Rat) ≤ a then (((s + zl : Int) : Rat) - a) * (v : Rat) else (((s + zl : Int) : Rat) - (s : Rat)) * (v : Rat) := by
  have r2 : (1 : Rat) ≤ (zl : Rat) := Rat.intCast_le_intCast.2 h1
  have es : ((s + zl : Int) : Rat) = (s : Rat) + (zl : Rat) := Rat.intCast_add s zl
  unfold piece
  simp only [sooner_self, later_eq]
  by_cases hge : ((s + zl : Int) : Rat) ≤ a
  · rw [if_pos hge, if_pos (by grind)]
  · rw [if_neg hge]
    by_cases hsa : (s : Rat) ≤ a
    · rw [if_pos hsa, show max a (s : Rat) = a by grind, if_neg (by grind)]
    · rw [if_neg hsa, show max a (s : Rat) = (s : Rat) by grind, if_neg (by grind)]
theorem cum_zero {l : List (Int × Int)} (hok : Ok l) : cum l 0 = 0 := by
  cases l with
  | nil => rfl
  | cons z r =>
    have r2 : (1 : Rat) ≤ (z.1 : Rat) := Rat.intCast_le_intCast.2 hok.head.1
    simp only [cum]
    rw [if_pos (by grind)]
    grind
theorem placeF_spec {a : Rat} {l : List (Int × Int)} (hok : Ok l) : ∀ {s : Int} {w : Rat}, 0 < w → w ≤ rem a s l →
    (s : Rat) ≤ placeF s a l w ∧ a ≤ placeF s a l w ∧ placeF s a l w ≤ (s : Rat) + (len l : Rat) ∧ cum l (placeF s a l w - (s : Rat)) = (if (s : Rat) ≤ a then cum l (a - (s : Rat)) else 0) + w := by
  induction l with
  | nil =>
    intro s w hw hr
    unfold rem at hr
    simp only [tot, cum] at hr
    split at hr <;> grind
  | cons z r ih =>
    intro s w hw hr
    obtain ⟨zl, v⟩ := z
    have hz := hok.head
    simp only at hz
    have r1 : (0 : Rat) ≤ (v : Rat) := by exact_mod_cast hz.2.2.1
    have r2 : (1 : Rat) ≤ (zl : Rat) := Rat.intCast_le_intCast.2 hz.1
    have e : ((tot ((zl, v) :: r) : Int) : Rat) = (zl : Rat) * (v : Rat) + ((tot r : Int) : Rat) := by
      rw [← Rat.intCast_mul, ← Rat.intCast_add]; rfl
    have el : ((len ((zl, v) :: r) : Int) : Rat) = (zl : Rat) + ((len r : Int) : Rat) := by
      rw [← Rat.intCast_add]; rfl
    have hl0 : (0 : Rat) ≤ ((len r : Int) : Rat) := by exact_mod_cast (show (0 : Int) ≤ len r by have := (len_bound hok.tail).1; omega)
    have es : ((s + zl : Int) : Rat) = (s : Rat) + (zl : Rat) := Rat.intCast_add s zl
    have c0 := cum_zero hok.tail
    have hpt := piece_tail (s := s) (v := v) (a := a) hz.1
    simp only [placeF]
    by_cases hc : w ≤ piece (s, s + zl, v) a ((s + zl : Int) : Rat)
    · rw [if_pos hc]
      rw [hpt] at hc
      by_cases hge : ((s + zl : Int) : Rat) ≤ a
      · rw [if_pos hge] at hc; grind
      · rw [if_neg hge] at hc
        have hvr : (v : Rat) ≠ 0 := by
          intro h0; rw [h0] at hc; split at hc <;> grind
        have hi := Rat.mul_inv_cancel _ hvr
        have hvp : (0 : Rat) < (v : Rat) := by grind
        have hvi : 0 < (v : Rat)⁻¹ := Rat.inv_pos.2 hvp
        have m0 : 0 ≤ w * (v : Rat)⁻¹ := Rat.mul_nonneg (by grind) (by grind)
        have mw : w * (v : Rat)⁻¹ * (v : Rat) = w := by rw [Rat.mul_assoc, Rat.mul_comm (v : Rat)⁻¹, hi, Rat.mul_one]
        obtain ⟨m, hm⟩ : ∃ m, m = w * (v : Rat)⁻¹ := ⟨_, rfl⟩
        by_cases hsa : (s : Rat) ≤ a
        · rw [if_pos hsa] at hc
          rw [later_eq, show max a (s : Rat) = a by grind, Rat.div_def, ← hm, if_pos hsa]
          rw [← hm] at m0 mw
          have hle : m ≤ ((s + zl : Int) : Rat) - a := by
            refine Rat.not_lt.1 fun hgt => ?_
            have := Rat.mul_lt_mul_of_pos_right hgt hvp
            grind
          refine ⟨by grind, by grind, by rw [el]; grind, ?_⟩
          simp only [cum]
          rw [if_pos (c := a - (s : Rat) < (zl : Rat)) (by grind)]
          by_cases hlt : a + m - (s : Rat) < (zl : Rat)
          · rw [if_pos hlt]; grind
          · rw [if_neg hlt]
            have e0 : a + m - (s : Rat) - (zl : Rat) = 0 := by grind
            rw [e0, c0]
            grind
        · rw [if_neg hsa] at hc
          rw [later_eq, show max a (s : Rat) = (s : Rat) by grind, Rat.div_def, ← hm, if_neg hsa]
          rw [← hm] at m0 mw
          have hle : m ≤ ((s + zl : Int) : Rat) - (s : Rat) := by
            refine Rat.not_lt.1 fun hgt => ?_
            have := Rat.mul_lt_mul_of_pos_right hgt hvp
            grind
          refine ⟨by grind, by grind, by rw [el]; grind, ?_⟩
          simp only [cum]
          by_cases hlt : (s : Rat) + m - (s : Rat) < (zl : Rat)
          · rw [if_pos hlt]; grind
          · rw [if_neg hlt]
            have e0 : (s : Rat) + m - (s : Rat) - (zl : Rat) = 0 := by grind
            rw [e0, c0]
            grind
    · rw [if_neg hc]
      obtain ⟨P, hP⟩ : ∃ p, p = piece (s, s + zl, v) a ((s + zl : Int) : Rat) := ⟨_, rfl⟩
      rw [← hP] at hc hpt ⊢
      have hrem : w - P ≤ rem a (s + zl) r := by
        unfold rem at hr ⊢
        by_cases hge : ((s + zl : Int) : Rat) ≤ a
        · rw [if_pos hge] at hpt
          rw [if_pos (by grind)] at hr
          simp only [cum] at hr
          rw [if_neg (by grind)] at hr
          rw [if_pos hge, hpt]
          have ea : a - ((s + zl : Int) : Rat) = a - (s : Rat) - (zl : Rat) := by rw [es]; grind
          rw [ea]; grind
        · rw [if_neg hge] at hpt
          rw [if_neg hge]
          by_cases hsa : (s : Rat) ≤ a
          · rw [if_pos hsa] at hpt hr
            simp only [cum] at hr
            rw [if_pos (by grind)] at hr
            grind
          · rw [if_neg hsa] at hpt hr
            grind
      obtain ⟨h1, h2, h3, h4⟩ := ih hok.tail (s := s + zl) (w := w - P) (by grind) hrem
      obtain ⟨p, hp⟩ : ∃ p, p = placeF (s + zl) a r (w - P) := ⟨_, rfl⟩
      rw [← hp] at h1 h2 h3 h4 ⊢
      refine ⟨by grind, h2, by rw [el]; grind, ?_⟩
      simp only [cum]
      rw [if_neg (c := p - (s : Rat) < (zl : Rat)) (by grind)]
      have ep : p - (s : Rat) - (zl : Rat) = p - ((s + zl : Int) : Rat) := by rw [es]; grind
      rw [ep, h4]
      by_cases hge : ((s + zl : Int) : Rat) ≤ a
      · rw [if_pos hge] at hpt
        rw [if_pos hge, if_pos (c := (s : Rat) ≤ a) (by grind), if_neg (c := a - (s : Rat) < (zl : Rat)) (by grind)]
        have ea : a - ((s + zl : Int) : Rat) = a - (s : Rat) - (zl : Rat) := by rw [es]; grind
        rw [ea]; grind
      · rw [if_neg hge] at hpt
        rw [if_neg hge]
        by_cases hsa : (s : Rat) ≤ a
        · rw [if_pos hsa] at hpt
          rw [if_pos hsa, if_pos (c := a - (s : Rat) < (zl : Rat)) (by grind)]
          grind
        · rw [if_neg hsa] at hpt
          rw [if_neg hsa]
          grind
/-- Up to the place of a worth it is worth so much. -/
theorem place_spec {l : List (Int × Int)} (hok : Ok l) {a w : Rat} (h0 : 0 ≤ a) (h1 : a ≤ (len l : Rat)) (hw : 0 ≤ w) (hle : w ≤ worth l a (len l : Rat)) :
    a ≤ place l a w ∧ place l a w ≤ (len l : Rat) ∧ worth l a (place l a w) = w := by
  have e0 : ((0 : Int) : Rat) = 0 := rfl
  have es : ∀ x : Rat, x - ((0 : Int) : Rat) = x := fun x => by rw [e0]; grind
  unfold place
  by_cases hz : w = 0
  · rw [if_pos hz, hz]
    exact ⟨Rat.le_refl, h1, by rw [worth_before hok h0 Rat.le_refl]; grind⟩
  · rw [if_neg hz]
    have hr : rem a 0 l = worth l a (len l : Rat) := by
      unfold rem
      rw [if_pos (by rw [e0]; exact h0), es, worth_rest hok h0 h1, before_cum hok h0]
    obtain ⟨p1, p2, p3, p4⟩ := placeF_spec (a := a) hok (s := 0) (w := w) (by grind) (by rw [hr]; exact hle)
    rw [if_pos (by rw [e0]; exact h0), es, es] at p4
    refine ⟨p2, by rw [e0] at p3; grind, ?_⟩
    rw [worth_before hok h0 p2, before_cum hok h0, before_cum hok (Rat.le_trans h0 p2), p4]
    grind
end Fl
end Go.Proofs.Ytemlfklipkpacaa

namespace Go.Proofs.Ytemlfklipkpacaa
open Go.RowKit
namespace Fl
theorem pcode_inv {l : List (Int × Int)} {n1 d1 n2 d2 : Int} (h : pcode l n1 d1 n2 d2 = 0) :
    validate l = 0 ∧ plc (len l) n1 d1 1000 = true ∧ amt n2 d2 1000 = true ∧ mkRat n2 d2.toNat ≤ worth l (mkRat n1 d1.toNat) (len l : Rat) := by
  unfold pcode at h
  by_cases h0 : validate l = 0
  · rw [if_neg (by simp [h0])] at h
    refine ⟨h0, ?_⟩
    by_cases h2 : (plc (len l) n1 d1 1000 && amt n2 d2 1000) = true
    · rw [if_pos h2] at h
      have h3 : plc (len l) n1 d1 1000 = true ∧ amt n2 d2 1000 = true := by simpa using h2
      refine ⟨h3.1, h3.2, ?_⟩
      by_cases h4 : worth l (mkRat n1 d1.toNat) (len l : Rat) < mkRat n2 d2.toNat
      · rw [if_pos h4] at h; omega
      · grind
    · rw [if_neg h2] at h; omega
  · rw [if_pos h0] at h; exact absurd h h0
theorem amt_of_rat {q : Rat} {most : Int} (h0 : 0 ≤ q) (hd : (q.den : Int) ≤ most) : amt q.num q.den most = true := by
  rw [amt_iff]
  refine ⟨Fl.num_nonneg h0, by have := q.den_pos; omega, hd, ?_⟩
  rw [Int.natAbs_natCast]
  exact q.reduced
theorem mk_self (q : Rat) : mkRat q.num (q.den : Int).toNat = q := by rw [Int.toNat_natCast, Rat.mkRat_self]
/-- What lies up to the place of a worth is worth so much. -/
theorem place_worth {l : List (Int × Int)} {n1 d1 n2 d2 : Int} (h : pcode l n1 d1 n2 d2 = 0) {V : Rat} (hV : V = place l (mkRat n1 d1.toNat) (mkRat n2 d2.toNat)) (hd : (V.den : Int) ≤ 1000) :
    wcode l n1 d1 V.num V.den = 0 ∧ worth l (mkRat n1 d1.toNat) (mkRat V.num (V.den : Int).toNat) = mkRat n2 d2.toNat := by
  obtain ⟨h1, h2, h3, h4⟩ := pcode_inv h
  have hok := (validate_ok.1 h1).2
  obtain ⟨q1, hq1, a1, a2, a3, a4, a5⟩ := plc_rat h2
  obtain ⟨b1, b2, b3, b4, b5, b6⟩ := amt_rat h3
  rw [← hq1] at h4 hV ⊢
  obtain ⟨p1, p2, p3⟩ := place_spec hok a3 a4 b3 h4
  rw [← hV] at p1 p2 p3
  rw [mk_self]
  refine ⟨wcode_ok h1 ?_, p3⟩
  rw [h2, mk_self, ← hq1]
  unfold plc
  rw [amt_of_rat (Rat.le_trans a3 p1) hd, mk_self]
  simp [p1, p2]
end Fl

set_option maxRecDepth 100000 in
set_option maxHeartbeats 4000000 in
theorem soilPlaces_any (l : List (Int × Int)) (ao : Option Addr) (n cap : Nat) (n1 d1 n2 d2 : Int) (w : World) (hp : Pts w ao l) (hln : n = l.length) (hn1 : Rng n1) (_ : Rng d1) (hn2 : Rng n2) (_ : Rng d2) :
    Calls Try.prog 5 #[.slice ao n cap, .agg #[.int .i64 n1, .int .i64 d1], .agg #[.int .i64 n2, .int .i64 d2]] w fun e w' => e = .returned (.bool true) ∧ Below w.heap.size w w' := by
  have Hn := Lib.hid hln
  clear hln
  have hB : Below w.heap.size w ((w.alloc (.cells #[.int .i64 n1, .int .i64 d1] 29)).alloc (.cells #[.int .i64 n2, .int .i64 d2] 29)) := below_alloc2 w _ _
  replace hp := hp.below hB
  have r0 := heap_alloc2_old w (.cells #[.int .i64 n1, .int .i64 d1] 29) (.cells #[.int .i64 n2, .int .i64 d2] 29)
  have r1 := heap_alloc2_new w (.cells #[.int .i64 n1, .int .i64 d1] 29) (.cells #[.int .i64 n2, .int .i64 d2] 29)
  have HA := Lib.hid (And.intro hB (And.intro r0 r1))
  clear hB r0 r1
  by_cases hlong : 100 < n
  · have hd : (decide (100 < n) || decide (100 < 0)) = true := by simp [hlong]
    go_enter Try.func5, Try.ntmps5
    go_wp2_with fail
    refine (long_any n 0 cap 0 ao none _).mono ?_
    rintro e w1 ⟨rfl, rfl⟩
    rw [hd]
    go_wp2_with fail
    refine (known_any _).mono ?_
    rintro e w1 ⟨rfl, hb⟩
    go_wp2
    go_ret
    exact ⟨rfl, HA.out.1.trans (hb.mono HA.out.1.size)⟩
  · have hd : (decide (100 < n) || decide (100 < 0)) = false := by simp; omega
    have hn : n ≤ 100000 := by omega
    clear hlong
    obtain ⟨V, hV⟩ : ∃ v, v = Fl.place l (mkRat n1 d1.toNat) (mkRat n2 d2.toNat) := ⟨_, rfl⟩
    have HV := Lib.hid hV
    clear hV
    obtain ⟨a, b, hab⟩ := frOr_pair (Fl.pcode l n1 d1 n2 d2) V
    have Hab := Lib.hid hab
    clear hab
    obtain ⟨C, hC⟩ : ∃ L, Fl.pcode l n1 d1 n2 d2 = L := ⟨_, rfl⟩
    have HC := Lib.hid hC
    clear hC
    have hC0 : C = 0 ∨ (C != 0) = true := by by_cases h : C = 0 <;> simp [h]
    go_enter Try.func5, Try.ntmps5
    go_wp2_with fail
    refine (long_any n 0 cap 0 ao none _).mono ?_
    rintro e w1 ⟨rfl, rfl⟩
    rw [hd]
    clear hd
    obtain ⟨hB, r0, r1⟩ := HA.out
    clear HA
    generalize ((w.alloc (.cells #[.int .i64 n1, .int .i64 d1] 29)).alloc (.cells #[.int .i64 n2, .int .i64 d2] 29)) = wx at hB r0 r1 hp ⊢
    obtain ⟨⟨c0, c1⟩, -, -⟩ := row_fr r0
    obtain ⟨⟨c2, c3⟩, -, -⟩ := row_fr r1
    clear r0 r1
    go_wp2_with fail
    refine (Place_any l _ _ _ n1 d1 n2 d2 _ hp Hn.out hn hn1.2 hn2.2).mono ?_
    rintro e w1 ⟨rfl, hbb⟩
    replace hp := hp.below hbb
    replace c0 := keep_cell hbb c0
    replace c1 := keep_cell hbb c1
    replace c2 := keep_cell hbb c2
    replace c3 := keep_cell hbb c3
    replace hB := hB.trans (hbb.mono hB.size)
    clear hbb
    rw [← HV.out, Hab.out, HC.out]
    have hA := (Below.refl _ w1).alloc (Nat.le_refl _) (.cells #[.int .i64 a, .int .i64 b] 29)
    have r1 := heap_alloc_new w1 (.cells #[.int .i64 a, .int .i64 b] 29)
    replace hp := hp.below hA
    replace c0 := keep_cell hA c0
    replace c1 := keep_cell hA c1
    replace c2 := keep_cell hA c2
    replace c3 := keep_cell hA c3
    replace hB := hB.trans (hA.mono hB.size)
    clear hA
    go_wp2_with fail
    refine (rPlace_any l _ _ _ n1 d1 n2 d2 _ hp Hn.out hn hn1 hn2).mono ?_
    rintro e w2 ⟨rfl, hbb⟩
    replace hp := hp.below hbb
    replace c0 := keep_cell hbb c0
    replace c1 := keep_cell hbb c1
    replace c2 := keep_cell hbb c2
    replace c3 := keep_cell hbb c3
    replace r1 := heap_keep hbb r1
    replace hB := hB.trans (hbb.mono hB.size)
    clear hbb
    rw [← HV.out, Hab.out, HC.out]
    have hA := (Below.refl _ w2).alloc (Nat.le_refl _) (.cells #[.int .i64 a, .int .i64 b] 29)
    have r2 := heap_alloc_new w2 (.cells #[.int .i64 a, .int .i64 b] 29)
    replace hp := hp.below hA
    replace c0 := keep_cell hA c0
    replace c1 := keep_cell hA c1
    replace c2 := keep_cell hA c2
    replace c3 := keep_cell hA c3
    replace r1 := heap_keep hA r1
    replace hB := hB.trans (hA.mono hB.size)
    clear hA
    obtain ⟨⟨x0, x1⟩, -, -⟩ := row_fr r1
    obtain ⟨⟨x2, x3⟩, -, -⟩ := row_fr r2
    have q1 := run_neq_rt a b a b
    simp only [decide_true, Bool.not_true] at q1
    rcases hC0 with rfl | hC0
    · have hab := Hab.out
      rw [HC.out, frOr_ok] at hab
      simp only [Fr, Value.agg.injEq, Array.mk.injEq, List.cons.injEq, Value.int.injEq, true_and, and_true] at hab
      obtain ⟨rfl, rfl⟩ := hab
      by_cases hbig : 1000 < V.den
      · go_wp2_with fail
        refine (known_any _).mono ?_
        rintro e w4 ⟨rfl, hb⟩
        go_wp2
        go_ret
        exact ⟨rfl, hB.trans (hb.mono hB.size)⟩
      · have hpw := Fl.place_worth HC.out HV.out (by omega)
        have HP := Lib.hid hpw
        clear hpw
        have Hr1 := Lib.hid r1
        have hrng : V.num ≤ 9223372036854775807 := by
          obtain ⟨y1, y2, y3, y4⟩ := Fl.wcode_inv HP.out.1
          obtain ⟨q, hq, z1, z2, z3, z4, z5⟩ := Fl.plc_rat y3
          have hlb := Fl.len_bound (Fl.validate_ok.1 y1).2
          have h6 := (Fl.validate_ok.1 y1).1.2
          have := place_num z4 (by omega) (by omega)
          omega
        clear x2 x3 r1 r2
        go_wp2_with fail
        refine (Worth_any l _ _ _ n1 d1 V.num V.den _ hp Hn.out hn hn1.2 hrng).mono ?_
        rintro e w3 ⟨rfl, hbb⟩
        replace hp := hp.below hbb
        replace c2 := keep_cell hbb c2
        replace c3 := keep_cell hbb c3
        replace hB := hB.trans (hbb.mono hB.size)
        rw [HP.out.1, HP.out.2, frOr_ok]
        have hm := Fl.amt_rat (Fl.pcode_inv HC.out).2.2.1
        obtain ⟨m1, m2, -⟩ := hm
        obtain ⟨q2, hq2⟩ : ∃ q, q = mkRat n2 d2.toNat := ⟨_, rfl⟩
        rw [← hq2] at m1 m2 ⊢
        have HM := Lib.hid (And.intro hq2 (And.intro m1 m2))
        clear hq2 m1 m2 hbb x0 x1 c0 c1
        have hA := (Below.refl _ w3).alloc (Nat.le_refl _) (.cells #[.int .i64 q2.num, .int .i64 q2.den] 29)
        have r3 := heap_alloc_new w3 (.cells #[.int .i64 q2.num, .int .i64 q2.den] 29)
        replace hp := hp.below hA
        replace c2 := keep_cell hA c2
        replace c3 := keep_cell hA c3
        replace hB := hB.trans (hA.mono hB.size)
        clear hA
        obtain ⟨⟨x0, x1⟩, -, -⟩ := row_fr r3
        rw [← HM.out.2.1] at c2
        rw [← HM.out.2.2] at c3
        have q1 := run_eq_rt q2.num q2.den q2.num q2.den
        simp only [decide_true] at q1
        go_wp2_with fail
        refine (known_any _).mono ?_
        rintro e w10 ⟨rfl, hb⟩
        go_wp2
        go_ret
        exact ⟨rfl, hB.trans (hb.mono hB.size)⟩
    · go_wp2_with fail
      refine (known_any _).mono ?_
      rintro e w4 ⟨rfl, hb⟩
      go_wp2
      go_ret
      exact ⟨rfl, hB.trans (hb.mono hB.size)⟩
end Go.Proofs.Ytemlfklipkpacaa

namespace Go.Proofs.Ytemlfklipkpacaa
open Go.RowKit
namespace Fl
def okP (p : Int) : Bool := decide (0 ≤ p) && decide (p ≤ 10000)
/-- The code that is asked of a field and parts. -/
def partsC (l : List (Int × Int)) (ps : List Int) : Int :=
  if validate l ≠ 0 then validate l else if ps.length < 1 ∨ 8 < ps.length then 3 else if ps.all okP then (if sumI ps = tot l then 0 else 5) else 1
theorem okP_iff {p : Int} : okP p = true ↔ 0 ≤ p ∧ p ≤ 10000 := by unfold okP; simp
theorem partsC_bad {l : List (Int × Int)} {ps : List Int} (h : validate l ≠ 0) : partsC l ps = validate l := if_pos h
theorem partsC_len {l : List (Int × Int)} {ps : List Int} (h : validate l = 0) (h2 : ps.length < 1 ∨ 8 < ps.length) : partsC l ps = 3 := by
  unfold partsC; rw [if_neg (by simp [h]), if_pos h2]
theorem partsC_arg {l : List (Int × Int)} {ps : List Int} (h : validate l = 0) (h2 : 1 ≤ ps.length) (h3 : ps.length ≤ 8) {k : Nat} (hk : k < ps.length) (hb : okP (ps.getD k 0) = false) : partsC l ps = 1 := by
  unfold partsC; rw [if_neg (by simp [h]), if_neg (by omega), if_neg]
  intro ha
  rw [List.all_eq_true] at ha
  have := ha _ (List.getElem_mem hk)
  rw [List.getD_eq_getElem?_getD, List.getElem?_eq_getElem hk] at hb
  simp [this] at hb
theorem partsC_sum {l : List (Int × Int)} {ps : List Int} (h : validate l = 0) (h2 : 1 ≤ ps.length) (h3 : ps.length ≤ 8) (ha : ∀ k, k < ps.length → okP (ps.getD k 0) = true) : partsC l ps = if sumI ps = tot l then 0 else 5 := by
  unfold partsC; rw [if_neg (by simp [h]), if_neg (by omega), if_pos]
  rw [List.all_eq_true]
  intro x hx
  obtain ⟨j, hj, rfl⟩ := List.mem_iff_getElem.1 hx
  have := ha j hj
  rwa [List.getD_eq_getElem?_getD, List.getElem?_eq_getElem hj] at this
theorem sumI_ok {ps : List Int} (ha : ∀ k, k < ps.length → okP (ps.getD k 0) = true) : ∀ k, k ≤ ps.length → 0 ≤ sumI (ps.take k) ∧ sumI (ps.take k) ≤ 10000 * k := by
  intro k
  induction k with
  | zero => intro _; simp [sumI]
  | succ k ih =>
    intro hk
    have h1 := ih (by omega)
    have h2 := okP_iff.1 (ha k (by omega))
    rw [sumI_take (by omega)]
    push_cast
    omega
end Fl
theorem run_neq_fr (a1 a2 b1 b2 : Int) (w : World) : (binOp BinOp.neq 89 (.agg #[.int .i64 a1, .int .i64 a2]) (.agg #[.int .i64 b1, .int .i64 b2])).run Try.prog w = .ok (.bool (!(decide ((a1, a2) = (b1, b2))))) w := by
  by_cases e1 : a1 = b1
  · subst e1
    by_cases e2 : a2 = b2
    · simp [e2, go_sem]
    · simp [e2, go_sem]
  · simp [e1, go_sem]

set_option maxRecDepth 100000 in
set_option maxHeartbeats 4000000 in
theorem checkParts_any (l : List (Int × Int)) (ps : List Int) (ao : Option Addr) (n cap : Nat) (ao2 : Option Addr) (m cap2 : Nat) (w : World) (hp : Pts w ao l) (hln : n = l.length) (hn : n ≤ 100000) (hI : Ints w ao2 ps) (hlm : m = ps.length) (hm : m ≤ 100000) :
    Calls Try.prog 83 #[.slice ao n cap, .slice ao2 m cap2] w fun e w' => e = .returned (.int .i64 (Fl.partsC l ps)) ∧ Below w.heap.size w w' := by
  have Hn := Lib.hid hln
  have Hm := Lib.hid hlm
  clear hln hlm
  obtain ⟨C, hC⟩ : ∃ c, Fl.partsC l ps = c := ⟨_, rfl⟩
  rw [hC]
  have HC := Lib.hid hC
  clear hC
  obtain ⟨v, hv⟩ : ∃ v, v = Fl.validate l := ⟨_, rfl⟩
  have hv0 : v = 0 ∨ (v != 0) = true := by by_cases h : v = 0 <;> simp [h]
  have Hv := Lib.hid hv
  clear hv
  have hB := Below.refl w.heap.size w
  go_enter Try.func83, Try.ntmps83
  go_wp2_with fail
  have HI := Lib.hid hI
  refine (validate_any l _ _ _ _ hp Hn.out hn).mono ?_
  rintro e w1 ⟨rfl, hbb⟩
  replace hp := hp.below hbb
  replace hI := hI.below hbb
  replace hB := hB.trans (hbb.mono hB.size)
  clear hbb
  rw [← Hv.out]
  rcases hv0 with rfl | hv0
  · have hok := Fl.validate_ok.1 Hv.out.symm
    have htb := Fl.tot_bound hok.2
    have hl1 := hok.1.1
    have hl6 := hok.1.2
    by_cases hlen : m < 1 ∨ 8 < m
    · have hc : Hid (C = 3) := Lib.hid (by rw [← HC.out]; exact Fl.partsC_len Hv.out.symm (by rw [← Hm.out]; exact hlen))
      rcases hlen with hlen | hlen
      · go_wp2
        go_ret
        exact ⟨ret_int hc.out.symm, hB⟩
      · go_wp2
        go_ret
        exact ⟨ret_int hc.out.symm, hB⟩
    · have m1 : 1 ≤ m := by omega
      have m8 : m ≤ 8 := by omega
      clear hlen
      go_wp2
      go_loop [6, 24] (fun s i => ∃ k : Nat, k ≤ m ∧ i = .int .i64 k ∧ s = .int .i64 (Fl.sumI (ps.take k)) ∧ Hid (∀ j, j < k → Fl.okP (ps.getD j 0) = true) ∧ 0 ≤ Fl.sumI (ps.take k) ∧ Fl.sumI (ps.take k) ≤ 10000 * k) (fun _ i => m - (intOf i).toNat)
      case atStart => exact ⟨0, Nat.zero_le _, rfl, rfl, Lib.hid (fun j hj => by omega), by simp [Fl.sumI], by simp [Fl.sumI]⟩
      case round =>
        obtain ⟨k, hk, rfl, rfl, hall, hs0, hs1⟩ := hrel
        by_cases hlt : k < m
        · have hkl : k < ps.length := by have := Hm.out; omega
          obtain ⟨b, off, rfl, hbs, hc⟩ := HI.out.at hkl
          replace hc := keep_cell hB hc
          have hst := Fl.sumI_take hkl
          have hbad := Fl.partsC_arg (l := l) Hv.out.symm (by have := Hm.out; omega) (by have := Hm.out; omega) hkl
          obtain ⟨x, hx⟩ : ∃ x, x = ps.getD k 0 := ⟨_, rfl⟩
          obtain ⟨s, hs⟩ : ∃ x, x = Fl.sumI (ps.take k) := ⟨_, rfl⟩
          rw [← hx] at hc hst hbad
          rw [← hs] at hst hs0 hs1 ⊢
          have Hx := Lib.hid hx
          have Hst := Lib.hid hst
          have Hbad := Lib.hid hbad
          clear hx hs hst hbad hI
          have i1 : (k : Int) < (m : Int) := by omega
          cases hokx : Fl.okP x with
          | true =>
            obtain ⟨q1, q2⟩ := Fl.okP_iff.1 hokx
            have Hok := Lib.hid hokx
            clear hokx
            go_wp2
            go_round
            case rel =>
              refine ⟨k + 1, by omega, by go_num, by rw [Hst.out], Lib.hid fun j hj => ?_, by rw [Hst.out]; omega, by rw [Hst.out]; push_cast; omega⟩
              by_cases e : j = k
              · subst e; rw [← Hx.out]; exact Hok.out
              · exact hall.out j (by omega)
            case measure => simp [intOf]; omega
          | false =>
            have hcc : Hid (C = 1) := Lib.hid (HC.out.symm.trans (Hbad.out hokx))
            have hq : x < 0 ∨ (0 ≤ x ∧ 10000 < x) := by
              have : ¬ (0 ≤ x ∧ x ≤ 10000) := fun h => by rw [Fl.okP_iff.2 h] at hokx; cases hokx
              omega
            clear hokx
            rcases hq with q | ⟨q1, q2⟩ <;>
            · go_wp2
              go_ret
              exact ⟨ret_int hcc.out.symm, hB⟩
        · have hk2 : k = m := by omega
          have Hk := Lib.hid hk2
          clear hk2
          have hsum : Hid (Fl.sumI (ps.take k) = Fl.sumI ps) := Lib.hid (by rw [Hk.out, Hm.out, List.take_length])
          have hcc : Hid (C = if Fl.sumI ps = Fl.tot l then 0 else 5) := Lib.hid (HC.out.symm.trans (Fl.partsC_sum Hv.out.symm (by have := Hm.out; omega) (by have := Hm.out; omega) (fun j hj => hall.out j (by rw [Hk.out, Hm.out]; exact hj))))
          clear hI
          obtain ⟨s, hs⟩ : ∃ x, x = Fl.sumI (ps.take k) := ⟨_, rfl⟩
          rw [← hs] at hsum hs0 hs1 ⊢
          clear hs
          go_wp2_with fail
          refine (whole_any s _).mono ?_
          rintro e w2 ⟨rfl, hbb⟩
          replace hp := hp.below hbb
          replace hB := hB.trans (hbb.mono hB.size)
          clear hbb
          go_wp2_with fail
          refine (worthAll_any l _ _ _ _ hp Hn.out hok.2 hl1 hl6).mono ?_
          rintro e w3 ⟨rfl, hbb⟩
          replace hp := hp.below hbb
          replace hB := hB.trans (hbb.mono hB.size)
          clear hbb
          have hneq := run_neq_fr s 1 (Fl.tot l) 1
          by_cases he : s = Fl.tot l
          · have hc2 : Hid (C = 0) := Lib.hid (by rw [hcc.out, if_pos (by rw [← hsum.out]; exact he)])
            have hd : decide ((s, (1 : Int)) = (Fl.tot l, (1 : Int))) = true := by simp [he]
            rw [hd] at hneq
            clear hd he
            simp only [Fr, Rat.num_intCast, Rat.den_intCast]
            go_wp2
            go_ret
            exact ⟨ret_int hc2.out.symm, hB⟩
          · have hc2 : Hid (C = 5) := Lib.hid (by rw [hcc.out, if_neg (by rw [← hsum.out]; exact he)])
            have hd : decide ((s, (1 : Int)) = (Fl.tot l, (1 : Int))) = false := by simp [he]
            rw [hd] at hneq
            clear hd he
            simp only [Fr, Rat.num_intCast, Rat.den_intCast]
            go_wp2
            go_ret
            exact ⟨ret_int hc2.out.symm, hB⟩
  · have hc : Hid (C = v) := Lib.hid (by rw [← HC.out, Fl.partsC_bad (by rw [← Hv.out]; exact code_ne hv0), Hv.out])
    go_wp2
    go_ret
    exact ⟨ret_int hc.out.symm, hB⟩

set_option maxRecDepth 100000 in
set_option maxHeartbeats 4000000 in
theorem rparted_any (l : List (Int × Int)) (ps : List Int) (ao : Option Addr) (n cap : Nat) (ao2 : Option Addr) (m cap2 : Nat) (w : World) (hp : Pts w ao l) (hln : n = l.length) (hn : n ≤ 100000) (hI : Ints w ao2 ps) (hlm : m = ps.length) (hm : m ≤ 100000) :
    Calls Try.prog 85 #[.slice ao n cap, .slice ao2 m cap2] w fun e w' => e = .returned (.int .i64 (Fl.partsC l ps)) ∧ Below w.heap.size w w' := by
  have Hn := Lib.hid hln
  have Hm := Lib.hid hlm
  clear hln hlm
  obtain ⟨C, hC⟩ : ∃ c, Fl.partsC l ps = c := ⟨_, rfl⟩
  rw [hC]
  have HC := Lib.hid hC
  clear hC
  obtain ⟨v, hv⟩ : ∃ v, v = Fl.validate l := ⟨_, rfl⟩
  have hv0 : v = 0 ∨ (v != 0) = true := by by_cases h : v = 0 <;> simp [h]
  have Hv := Lib.hid hv
  clear hv
  have HI := Lib.hid hI
  clear hI
  go_enter Try.func85, Try.ntmps85
  go_wp2_with fail
  refine (rvalidate_any l _ _ _ _ hp Hn.out hn).mono ?_
  rintro e w1 ⟨rfl, rfl⟩
  rw [← Hv.out]
  rcases hv0 with rfl | hv0
  · have hok := Fl.validate_ok.1 Hv.out.symm
    have htb := Fl.tot_bound hok.2
    have hl6 := hok.1.2
    by_cases hlen : m < 1 ∨ 8 < m
    · have hc : Hid (C = 3) := Lib.hid (by rw [← HC.out]; exact Fl.partsC_len Hv.out.symm (by rw [← Hm.out]; exact hlen))
      have ho' : (decide ((1 : Int) ≤ m) && decide ((m : Int) ≤ 8)) = false := by
        rw [Bool.eq_false_iff]; simp; omega
      go_wp2_with fail
      refine (rwithin_any _ _ _ _).mono ?_
      rintro e w' ⟨rfl, rfl⟩
      rw [ho']
      go_wp2
      go_ret
      exact ⟨ret_int hc.out.symm, Below.refl _ _⟩
    · have m1 : 1 ≤ m := by omega
      have m8 : m ≤ 8 := by omega
      have ho' : (decide ((1 : Int) ≤ m) && decide ((m : Int) ≤ 8)) = true := by simp; omega
      clear hlen
      go_wp2_with fail
      refine (rwithin_any _ _ _ _).mono ?_
      rintro e w' ⟨rfl, rfl⟩
      rw [ho']
      clear ho'
      go_wp2
      go_loop [6, 7] (fun s i => ∃ k : Nat, k ≤ m ∧ i = .int .i64 k ∧ s = .int .i64 (Fl.sumI (ps.take k)) ∧ Hid (∀ j, j < k → Fl.okP (ps.getD j 0) = true) ∧ 0 ≤ Fl.sumI (ps.take k) ∧ Fl.sumI (ps.take k) ≤ 10000 * k) (fun _ i => m - (intOf i).toNat)
      case atStart => exact ⟨0, Nat.zero_le _, rfl, rfl, Lib.hid (fun j hj => by omega), by simp [Fl.sumI], by simp [Fl.sumI]⟩
      case round =>
        obtain ⟨k, hk, rfl, rfl, hall, hs0, hs1⟩ := hrel
        by_cases hlt : k < m
        · have hkl : k < ps.length := by have := Hm.out; omega
          obtain ⟨b, off, rfl, hbs, hc⟩ := HI.out.at hkl
          have hst := Fl.sumI_take hkl
          have hbad := Fl.partsC_arg (l := l) Hv.out.symm (by have := Hm.out; omega) (by have := Hm.out; omega) hkl
          obtain ⟨x, hx⟩ : ∃ x, x = ps.getD k 0 := ⟨_, rfl⟩
          obtain ⟨s, hs⟩ : ∃ x, x = Fl.sumI (ps.take k) := ⟨_, rfl⟩
          rw [← hx] at hc hst hbad
          rw [← hs] at hst hs0 hs1 ⊢
          have Hx := Lib.hid hx
          have Hst := Lib.hid hst
          have Hbad := Lib.hid hbad
          clear hx hs hst hbad
          have i1 : (k : Int) < (m : Int) := by omega
          have hdx : (decide (0 ≤ x) && decide (x ≤ 10000)) = Fl.okP x := rfl
          go_wp2_with fail
          refine (rwithin_any _ _ _ _).mono ?_
          rintro e w' ⟨rfl, rfl⟩
          rw [hdx]
          clear hdx
          cases hokx : Fl.okP x with
          | true =>
            obtain ⟨q1, q2⟩ := Fl.okP_iff.1 hokx
            have Hok := Lib.hid hokx
            clear hokx
            go_wp2
            go_round
            case rel =>
              refine ⟨k + 1, by omega, by go_num, by rw [Hst.out], Lib.hid fun j hj => ?_, by rw [Hst.out]; omega, by rw [Hst.out]; push_cast; omega⟩
              by_cases e : j = k
              · subst e; rw [← Hx.out]; exact Hok.out
              · exact hall.out j (by omega)
            case measure => simp [intOf]; omega
          | false =>
            have hcc : Hid (C = 1) := Lib.hid (HC.out.symm.trans (Hbad.out hokx))
            clear hokx
            go_wp2
            go_ret
            exact ⟨ret_int hcc.out.symm, Below.refl _ _⟩
        · have hk2 : k = m := by omega
          have Hk := Lib.hid hk2
          clear hk2
          have hsum : Hid (Fl.sumI (ps.take k) = Fl.sumI ps) := Lib.hid (by rw [Hk.out, Hm.out, List.take_length])
          have hcc : Hid (C = if Fl.sumI ps = Fl.tot l then 0 else 5) := Lib.hid (HC.out.symm.trans (Fl.partsC_sum Hv.out.symm (by have := Hm.out; omega) (by have := Hm.out; omega) (fun j hj => hall.out j (by rw [Hk.out, Hm.out]; exact hj))))
          obtain ⟨s, hs⟩ : ∃ x, x = Fl.sumI (ps.take k) := ⟨_, rfl⟩
          rw [← hs] at hsum hs0 hs1 ⊢
          clear hs
          go_wp2_with fail
          refine (rtotal_any l _ _ _ _ hp Hn.out hok.2 hl6).mono ?_
          rintro e w2 ⟨rfl, hB⟩
          obtain ⟨t, ht⟩ : ∃ t, t = Fl.tot l := ⟨_, rfl⟩
          rw [← ht] at hcc ⊢
          clear ht
          by_cases he : s = t
          · have hc2 : Hid (C = 0) := Lib.hid (by rw [hcc.out, if_pos (by rw [← hsum.out]; exact he)])
            have hd : (s != t) = false := by simp [he]
            clear he
            go_wp2
            go_ret
            exact ⟨ret_int hc2.out.symm, hB⟩
          · have hc2 : Hid (C = 5) := Lib.hid (by rw [hcc.out, if_neg (by rw [← hsum.out]; exact he)])
            have hd : (s != t) = true := by simp [he]
            clear he
            go_wp2
            go_ret
            exact ⟨ret_int hc2.out.symm, hB⟩
  · have hc : Hid (C = v) := Lib.hid (by rw [← HC.out, Fl.partsC_bad (by rw [← Hv.out]; exact code_ne hv0), Hv.out])
    go_wp2
    go_ret
    exact ⟨ret_int hc.out.symm, Below.refl _ _⟩
end Go.Proofs.Ytemlfklipkpacaa

namespace Go.Proofs.Ytemlfklipkpacaa
namespace Fl
theorem den_int_div (x v : Int) (h0 : 0 ≤ v) (h20 : v ≤ 20) : ((x : Rat) / (v : Rat)).den ≤ 20 := by
  rcases Int.lt_or_eq_of_le h0 with h | h
  · rw [← div_q (x : Rat) v h, Rat.num_intCast, Rat.den_intCast]
    have e : ((((1 : Nat) : Int) * v).toNat) = v.toNat := by simp
    rw [e]
    have hd : 0 < v.toNat := by omega
    rw [Rat.den_mkRat, if_neg (by omega)]
    have := Nat.div_le_self v.toNat (Nat.gcd v.toNat x.natAbs)
    omega
  · rw [← h]
    have e : ((0 : Int) : Rat) = 0 := rfl
    rw [e, Rat.div_def, Rat.inv_zero, Rat.mul_zero]
    decide
theorem reachF_den {u : List Int} (hu : ∀ v ∈ u, 0 ≤ v ∧ v ≤ 20) : ∀ {s i W : Int} {p : Rat}, reachF s i u (W : Rat) = some p → p.den ≤ 20 := by
  induction u with
  | nil => intro s i W p h; cases h
  | cons v r ih =>
    intro s i W p h
    simp only [reachF] at h
    split at h
    · simp only [Option.some.injEq] at h
      have hv := hu v (by simp)
      rw [← h, ← Rat.intCast_sub, Rat.add_comm]
      exact Nat.le_trans (den_add_int_le _ _) (den_int_div _ _ hv.1 hv.2)
    · exact ih (fun v hv => hu v (by simp [hv])) h
/-- A cut, and what lies before it is worth. -/
structure CutAt (l : List (Int × Int)) (a : Rat) (P : Int) : Prop where
  a0 : 0 ≤ a
  a1 : a ≤ (len l : Rat)
  d : a.den ≤ 20
  b : before (units l) a = (P : Rat)
theorem cutAt_zero {l : List (Int × Int)} (hok : Ok l) : CutAt l 0 0 := by
  have hl := (len_bound hok).1
  refine ⟨Rat.le_refl, by exact_mod_cast (show (0 : Int) ≤ len l by omega), by decide, ?_⟩
  rw [before_cum hok Rat.le_refl, cum_zero hok]
  rfl
theorem cut_step {l : List (Int × Int)} (hok : Ok l) (h6 : l.length ≤ 6) {a : Rat} {P p : Int} (h : CutAt l a P) (hp : 0 ≤ p) (hs : P + p ≤ tot l) :
    CutAt l (place l a (p : Rat)) (P + p) ∧ GoOk a (p : Rat) ∧ worth l a (place l a (p : Rat)) = (p : Rat) ∧ a ≤ place l a (p : Rat) ∧ (p : Rat) ≤ worth l a (len l : Rat) := by
  have hp0 : (0 : Rat) ≤ (p : Rat) := by exact_mod_cast hp
  have hlb := len_bound hok
  have htb := tot_bound hok
  have hr := worth_rest hok h.a0 h.a1
  rw [h.b] at hr
  have hle : (p : Rat) ≤ worth l a (len l : Rat) := by
    rw [hr]
    have : ((P + p : Int) : Rat) ≤ (tot l : Rat) := Rat.intCast_le_intCast.2 hs
    rw [Rat.intCast_add] at this
    grind
  obtain ⟨p1, p2, p3⟩ := place_spec hok h.a0 h.a1 hp0 hle
  have hpre : 0 ≤ P := by
    have := (cum_bound hok h.a0).1
    rw [← before_cum hok h.a0, h.b] at this
    exact_mod_cast this
  have l1 : (len l : Rat) ≤ ((1000 : Int) : Rat) := Rat.intCast_le_intCast.2 (by omega)
  have e1 : ((1000 : Int) : Rat) = 1000 := rfl
  have l2 : (p : Rat) ≤ ((3000 : Int) : Rat) := Rat.intCast_le_intCast.2 (by omega)
  have e2 : ((3000 : Int) : Rat) = 3000 := rfl
  have ha1 := h.a1
  have hd := h.d
  refine ⟨⟨Rat.le_trans h.a0 p1, p2, ?_, ?_⟩, ⟨h.a0, by grind, hp0, by grind, by rw [Rat.den_intCast, Nat.mul_one]; omega⟩, p3, p1, hle⟩
  · by_cases hz : (p : Rat) = 0
    · unfold place; rw [if_pos hz]; exact h.d
    · have hre := reach_eq hok h.a0 h.a1 (w := (p : Rat)) (by grind)
      rw [if_pos hle, h.b, ← Rat.intCast_add] at hre
      exact reachF_den (units_mem hok) hre
  · have hw := worth_before hok h.a0 p1
    rw [p3, h.b] at hw
    rw [Rat.intCast_add]
    grind
/-- Whether cuts give pieces with the worths that were asked. -/
def chainB (l : List (Int × Int)) (a : Rat) : List Int → List Rat → Bool
  | p :: ps, q :: qs => (!decide (q < a) && decide (worth l a q = (p : Rat))) && chainB l q ps qs
  | _, _ => true
theorem sumI_nonneg {ps : List Int} (h : ∀ p ∈ ps, 0 ≤ p ∧ p ≤ 10000) : 0 ≤ sumI ps := by
  induction ps with
  | nil => simp [sumI]
  | cons x r ih =>
    have h1 := h x (by simp)
    have h2 := ih (fun v hv => h v (by simp [hv]))
    rw [sumI_cons]; omega
/-- The places of the cuts: they can be reckoned, they are good places, and they are accepted. -/
theorem chain_ok {l : List (Int × Int)} (hok : Ok l) (h6 : l.length ≤ 6) : ∀ {ps : List Int} {p : Int} {a : Rat} {P : Int}, CutAt l a P → (∀ x ∈ p :: ps, 0 ≤ x ∧ x ≤ 10000) → P + sumI (p :: ps) = tot l →
    CutOk l a (((p :: ps).take ps.length).map fun (x : Int) => (x : Rat)) ∧
    (∀ q ∈ cutsF l a (((p :: ps).take ps.length).map fun (x : Int) => (x : Rat)), a ≤ q ∧ q ≤ (len l : Rat) ∧ q.den ≤ 20) ∧
    chainB l a (p :: ps) (cutsF l a (((p :: ps).take ps.length).map fun (x : Int) => (x : Rat)) ++ [(len l : Rat)]) = true := by
  intro ps
  induction ps with
  | nil =>
    intro p a P h hall hs
    simp only [List.length_nil, List.take_zero, List.map_nil, cutsF, CutOk, List.nil_append, chainB, true_and]
    refine ⟨fun q hq => by simp at hq, ?_⟩
    have hr := worth_rest hok h.a0 h.a1
    rw [h.b, ← hs, sumI_cons] at hr
    have e0 : sumI [] = 0 := rfl
    have hw : worth l a (len l : Rat) = (p : Rat) := by
      rw [hr, e0, Rat.intCast_add, Rat.intCast_add]
      have : ((0 : Int) : Rat) = 0 := rfl
      rw [this]; grind
    have hna : ¬ (len l : Rat) < a := by have := h.a1; grind
    simp [hw, hna]
  | cons p2 r ih =>
    intro p a P h hall hs
    have hp := hall p (by simp)
    have hrest : ∀ x ∈ p2 :: r, 0 ≤ x ∧ x ≤ 10000 := fun x hx => hall x (List.mem_cons_of_mem _ hx)
    rw [sumI_cons] at hs
    have hn := sumI_nonneg hrest
    obtain ⟨c1, c2, c3, c4, -⟩ := cut_step hok h6 h hp.1 (by omega)
    obtain ⟨i1, i2, i3⟩ := ih (p := p2) c1 hrest (by omega)
    simp only [List.length_cons, List.take_succ_cons, List.map_cons, cutsF, CutOk]
    refine ⟨⟨c2, i1⟩, fun q hq => ?_, ?_⟩
    · simp only [List.mem_cons] at hq
      rcases hq with rfl | hq
      · exact ⟨c4, c1.a1, c1.d⟩
      · have := i2 q hq
        exact ⟨Rat.le_trans c4 this.1, this.2⟩
    · simp only [List.cons_append, chainB]
      rw [i3, c3]
      have : ¬ place l a (p : Rat) < a := by grind
      simp [this]
theorem partsC_ok {l : List (Int × Int)} {ps : List Int} (h : partsC l ps = 0) : validate l = 0 ∧ 1 ≤ ps.length ∧ ps.length ≤ 8 ∧ (∀ p ∈ ps, 0 ≤ p ∧ p ≤ 10000) ∧ sumI ps = tot l := by
  unfold partsC at h
  by_cases h0 : validate l = 0
  · rw [if_neg (by simp [h0])] at h
    by_cases h1 : ps.length < 1 ∨ 8 < ps.length
    · rw [if_pos h1] at h; omega
    · rw [if_neg h1] at h
      by_cases h2 : ps.all okP = true
      · rw [if_pos h2] at h
        by_cases h3 : sumI ps = tot l
        · rw [List.all_eq_true] at h2
          exact ⟨h0, by omega, by omega, fun p hp => okP_iff.1 (h2 p hp), h3⟩
        · rw [if_neg h3] at h; omega
      · rw [if_neg h2] at h; omega
  · rw [if_pos h0] at h; exact absurd h h0
/-- The cuts that are asked. -/
def cutsOf (l : List (Int × Int)) (ps : List Int) : List Rat := cutsF l 0 ((ps.map fun (x : Int) => (x : Rat)).take (ps.length - 1))
theorem cutsOf_ok {l : List (Int × Int)} {ps : List Int} (h : partsC l ps = 0) :
    CutOk l 0 ((ps.map fun (x : Int) => (x : Rat)).take (ps.length - 1)) ∧ (∀ q ∈ cutsOf l ps, 0 ≤ q ∧ q ≤ (len l : Rat) ∧ q.den ≤ 20) ∧ chainB l 0 ps (cutsOf l ps ++ [(len l : Rat)]) = true ∧ (cutsOf l ps).length = ps.length - 1 := by
  obtain ⟨h0, h1, h2, h3, h4⟩ := partsC_ok h
  obtain ⟨⟨-, h6⟩, hok⟩ := validate_ok.1 h0
  match ps, h1 with
  | p :: r, _ =>
    have := chain_ok hok h6 (cutAt_zero hok) h3 (by rw [h4]; omega)
    unfold cutsOf
    simp only [List.length_cons, Nat.add_sub_cancel, ← List.map_take]
    refine ⟨this.1, this.2.1, this.2.2, ?_⟩
    rw [cutsF_length]
    simp
end Fl
end Go.Proofs.Ytemlfklipkpacaa

namespace Go.Proofs.Ytemlfklipkpacaa
open Go.RowKit

/-- What Cut hands back: cuts in memory of its own, or nil where there is an error. -/
def CutMade (w : World) (base : Nat) (v : Value) (c : Int) (L : List (Int × Int)) : Prop :=
  (c = 0 ∧ w.ownsRow base 29 2 v L.length (flat2 L)) ∨ (c ≠ 0 ∧ v = .slice none 0 0)
theorem CutMade.below {w w' : World} {base : Nat} {v : Value} {c : Int} {L : List (Int × Int)} (h : CutMade w base v c L) (hb : Below w.heap.size w w') : CutMade w' base v c L := by
  rcases h with ⟨h1, h2⟩ | h
  · exact .inl ⟨h1, own_below h2 hb⟩
  · exact .inr h
theorem CutMade.pts {w : World} {base : Nat} {v : Value} {c : Int} {L : List (Int × Int)} (h : CutMade w base v c L) : ∃ ao cap, v = .slice ao (if c = 0 then L else []).length cap ∧ (if c = 0 then L else []).length ≤ cap ∧ Pts w ao (if c = 0 then L else []) := by
  rcases h with ⟨h1, h2⟩ | ⟨h1, rfl⟩
  · obtain ⟨ao, cap, rfl, hc, hp⟩ := own_pts2 h2 rfl
    exact ⟨ao, cap, by rw [if_pos h1], by rw [if_pos h1]; exact hc, by rw [if_pos h1]; exact hp⟩
  · exact ⟨none, 0, by rw [if_neg h1]; rfl, by rw [if_neg h1]; exact Nat.le_refl _, by rw [if_neg h1]; exact ⟨fun h => absurd h (by simp)⟩⟩

theorem frs_of_own {w : World} {base n : Nat} {e : TypeId} {v : Value} {L : List Rat} (h : w.ownsRow base e 2 v n (flat2 (L.map pr))) (hn : n = L.length) :
    ∃ ao cap, v = .slice ao n cap ∧ n ≤ cap ∧ Frs w ao L := own_pts2 h (by rw [List.length_map]; exact hn)
theorem getD_map_int {ps : List Int} {k : Nat} (hk : k < ps.length) : ((ps.map fun (x : Int) => (x : Rat)).take (k + 1)).map pr = ((ps.map fun (x : Int) => (x : Rat)).take k).map pr ++ [(ps.getD k 0, 1)] := by
  have hk2 : k < (ps.map fun (x : Int) => (x : Rat)).length := by rw [List.length_map]; exact hk
  rw [List.take_succ_eq_append_getElem hk2, List.map_append, List.getElem_map, List.getD_eq_getElem?_getD, List.getElem?_eq_getElem hk]
  rfl

set_option maxRecDepth 100000 in
set_option maxHeartbeats 4000000 in
theorem Cut_any (l : List (Int × Int)) (ps : List Int) (ao : Option Addr) (n cap : Nat) (ao2 : Option Addr) (m cap2 : Nat) (w : World) (hp : Pts w ao l) (hln : n = l.length) (hn : n ≤ 100000) (hI : Ints w ao2 ps) (hlm : m = ps.length) (hm : m ≤ 100000) :
    Calls Try.prog 29 #[.slice ao n cap, .slice ao2 m cap2] w fun e w' => (∃ v, e = .returned (.tuple #[v, .int .i64 (Fl.partsC l ps)]) ∧ CutMade w' w.heap.size v (Fl.partsC l ps) ((Fl.cutsOf l ps).map pr)) ∧ Below w.heap.size w w' := by
  have Hn := Lib.hid hln
  have Hm := Lib.hid hlm
  clear hln hlm
  obtain ⟨C, hC⟩ : ∃ c, Fl.partsC l ps = c := ⟨_, rfl⟩
  rw [hC]
  have hC0 : C = 0 ∨ (C != 0) = true := by by_cases h : C = 0 <;> simp [h]
  have HC := Lib.hid hC
  clear hC
  obtain ⟨i0, hi0, hz0, hz1, hz2⟩ := info_fr
  have hB := Below.refl w.heap.size w
  obtain ⟨L, hL⟩ : ∃ x, x = (Fl.cutsOf l ps).map pr := ⟨_, rfl⟩
  rw [← hL]
  have HL := Lib.hid hL
  clear hL
  go_enter Try.func29, Try.ntmps29
  go_wp2_with fail
  refine (checkParts_any l ps _ _ _ _ _ _ _ hp Hn.out hn hI Hm.out hm).mono ?_
  rintro e w1 ⟨rfl, hbb⟩
  replace hp := hp.below hbb
  replace hI := hI.below hbb
  replace hB := hB.trans (hbb.mono hB.size)
  clear hbb
  rw [HC.out]
  rcases hC0 with rfl | hC0
  · obtain ⟨h0, h1, h2, h3, h4⟩ := Fl.partsC_ok HC.out
    obtain ⟨⟨hl1, hl6⟩, hok⟩ := Fl.validate_ok.1 h0
    obtain ⟨k1, k2, k3, k4⟩ := Fl.cutsOf_ok HC.out
    have m8 : m ≤ 8 := by have := Hm.out; omega
    have m1 : 1 ≤ m := by have := Hm.out; omega
    have HK := Lib.hid (And.intro k1 k4)
    have HP3 := Lib.hid h3
    clear k1 k2 k3 k4 h3 h4 h0
    have hs1 := hB.size
    have HI := Lib.hid hI
    clear hI
    go_wp2
    go_loopw [7, 18] (fun v i wr => ∃ k : Nat, k ≤ m ∧ i = .int .i64 k ∧ Hid (wr.ownsRow w1.heap.size 89 2 v k (flat2 (((ps.map fun (x : Int) => (x : Rat)).take k).map pr))) ∧ Below w1.heap.size w1 wr) (fun _ i _ => m - (intOf i).toNat)
    case atStart => exact ⟨0, Nat.zero_le _, rfl, Lib.hid ⟨rfl, .inl ⟨rfl, rfl⟩⟩, Below.refl _ _⟩
    case round =>
      obtain ⟨k, hk, rfl, hown, hb⟩ := hrel
      by_cases hlt : k < m
      · have hkl : k < ps.length := by have := Hm.out; omega
        obtain ⟨b, off, rfl, hbs, hc⟩ := HI.out.at hkl
        replace hc := keep_cell hb hc
        have hst := Lib.hid (getD_map_int hkl)
        obtain ⟨x, hx⟩ : ∃ x, x = ps.getD k 0 := ⟨_, rfl⟩
        rw [← hx] at hc hst
        clear hx
        have i1 : (k : Int) < (m : Int) := by omega
        have hs := hb.size
        go_wp2_with fail
        refine (whole_any x _).mono ?_
        rintro e w2 ⟨rfl, hbb⟩
        have hown2 := Lib.hid (own_below hown.out hbb)
        have hb2 := hb.trans (hbb.mono hs)
        have hs2 := hb2.size
        clear hown hbb hc
        dsimp only [Fr]
        simp only [Rat.num_intCast, Rat.den_intCast]
        go_wp2_with (first | (at_builtin; refine wpList_append_own _ rfl _ _ 104 rfl w1.heap.size 89 i0 (.agg #[.int .i64 0, .int .i64 0]) 2 16 Try.underlying104 hi0 hz0 hz1 hz2 rfl (by decide) _ k _ rfl (hown2.out.alloc _) ⟨w2.heap.size, 0, none⟩ 1 1 [.int .i64 x, .int .i64 1] rfl rfl (World.news_of_block (cs := #[.int .i64 x, .int .i64 1]) (t := 89) (fr := (0, 0)) (heap_alloc_new w2 _)) (by simp [Value.oneCell']) (by unfold maxLen; omega) (by omega) (by simp; omega) ?_; intro v' w3 hown3 hgrow3 hnil3; have hb5 : Below w1.heap.size w1 w3 := (hb2.alloc hs2 _).grown hgrow3 (by simp; omega) (fun q hq => (hown2.out.lt _ hq).1); clear hgrow3 hnil3))
        go_roundw
        case rel => exact ⟨k + 1, by omega, by go_num, Lib.hid (by rw [hst.out, flat2_app]; exact hown3), hb5⟩
        case measure => simp [intOf]; omega
      · have hk2 : k = m := by omega
        have ho := hown.out
        rw [hk2, Hm.out] at ho
        have e : (ps.map fun (x : Int) => (x : Rat)).take ps.length = ps.map fun (x : Int) => (x : Rat) := List.take_of_length_le (by simp)
        rw [e] at ho
        obtain ⟨ao3, cap3, rfl, hc3, hf3⟩ := frs_of_own ho (by rw [List.length_map])
        have HF := Lib.hid hf3
        have Hk := Lib.hid hk2
        clear ho hk2 hf3 e hown
        have hpw := hp.below hb
        have hlen := Hm.out
        have Hlen : Hid (ps.length = (ps.map fun (x : Int) => (x : Rat)).length) := Lib.hid (by rw [List.length_map])
        have hps8 : ps.length ≤ 8 := by omega
        have hps1 : 1 ≤ ps.length := by omega
        clear hlen
        go_wp2_with fail
        refine (cut_any l (ps.map fun (x : Int) => (x : Rat)) _ _ _ _ _ _ _ hpw Hn.out hok hl1 hl6 HF.out Hlen.out hps1 (by omega) hc3 HK.out.1).mono ?_
        rintro e w4 ⟨v, rfl, hown4, hb4⟩
        have hB4 := (hB.trans (hb.mono hs1)).trans (hb4.mono (hB.trans (hb.mono hs1)).size)
        have hbase := (hB.trans (hb.mono hs1)).size
        have Ho4 : Hid (w4.ownsRow w.heap.size 29 2 v L.length (flat2 L)) := Lib.hid (by
          have h := own_mono hown4 hbase
          have e1 : ((Fl.cutsOf l ps).map pr).length = ps.length - 1 := by rw [List.length_map, HK.out.2]
          rw [HL.out, e1]
          exact h)
        clear hown4 hb4
        go_wp2
        go_ret2
        exact ⟨⟨v, rfl, .inl ⟨rfl, Ho4.out⟩⟩, hB4⟩
  · go_wp2
    go_ret2
    exact ⟨⟨_, rfl, .inr ⟨code_ne hC0, rfl⟩⟩, hB⟩
end Go.Proofs.Ytemlfklipkpacaa
