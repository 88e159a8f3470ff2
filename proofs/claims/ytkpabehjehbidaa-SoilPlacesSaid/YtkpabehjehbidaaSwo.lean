import Derived.Test.YtkpabehjehbidaaPlc
import Derived.Test.YtkpabehjehbidaaUn
import Derived.Test.YtkpabehjehbidaaRa
namespace Go.Proofs.Ytkpabehjehbidaa
open Go.RowKit
namespace Fl
/-- The code that is asked of Worth. -/
def wcode (l : List (Int × Int)) (n1 d1 n2 d2 : Int) : Int :=
  if validate l ≠ 0 then validate l else if plc (len l) n1 d1 1000 && (plc (len l) n2 d2 1000 && decide (mkRat n1 d1.toNat ≤ mkRat n2 d2.toNat)) then 0 else 1
theorem wcode_bad {l : List (Int × Int)} {n1 d1 n2 d2 : Int} (h : validate l ≠ 0) : wcode l n1 d1 n2 d2 = validate l := if_pos h
theorem wcode_arg {l : List (Int × Int)} {n1 d1 n2 d2 : Int} (h : validate l = 0) (h2 : (plc (len l) n1 d1 1000 && (plc (len l) n2 d2 1000 && decide (mkRat n1 d1.toNat ≤ mkRat n2 d2.toNat))) = false) : wcode l n1 d1 n2 d2 = 1 := by
  unfold wcode; rw [if_neg (by simp [h]), h2]; rfl
theorem wcode_ok {l : List (Int × Int)} {n1 d1 n2 d2 : Int} (h : validate l = 0) (h2 : (plc (len l) n1 d1 1000 && (plc (len l) n2 d2 1000 && decide (mkRat n1 d1.toNat ≤ mkRat n2 d2.toNat))) = true) : wcode l n1 d1 n2 d2 = 0 := by
  unfold wcode; rw [if_neg (by simp [h]), h2]; rfl
/-- A place's numbers. -/
theorem plc_rat {L n d most : Int} (h : plc L n d most = true) : ∃ q : Rat, q = mkRat n d.toNat ∧ q.num = n ∧ (q.den : Int) = d ∧ 0 ≤ q ∧ q ≤ (L : Rat) ∧ (q.den : Int) ≤ most := by
  obtain ⟨h1, h2⟩ := plc_amt h
  obtain ⟨a1, a2, a3, a4, a5, a6⟩ := amt_rat h1
  exact ⟨_, rfl, a1, a2, a3, h2, by omega⟩
end Fl
theorem place_num {q : Rat} {L : Int} (h : q ≤ (L : Rat)) (hL : L ≤ 140) (h0 : 0 ≤ L) : q.num ≤ 140 * (q.den : Int) := by
  have h2 : q ≤ ((140 : Nat) : Rat) := Rat.le_trans h (by exact_mod_cast hL)
  exact Fl.num_le h2
theorem placeOk_of {a b : Rat} {L : Int} (ha : 0 ≤ a) (hb : 0 ≤ b) (ha2 : a ≤ (L : Rat)) (hb2 : b ≤ (L : Rat)) (hL : L ≤ 140) (h0 : 0 ≤ L) (d1 : (a.den : Int) ≤ 1000000) (d2 : (b.den : Int) ≤ 1000000) : PlaceOk a b := by
  have n1 := place_num ha2 hL h0
  have n2 := place_num hb2 hL h0
  refine ⟨ha, hb, by omega, by omega, ?_⟩
  have h : a.den * b.den ≤ 1000000 * 1000000 := Nat.mul_le_mul (by omega) (by omega)
  omega

set_option maxRecDepth 100000 in
set_option maxHeartbeats 4000000 in
theorem Worth_any (l : List (Int × Int)) (ao : Option Addr) (m cap : Nat) (n1 d1 n2 d2 : Int) (w : World) (hp : Pts w ao l) (hln : m = l.length) (hm : m ≤ 100000) (hn1 : n1 ≤ 9223372036854775807) (hn2 : n2 ≤ 9223372036854775807) :
    Calls Try.prog 25 #[.slice ao m cap, .agg #[.int .i64 n1, .int .i64 d1], .agg #[.int .i64 n2, .int .i64 d2]] w fun e w' => e = .returned (.tuple #[frOr (Fl.wcode l n1 d1 n2 d2) (Fl.worth l (mkRat n1 d1.toNat) (mkRat n2 d2.toNat)), .int .i64 (Fl.wcode l n1 d1 n2 d2)]) ∧ Below w.heap.size w w' := by
  have Hn := Lib.hid hln
  clear hln
  obtain ⟨C, hC⟩ : ∃ c, Fl.wcode l n1 d1 n2 d2 = c := ⟨_, rfl⟩
  rw [hC]
  have HC := Lib.hid hC
  clear hC
  have hB := below_alloc3 w (.cells #[.int .i64 n1, .int .i64 d1] 29) (.cells #[.int .i64 n2, .int .i64 d2] 29) (.cells #[.int .i64 0, .int .i64 0] 29)
  have A2 := heap_alloc3_all w (.cells #[.int .i64 n1, .int .i64 d1] 29) (.cells #[.int .i64 n2, .int .i64 d2] 29) (.cells #[.int .i64 0, .int .i64 0] 29)
  replace hp := hp.below hB
  have HA := Lib.hid (And.intro hB A2)
  clear hB A2
  obtain ⟨v, hv⟩ : ∃ v, v = Fl.validate l := ⟨_, rfl⟩
  have hv0 : v = 0 ∨ (v != 0) = true := by by_cases h : v = 0 <;> simp [h]
  have Hv := Lib.hid hv
  clear hv
  obtain ⟨V, hV⟩ : ∃ x, x = Fl.worth l (mkRat n1 d1.toNat) (mkRat n2 d2.toNat) := ⟨_, rfl⟩
  rw [← hV]
  have HV := Lib.hid hV
  clear hV
  go_enter Try.func25, Try.ntmps25
  go_wp2_with fail
  obtain ⟨hB, r4, r5, r6⟩ := HA.out
  clear HA
  refine (validate_any l _ _ _ _ hp Hn.out hm).mono ?_
  rintro e w1 ⟨rfl, hbb⟩
  replace hp := hp.below hbb
  replace r4 := heap_keep hbb r4
  replace r5 := heap_keep hbb r5
  replace r6 := heap_keep hbb r6
  replace hB := hB.trans (hbb.mono hB.size)
  clear hbb
  rw [← Hv.out]
  rcases hv0 with rfl | hv0
  · have hok := Fl.validate_ok.1 Hv.out.symm
    have hlb := Fl.len_bound hok.2
    have hl1 := hok.1.1
    have hl6 := hok.1.2
    obtain ⟨⟨c0, c1⟩, -, -⟩ := row_fr r4
    go_wp2_with fail
    refine (isPlace_any l _ _ _ n1 d1 1000 _ hp Hn.out hok.2 hl6 hn1 (by omega)).mono ?_
    rintro e w2 ⟨rfl, hbb⟩
    replace hp := hp.below hbb
    replace r4 := heap_keep hbb r4
    replace r5 := heap_keep hbb r5
    replace r6 := heap_keep hbb r6
    replace hB := hB.trans (hbb.mono hB.size)
    clear hbb
    clear c0 c1
    cases hp1 : Fl.plc (Fl.len l) n1 d1 1000 with
    | false =>
      have hc := Fl.wcode_arg (n1 := n1) (d1 := d1) (n2 := n2) (d2 := d2) Hv.out.symm (by rw [hp1]; rfl)
      rw [HC.out] at hc
      subst hc
      clear hp1
      obtain ⟨⟨c0, c1⟩, f0, f1⟩ := row_fr r6
      go_wp2
      rw [show frOr 1 V = .agg #[.int .i64 0, .int .i64 0] from rfl]
      exact bodyPost_ret (results_cell_tmp rfl _ _ _ _ _ _ _ rfl (two_cells r6 (.int .i64 0) (.int .i64 0)) Try.underlying29 rfl infoRat2) rfl ⟨rfl, below_setCell (below_setCell hB (by omega) _) (by omega) _⟩
    | true =>
      have Hp1 := Lib.hid hp1
      clear hp1
      obtain ⟨⟨c0, c1⟩, -, -⟩ := row_fr r5
      go_wp2_with fail
      refine (isPlace_any l _ _ _ n2 d2 1000 _ hp Hn.out hok.2 hl6 hn2 (by omega)).mono ?_
      rintro e w3 ⟨rfl, hbb⟩
      replace hp := hp.below hbb
      replace r4 := heap_keep hbb r4
      replace r5 := heap_keep hbb r5
      replace r6 := heap_keep hbb r6
      replace hB := hB.trans (hbb.mono hB.size)
      clear hbb
      clear c0 c1
      cases hp2 : Fl.plc (Fl.len l) n2 d2 1000 with
      | false =>
        have hc := Fl.wcode_arg (n1 := n1) (d1 := d1) (n2 := n2) (d2 := d2) Hv.out.symm (by rw [hp2]; simp)
        rw [HC.out] at hc
        subst hc
        clear hp2
        obtain ⟨⟨c0, c1⟩, f0, f1⟩ := row_fr r6
        go_wp2
        rw [show frOr 1 V = .agg #[.int .i64 0, .int .i64 0] from rfl]
        exact bodyPost_ret (results_cell_tmp rfl _ _ _ _ _ _ _ rfl (two_cells r6 (.int .i64 0) (.int .i64 0)) Try.underlying29 rfl infoRat2) rfl ⟨rfl, below_setCell (below_setCell hB (by omega) _) (by omega) _⟩
      | true =>
        have Hp2 := Lib.hid hp2
        clear hp2
        obtain ⟨q1, hq1, a1, a2, a3, a4, a5⟩ := Fl.plc_rat Hp1.out
        obtain ⟨q2, hq2, b1, b2, b3, b4, b5⟩ := Fl.plc_rat Hp2.out
        have hpo := placeOk_of a3 b3 a4 b4 (by omega) (by omega) (by omega) (by omega)
        have HQ := Lib.hid (And.intro hq1 hq2)
        have hcq : Hid (0 ≤ q1.num ∧ 0 ≤ q2.num ∧ (q1.den : Int) * (q2.den : Int) ≤ 4000000000000000000) :=
          Lib.hid ⟨hpo.nums.1, hpo.nums.2.1, by have := hpo.d; rw [← Int.natCast_mul]; omega⟩
        clear hq1 hq2
        subst a1 b1 a2 b2
        obtain ⟨⟨c0, c1⟩, -, -⟩ := row_fr r4
        obtain ⟨⟨c2, c3⟩, -, -⟩ := row_fr r5
        go_wp2_with fail
        refine (compareR_any q1 q2 _ hcq.out.1 hcq.out.2.1 hn1 hn2 hcq.out.2.2).mono ?_
        rintro e w4 ⟨rfl, hbb⟩
        replace hp := hp.below hbb
        replace r4 := heap_keep hbb r4
        replace r5 := heap_keep hbb r5
        replace r6 := heap_keep hbb r6
        replace hB := hB.trans (hbb.mono hB.size)
        clear hbb
        clear c0 c1 c2 c3
        by_cases hle : q1 ≤ q2
        · have hc := Fl.wcode_ok (n1 := q1.num) (d1 := q1.den) (n2 := q2.num) (d2 := q2.den) Hv.out.symm (by rw [Hp1.out, Hp2.out, ← HQ.out.1, ← HQ.out.2]; simpa using hle)
          rw [HC.out] at hc
          subst hc
          have hcm : ¬ 0 < Fl.cmpR q1 q2 := by unfold Fl.cmpR; grind
          obtain ⟨⟨c0, c1⟩, -, -⟩ := row_fr r4
          obtain ⟨⟨c2, c3⟩, -, -⟩ := row_fr r5
          go_wp2_with fail
          refine (worth_any l q1 q2 _ _ _ _ hp Hn.out hok.2 hl1 hl6 hpo).mono ?_
          rintro e w5 ⟨rfl, hbb⟩
          replace hp := hp.below hbb
          replace r4 := heap_keep hbb r4
          replace r5 := heap_keep hbb r5
          replace r6 := heap_keep hbb r6
          replace hB := hB.trans (hbb.mono hB.size)
          clear hbb
          clear c0 c1 c2 c3
          obtain ⟨⟨c0, c1⟩, f0, f1⟩ := row_fr r6
          have HV2 : Hid (V = Fl.worth l q1 q2) := Lib.hid (by rw [HV.out, ← HQ.out.1, ← HQ.out.2])
          rw [← HV2.out]
          go_wp2
          rw [show frOr 0 V = Fr V from rfl]
          exact bodyPost_ret (results_cell_tmp rfl _ _ _ _ _ _ _ rfl (two_cells r6 (.int .i64 V.num) (.int .i64 V.den)) Try.underlying29 rfl infoRat2) rfl ⟨rfl, below_setCell (below_setCell hB (by omega) _) (by omega) _⟩
        · have hc := Fl.wcode_arg (n1 := q1.num) (d1 := q1.den) (n2 := q2.num) (d2 := q2.den) Hv.out.symm (by rw [Hp1.out, Hp2.out, ← HQ.out.1, ← HQ.out.2]; simpa using hle)
          rw [HC.out] at hc
          subst hc
          have hcm : 0 < Fl.cmpR q1 q2 := by unfold Fl.cmpR; grind
          obtain ⟨⟨c0, c1⟩, f0, f1⟩ := row_fr r6
          go_wp2
          rw [show frOr 1 V = .agg #[.int .i64 0, .int .i64 0] from rfl]
          exact bodyPost_ret (results_cell_tmp rfl _ _ _ _ _ _ _ rfl (two_cells r6 (.int .i64 0) (.int .i64 0)) Try.underlying29 rfl infoRat2) rfl ⟨rfl, below_setCell (below_setCell hB (by omega) _) (by omega) _⟩
  · have hc := Fl.wcode_bad (l := l) (n1 := n1) (d1 := d1) (n2 := n2) (d2 := d2) (by rw [← Hv.out]; exact code_ne hv0)
    rw [HC.out, ← Hv.out] at hc
    subst hc
    obtain ⟨⟨c0, c1⟩, f0, f1⟩ := row_fr r6
    go_wp2
    rw [frOr_no hv0]
    exact bodyPost_ret (results_cell_tmp rfl _ _ _ _ _ _ _ rfl (two_cells r6 (.int .i64 0) (.int .i64 0)) Try.underlying29 rfl infoRat2) rfl ⟨rfl, below_setCell (below_setCell hB (by omega) _) (by omega) _⟩
end Go.Proofs.Ytkpabehjehbidaa
