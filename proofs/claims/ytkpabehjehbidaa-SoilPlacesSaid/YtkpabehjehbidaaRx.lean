import Derived.Test.YtkpabehjehbidaaRw
namespace Go.Proofs.Ytkpabehjehbidaa
open Go.RowKit

theorem pts_two {w : World} {g : Nat} {n1 d1 n2 d2 : Int} {t : TypeId} (h : w.heap[g]? = some (.cells #[.int .i64 n1, .int .i64 d1, .int .i64 n2, .int .i64 d2] t (0, 0))) : Pts w (some ⟨g, 0, none⟩) [(n1, d1), (n2, d2)] := by
  have hc := fun j => cell_of_row w g j _ _ _ h
  refine ⟨fun _ => ⟨_, 0, rfl, heap_lt h, fun i hi => ?_⟩⟩
  match i, hi with
  | 0, _ => exact ⟨hc 0, hc 1⟩
  | 1, _ => exact ⟨hc 2, hc 3⟩
theorem asked_two {l : List (Int × Int)} {n1 d1 n2 d2 : Int} : Fl.askedC l [(n1, d1), (n2, d2)] = if Fl.validate l ≠ 0 then Fl.validate l else if (Fl.plc (Fl.len l) n1 d1 1000 && Fl.plc (Fl.len l) n2 d2 1000) then 0 else 1 := by
  unfold Fl.askedC; simp
theorem placeU_of {l : List (Int × Int)} (hok : Fl.Ok l) {a : Rat} (h0 : 0 ≤ a) (h1 : a ≤ (Fl.len l : Rat)) (hd : (a.den : Int) ≤ 1000000) : PlaceU (Fl.units l).length a :=
  ⟨h0, by rw [Fl.units_length hok]; exact h1, by omega⟩
theorem less_places {a b : Rat} {L : Int} (ha : 0 ≤ a) (hb : 0 ≤ b) (ha2 : a ≤ (L : Rat)) (hb2 : b ≤ (L : Rat)) (hL : L ≤ 140) (h0 : 0 ≤ L) (d1 : (a.den : Int) ≤ 1000000) (d2 : (b.den : Int) ≤ 1000000) : SumQ a b := by
  have c : ∀ x : Rat, x ≤ (L : Rat) → x ≤ ((140 : Nat) : Rat) := fun x h => Rat.le_trans h (by exact_mod_cast hL)
  have hd : a.den * b.den ≤ 1000000 * 1000000 := Nat.mul_le_mul (by omega) (by omega)
  exact sumQ_of ha hb 140 140 (c a ha2) (c b hb2) 1000000000000 (by omega) (by omega) (by omega) (by omega)

set_option maxRecDepth 100000 in
set_option maxHeartbeats 4000000 in
theorem rWorth_any (l : List (Int × Int)) (ao : Option Addr) (m cap : Nat) (n1 d1 n2 d2 : Int) (w : World) (hp : Pts w ao l) (hln : m = l.length) (hm : m ≤ 100000) (hn1 : n1 ≤ 9223372036854775807) (hn2 : n2 ≤ 9223372036854775807) (hn3 : -9223372036854775808 ≤ n1) (hn4 : -9223372036854775808 ≤ n2) :
    Calls Try.prog 26 #[.slice ao m cap, .agg #[.int .i64 n1, .int .i64 d1], .agg #[.int .i64 n2, .int .i64 d2]] w fun e w' => e = .returned (.tuple #[frOr (Fl.wcode l n1 d1 n2 d2) (Fl.worth l (mkRat n1 d1.toNat) (mkRat n2 d2.toNat)), .int .i64 (Fl.wcode l n1 d1 n2 d2)]) ∧ Below w.heap.size w w' := by
  have Hn := Lib.hid hln
  clear hln
  obtain ⟨C, hC⟩ : ∃ c, Fl.wcode l n1 d1 n2 d2 = c := ⟨_, rfl⟩
  rw [hC]
  have HC := Lib.hid hC
  clear hC
  have hB := below_alloc4 w (.cells #[.int .i64 n1, .int .i64 d1] 29) (.cells #[.int .i64 n2, .int .i64 d2] 29) (.cells #[.int .i64 0, .int .i64 0] 29) (.cells #[.int .i64 n1, .int .i64 d1, .int .i64 n2, .int .i64 d2] 29)
  have A2 := heap_alloc4 w (.cells #[.int .i64 n1, .int .i64 d1] 29) (.cells #[.int .i64 n2, .int .i64 d2] 29) (.cells #[.int .i64 0, .int .i64 0] 29) (.cells #[.int .i64 n1, .int .i64 d1, .int .i64 n2, .int .i64 d2] 29)
  replace hp := hp.below hB
  have HA := Lib.hid (And.intro hB A2)
  clear hB A2
  obtain ⟨v, hv⟩ : ∃ v, v = Fl.validate l := ⟨_, rfl⟩
  have hv0 : v = 0 ∨ (v != 0) = true := by by_cases h : v = 0 <;> simp [h]
  have Hv := Lib.hid hv
  clear hv
  obtain ⟨V, hV⟩ : ∃ x, x = Fl.worth l (mkRat n1 d1.toNat) (mkRat n2 d2.toNat) := ⟨_, rfl⟩
  rw [← hV]
  have HV := Lib.hid hV
  clear hV
  have HR : Hid (∀ p ∈ [(n1, d1), (n2, d2)], -9223372036854775808 ≤ p.1 ∧ p.1 ≤ 9223372036854775807) := Lib.hid (by
    intro p hp
    simp only [List.mem_cons, List.not_mem_nil, or_false] at hp
    rcases hp with rfl | rfl
    · exact ⟨hn3, hn1⟩
    · exact ⟨hn4, hn2⟩)
  have HAsk := Lib.hid (asked_two (l := l) (n1 := n1) (d1 := d1) (n2 := n2) (d2 := d2))
  go_enter Try.func26, Try.ntmps26
  go_wp2_with fail
  obtain ⟨hB, r4, r5, r6, r7⟩ := HA.out
  have hq := pts_two r7
  clear HA r7
  refine (rasked_any l [(n1, d1), (n2, d2)] _ _ _ _ _ _ _ hp Hn.out hm hq rfl (by simp) HR.out).mono ?_
  rintro e w1 ⟨rfl, hbb⟩
  replace hp := hp.below hbb
  replace r4 := heap_keep hbb r4
  replace r5 := heap_keep hbb r5
  replace r6 := heap_keep hbb r6
  replace hB := hB.trans (hbb.mono hB.size)
  clear hbb
  clear hq
  rw [HAsk.out, ← Hv.out]
  rcases hv0 with rfl | hv0
  · have hok := Fl.validate_ok.1 Hv.out.symm
    have hlb := Fl.len_bound hok.2
    have hl1 := hok.1.1
    have hl6 := hok.1.2
    rw [if_neg (by simp)]
    cases hpp : (Fl.plc (Fl.len l) n1 d1 1000 && Fl.plc (Fl.len l) n2 d2 1000) with
    | false =>
      have hc := Fl.wcode_arg (n1 := n1) (d1 := d1) (n2 := n2) (d2 := d2) Hv.out.symm (by rw [← Bool.and_assoc, hpp]; rfl)
      rw [HC.out] at hc
      subst hc
      clear hpp
      obtain ⟨⟨c0, c1⟩, f0, f1⟩ := row_fr r6
      simp only [Bool.false_eq_true, if_false]
      go_wp2
      rw [show frOr 1 V = .agg #[.int .i64 0, .int .i64 0] from rfl]
      exact bodyPost_ret (results_cell_tmp rfl _ _ _ _ _ _ _ rfl (two_cells r6 (.int .i64 0) (.int .i64 0)) Try.underlying29 rfl infoRat2) rfl ⟨rfl, below_setCell (below_setCell hB (by omega) _) (by omega) _⟩
    | true =>
      have hp12 : Fl.plc (Fl.len l) n1 d1 1000 = true ∧ Fl.plc (Fl.len l) n2 d2 1000 = true := by simpa using hpp
      clear hpp
      obtain ⟨q1, hq1, a1, a2, a3, a4, a5⟩ := Fl.plc_rat hp12.1
      obtain ⟨q2, hq2, b1, b2, b3, b4, b5⟩ := Fl.plc_rat hp12.2
      have Hp := Lib.hid hp12
      clear hp12
      have hS := less_places b3 a3 b4 a4 (by omega) (by omega) (by omega) (by omega)
      have hu := unitsOk_of hok.2 hl6
      have pu1 := placeU_of hok.2 a3 a4 (by omega)
      have pu2 := placeU_of hok.2 b3 b4 (by omega)
      have HQ := Lib.hid (And.intro hq1 hq2)
      clear hq1 hq2
      subst a1 b1 a2 b2
      obtain ⟨⟨c0, c1⟩, -, -⟩ := row_fr r4
      obtain ⟨⟨c2, c3⟩, -, -⟩ := row_fr r5
      simp only [if_true]
      go_wp2_with fail
      refine (rless_q q2 q1 _ hS).mono ?_
      rintro e w2 ⟨rfl, hbb⟩
      replace hp := hp.below hbb
      replace r4 := heap_keep hbb r4
      replace r5 := heap_keep hbb r5
      replace r6 := heap_keep hbb r6
      replace hB := hB.trans (hbb.mono hB.size)
      clear hbb
      clear c0 c1 c2 c3
      by_cases hle : q1 ≤ q2
      · have hc := Fl.wcode_ok (n1 := q1.num) (d1 := q1.den) (n2 := q2.num) (d2 := q2.den) Hv.out.symm (by rw [Hp.out.1, Hp.out.2, ← HQ.out.1, ← HQ.out.2]; simpa using hle)
        rw [HC.out] at hc
        subst hc
        have hcm : decide (q2 < q1) = false := decide_eq_false (by grind)
        rw [hcm]
        have HV2 : Hid (Fl.before (Fl.units l) q2 - Fl.before (Fl.units l) q1 = V) := Lib.hid (by rw [HV.out, ← HQ.out.1, ← HQ.out.2, Fl.worth_before hok.2 a3 hle])
        obtain ⟨⟨c0, c1⟩, -, -⟩ := row_fr r4
        obtain ⟨⟨c2, c3⟩, -, -⟩ := row_fr r5
        clear hle hcm
        go_wp2_with fail
        have hp0 : Pts w2.drew ao l := ⟨hp.cells⟩
        go_region_held3 (fun w' => w'.cell? ⟨w.heap.size, 0, none⟩ = some (.int .i64 q1.num) ∧ w'.cell? ⟨w.heap.size, 1, none⟩ = some (.int .i64 q1.den) ∧ w'.cell? ⟨w.heap.size + 1, 0, none⟩ = some (.int .i64 q2.num) ∧ w'.cell? ⟨w.heap.size + 1, 1, none⟩ = some (.int .i64 q2.den))
          (first | exact ⟨c0, c1, c2, c3⟩ | exact ⟨cell_two_other _ _ (by omega) kb.1, cell_two_other _ _ (by omega) kb.2.1, cell_two_other _ _ (by omega) kb.2.2.1, cell_two_other _ _ (by omega) kb.2.2.2⟩ | exact ka | exact kb)
          (first
            | (go_at_call 55; refine (units_any l _ _ _ _ hp0 Hn.out hok.2 hl6).mono ?_; rintro e w3 ⟨ao3, cap3, rfl, hI, hb1⟩; have ka := And.intro (keep_cell hb1 c0) (And.intro (keep_cell hb1 c1) (And.intro (keep_cell hb1 c2) (keep_cell hb1 c3))))
            | (go_at_call 65; refine (rbetween_any _ q1 q2 _ _ _ hI hu pu1 pu2).mono ?_; rintro e w4 ⟨rfl, hb2⟩; have kb := And.intro (keep_cell hb2 ka.1) (And.intro (keep_cell hb2 ka.2.1) (And.intro (keep_cell hb2 ka.2.2.1) (keep_cell hb2 ka.2.2.2))); rw [HV2.out]; replace hB := (below_drewN hB 1).trans (hb1.mono (by have := hB.size; exact this)); replace hB := hB.trans (hb2.mono hB.size); replace r6 := heap_keep hb2 (heap_keep hb1 r6); obtain ⟨⟨e0, e1⟩, f0, f1⟩ := row_fr r6))
        go_wp2
        rw [show frOr 0 V = Fr V from rfl]
        exact bodyPost_ret (results_cell_tmp rfl _ _ _ _ _ _ _ rfl (two_cells r6 (.int .i64 V.num) (.int .i64 V.den)) Try.underlying29 rfl infoRat2) rfl ⟨rfl, below_setCell (below_setCell hB (by omega) _) (by omega) _⟩
      · have hc := Fl.wcode_arg (n1 := q1.num) (d1 := q1.den) (n2 := q2.num) (d2 := q2.den) Hv.out.symm (by rw [Hp.out.1, Hp.out.2, ← HQ.out.1, ← HQ.out.2]; simpa using hle)
        rw [HC.out] at hc
        subst hc
        have hcm : decide (q2 < q1) = true := decide_eq_true (by grind)
        rw [hcm]
        clear hle hcm
        obtain ⟨⟨c0, c1⟩, f0, f1⟩ := row_fr r6
        go_wp2
        rw [show frOr 1 V = .agg #[.int .i64 0, .int .i64 0] from rfl]
        exact bodyPost_ret (results_cell_tmp rfl _ _ _ _ _ _ _ rfl (two_cells r6 (.int .i64 0) (.int .i64 0)) Try.underlying29 rfl infoRat2) rfl ⟨rfl, below_setCell (below_setCell hB (by omega) _) (by omega) _⟩
  · have hc := Fl.wcode_bad (l := l) (n1 := n1) (d1 := d1) (n2 := n2) (d2 := d2) (by rw [← Hv.out]; exact code_ne hv0)
    rw [HC.out, ← Hv.out] at hc
    subst hc
    rw [if_pos (code_ne hv0)]
    obtain ⟨⟨c0, c1⟩, f0, f1⟩ := row_fr r6
    go_wp2
    rw [frOr_no hv0]
    exact bodyPost_ret (results_cell_tmp rfl _ _ _ _ _ _ _ rfl (two_cells r6 (.int .i64 0) (.int .i64 0)) Try.underlying29 rfl infoRat2) rfl ⟨rfl, below_setCell (below_setCell hB (by omega) _) (by omega) _⟩
end Go.Proofs.Ytkpabehjehbidaa
