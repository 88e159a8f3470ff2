import Derived.Test.YtkpabehjehbidaaReq
import Derived.Test.YtkpabehjehbidaaLaw7
namespace Go.Proofs.Ytkpabehjehbidaa
open Go.RowKit

theorem eqL_fair {l : List (Int × Int)} {p : Int} (h : Fl.eqC l p = 0) : ((Fl.eqL l p.toNat).map pr).all fairB = true ∧ ∀ k, k + 1 < (Fl.eqL l p.toNat).length → SumQ ((Fl.eqL l p.toNat).getD (k + 1) 0) ((Fl.eqL l p.toNat).getD k 0) ∧ ¬ (Fl.eqL l p.toNat).getD (k + 1) 0 < (Fl.eqL l p.toNat).getD k 0 := by
  obtain ⟨h1, h2, h3⟩ := Fl.eqC_ok h
  obtain ⟨⟨-, h6⟩, hok⟩ := Fl.validate_ok.1 h1
  have hlb := Fl.len_bound hok
  have e2 : (Fl.eqL l p.toNat).length = p.toNat - 1 := by unfold Fl.eqL; simp
  obtain ⟨f1, f2⟩ := Fl.eqL_facts hok h6 (p := p.toNat) (by omega) (by omega)
  constructor
  · rw [List.all_eq_true]
    intro c hc
    simp only [List.mem_map] at hc
    obtain ⟨q, hq, rfl⟩ := hc
    obtain ⟨k, hk, rfl⟩ := List.getElem_of_mem hq
    obtain ⟨q0, q1, q2⟩ := f1 k (by omega)
    rw [List.getD_eq_getElem?_getD, List.getElem?_eq_getElem hk] at q0 q1 q2
    simp only [Option.getD_some] at q0 q1 q2
    have e : (Fl.eqL l p.toNat)[k] ≤ ((1000 : Nat) : Rat) := Rat.le_trans q1 (Rat.intCast_le_intCast.2 (by omega))
    have hn := Fl.num_le e
    have hn0 := Fl.num_nonneg q0
    have hd := ((Fl.eqL l p.toNat)[k]).den_pos
    exact fairB_iff.2 ⟨by show (1 : Int) ≤ (((Fl.eqL l p.toNat)[k]).den : Int); omega, by show (((Fl.eqL l p.toNat)[k]).den : Int) ≤ _; omega, by show ((Fl.eqL l p.toNat)[k]).num ≤ _; omega, by show _ ≤ ((Fl.eqL l p.toNat)[k]).num; omega⟩
  · intro k hk
    obtain ⟨q0, q1, q2⟩ := f1 k (by omega)
    obtain ⟨r0, r1, r2⟩ := f1 (k + 1) (by omega)
    have := f2 k (by omega)
    exact ⟨less_places (L := Fl.len l) r0 q0 r1 q1 (by omega) (by omega) (by omega) (by omega), Rat.not_lt.2 this⟩

set_option maxRecDepth 100000 in
set_option maxHeartbeats 8000000 in
theorem soilEquals_any (l : List (Int × Int)) (ao : Option Addr) (n cap : Nat) (p : Int) (w : World) (hp : Pts w ao l) (hln : n = l.length) (_ : Rng p) :
    Calls Try.prog 10 #[.slice ao n cap, .int .i64 p] w fun e w' => e = .returned (.bool true) ∧ Below w.heap.size w w' := by
  have Hn := Lib.hid hln
  clear hln
  have hB := Below.refl w.heap.size w
  by_cases hlong : 100 < n
  · have hd : (decide (100 < n) || decide (100 < 0)) = true := by simp [hlong]
    go_enter Try.func10, Try.ntmps10
    go_wp2_with fail
    refine (long_any n 0 cap 0 ao none _).mono ?_
    rintro e w1 ⟨rfl, rfl⟩
    rw [hd]
    go_wp2_with fail
    refine (known_any _).mono ?_
    rintro e w1 ⟨rfl, hb⟩
    go_wp2
    go_ret
    exact ⟨rfl, hb⟩
  · have hd : (decide (100 < n) || decide (100 < 0)) = false := by simp; omega
    have hn : n ≤ 100000 := by omega
    clear hlong
    obtain ⟨C, hC⟩ : ∃ c, Fl.eqC l p = c := ⟨_, rfl⟩
    have hC0 : C = 0 ∨ (C != 0) = true := by by_cases h : C = 0 <;> simp [h]
    have HC := Lib.hid hC
    clear hC
    go_enter Try.func10, Try.ntmps10
    go_wp2_with fail
    refine (long_any n 0 cap 0 ao none _).mono ?_
    rintro e w1 ⟨rfl, rfl⟩
    rw [hd]
    clear hd
    go_wp2_with fail
    refine (Equal_any l p _ _ _ _ hp Hn.out hn).mono ?_
    rintro e w1 ⟨⟨v1, rfl, M1⟩, hb1⟩
    replace hp := hp.below hb1
    replace hB := hB.trans (hb1.mono hB.size)
    clear hb1
    rw [HC.out] at M1 ⊢
    go_wp2_with fail
    refine (rEqual_any l p _ _ _ _ hp Hn.out hn).mono ?_
    rintro e w2 ⟨⟨v2, rfl, M2⟩, hb2⟩
    replace hp := hp.below hb2
    replace M1 := M1.below hb2
    replace hB := hB.trans (hb2.mono hB.size)
    clear hb2
    rw [HC.out] at M2 ⊢
    obtain ⟨X, hX⟩ : ∃ x, x = (if C = 0 then Fl.eqL l p.toNat else []) := ⟨_, rfl⟩
    have hXm : (if C = 0 then (Fl.eqL l p.toNat).map pr else []) = X.map pr := by rw [hX]; split <;> rfl
    obtain ⟨a1, cpX, rfl, -, P1⟩ := M1.pts
    obtain ⟨a2, cpY, rfl, -, P2⟩ := M2.pts
    clear M1 M2
    rw [hXm] at P1 P2 ⊢
    have hXf : (X.map pr).all fairB = true ∧ ∀ k, k + 1 < X.length → SumQ (X.getD (k + 1) 0) (X.getD k 0) ∧ ¬ X.getD (k + 1) 0 < X.getD k 0 := by
      rw [hX]; split
      · rename_i h0; exact eqL_fair (HC.out.trans h0)
      · exact ⟨rfl, fun k hk => by simp at hk⟩
    have hXl : (X.map pr).length ≤ 8 := by
      rw [List.length_map, hX]; split
      · rename_i h0
        have := Fl.eqC_ok (HC.out.trans h0)
        unfold Fl.eqL
        rw [List.length_map, List.length_range]; omega
      · simp
    obtain ⟨r, hr⟩ : ∃ r, r = (X.map pr).length := ⟨_, rfl⟩
    rw [← hr] at hXl ⊢
    have Hr := Lib.hid hr
    have HX := Lib.hid hXf
    clear hX hXm hXf hr
    go_wp2_with fail
    refine (sameRats_any (X.map pr) (X.map pr) _ _ _ _ _ _ _ P1 P2 Hr.out Hr.out (by omega) (by omega)).mono ?_
    rintro e w3 ⟨rfl, hb3⟩
    rw [decide_eq_true rfl]
    replace P1 := P1.below hb3
    replace hB := hB.trans (hb3.mono hB.size)
    clear hb3 P2 hp
    have HP1 := Lib.hid P1
    clear P1
    have hs3 := hB.size
    go_wp2
    go_loopw [9] (fun i wr => ∃ (k j : Nat), Hid (j = k + 1) ∧ 1 ≤ j ∧ j ≤ 9 ∧ i = .int .i64 j ∧ Below w3.heap.size w3 wr) (fun i _ => 20 - (intOf i).toNat)
    case atStart => exact ⟨0, 1, Lib.hid rfl, by omega, by omega, rfl, Below.refl _ _⟩
    case round =>
      obtain ⟨k, j, Hj, hj1, hj9, rfl, hb⟩ := hrel
      by_cases hlt : j < r
      · have hj := Hj.out
        have hrl : r = X.length := by rw [Hr.out, List.length_map]
        obtain ⟨b, off, rfl, hbs, c0, c1⟩ := pts_pr HP1.out (show j < X.length by omega)
        obtain ⟨b2, off2, e2, hbs2, c2, c3⟩ := pts_pr HP1.out (show k < X.length by omega)
        simp only [Option.some.injEq, Addr.mk.injEq, and_true] at e2
        obtain ⟨rfl, rfl⟩ := e2
        obtain ⟨hsq, hnl⟩ := HX.out.2 k (by omega)
        rw [← hj] at hsq hnl
        have hfr := HX.out.1
        obtain ⟨q, hq⟩ : ∃ q, q = X.getD j 0 := ⟨_, rfl⟩
        obtain ⟨u, hu⟩ : ∃ q, q = X.getD k 0 := ⟨_, rfl⟩
        rw [← hq] at c0 c1 hsq hnl
        rw [← hu] at c2 c3 hsq hnl
        replace c0 := keep_cell hb c0
        replace c1 := keep_cell hb c1
        replace c2 := keep_cell hb c2
        replace c3 := keep_cell hb c3
        obtain ⟨D, hD⟩ : ∃ D : Int, D = (q.den : Int) := ⟨_, rfl⟩
        obtain ⟨E, hE⟩ : ∃ D : Int, D = (u.den : Int) := ⟨_, rfl⟩
        rw [← hD] at c1
        rw [← hE] at c3
        have y5 : decide (D < 1) = false := decide_eq_false (by have := q.den_pos; omega)
        have y6 : decide (E < 1) = false := decide_eq_false (by have := u.den_pos; omega)
        have y1 : IntKind.i64.wrap ((j : Int) - 1) = (k : Int) := (IntWalk.i64_in _ (by omega)).trans (by omega)
        have y3 : (j : Int) < (r : Int) := by omega
        have y4 : (k : Int) < (r : Int) := by omega
        have hlf : decide (q < u) = false := decide_eq_false hnl
        have HS : Hid (∀ w, Calls Try.prog 41 #[.agg #[.int .i64 q.num, .int .i64 D], .agg #[.int .i64 u.num, .int .i64 E]] w fun e w' => e = .returned (.bool false) ∧ Below w.heap.size w w') := Lib.hid (by rw [hD, hE, ← hlf]; exact fun w => rless_q q u w hsq)
        have HF : Hid (∀ w', Below w3.heap.size w3 w' → Calls Try.prog 27 #[.slice (some ⟨b, off, none⟩) r cpX] w' fun e w'' => e = .returned (.bool true) ∧ w' = w'') := Lib.hid (by
          intro w' hw'
          have := fair_any (X.map pr) (some ⟨b, off, none⟩) r cpX w' (HP1.out.below hw') Hr.out (by omega)
          rw [hfr] at this
          exact this)
        have Hj2 : Hid (j + 1 = k + 1 + 1) := Lib.hid (by omega)
        have hj10 : j + 1 ≤ 9 := by omega
        clear hj hrl hsq hnl hfr hq hu hD hE hlf
        go_wp2_with fail
        go_region_held3 (fun w' => w'.cell? ⟨b, off + j * 2, none⟩ = some (.int .i64 q.num) ∧ w'.cell? ⟨b, off + j * 2 + 1, none⟩ = some (.int .i64 D) ∧ w'.cell? ⟨b, off + k * 2, none⟩ = some (.int .i64 u.num) ∧ w'.cell? ⟨b, off + k * 2 + 1, none⟩ = some (.int .i64 E))
          (first | exact ⟨c0, c1, c2, c3⟩ | exact ka)
          (first
            | (go_at_call 27; refine (HF.out _ (below_drewN hb 1)).mono ?_; rintro e w8 ⟨rfl, rfl⟩)
            | (go_at_call 41; refine (HS.out _).mono ?_; rintro e w9 ⟨rfl, hb9⟩; have ka := And.intro (keep_cell hb9 c0) (And.intro (keep_cell hb9 c1) (And.intro (keep_cell hb9 c2) (keep_cell hb9 c3))); have hbc := (below_drewN hb 1).trans (hb9.mono (by have := hb.size; exact this))))
        go_wp2
        go_roundw
        case rel => exact ⟨k + 1, j + 1, Hj2, by omega, hj10, by go_num, hbc⟩
        case measure => simp [intOf]; omega
      · have y4 : ¬ (j : Int) < (r : Int) := by omega
        have hB5 := hB.trans (hb.mono hs3)
        go_wp2_with fail
        refine (known_any _).mono ?_
        rintro e w9 ⟨rfl, hb9⟩
        go_wp2
        go_ret
        exact ⟨rfl, hB5.trans (hb9.mono hB5.size)⟩
end Go.Proofs.Ytkpabehjehbidaa
