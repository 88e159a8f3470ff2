import Derived.Test.YtmajcccdbhbkfaaBtp
import Derived.Test.YtmajcccdbhbkfaaDde
namespace Go.Proofs.Ytmajcccdbhbkfaa
open Go.RowKit

theorem bpts_two {w : World} {g : Nat} {n1 d1 n2 d2 : Int} {t : TypeId} (h : w.heap[g]? = some (.cells #[.int .i64 n1, .int .i64 d1, .int .i64 n2, .int .i64 d2] t (0, 0))) : Pts w (some ⟨g, 0, none⟩) [(n1, d1), (n2, d2)] := by
  have hc := fun j => cell_of_row w g j _ _ _ h
  refine ⟨fun _ => ⟨_, 0, rfl, heap_lt h, fun i hi => ?_⟩⟩
  match i, hi with
  | 0, _ => exact ⟨hc 0, hc 1⟩
  | 1, _ => exact ⟨hc 2, hc 3⟩
theorem bfair {a : Rat} (h0 : 0 ≤ a.num) (h1 : a.num ≤ 35184372088832) (h2 : a.den ≤ 1073741824) : fairB (pr a) = true :=
  fairB_iff.2 ⟨by have := a.den_pos; show (1 : Int) ≤ (a.den : Int); omega, by show (a.den : Int) ≤ _; omega, h1, by show _ ≤ a.num; omega⟩
theorem better_known {f g : List (Int × Int)} {n1 d1 n2 d2 : Int} (h : Fl.bettB f g = true) (hw : Fl.wcode f n1 d1 n2 d2 = 0) :
    Fl.wcode g n1 d1 n2 d2 = 0 ∧ Fl.worth g (mkRat n1 d1.toNat) (mkRat n2 d2.toNat) ≤ Fl.worth f (mkRat n1 d1.toNat) (mkRat n2 d2.toNat) := by
  have hc : Fl.bettC f g = 0 := by
    by_cases h0 : Fl.bettC f g = 0
    · exact h0
    · rw [Fl.bettB_no h0] at h; cases h
  rw [Fl.bettB_ok hc] at h
  obtain ⟨hb, hl⟩ := Fl.bettC_inv hc
  obtain ⟨v1, v2⟩ := Fl.bothC_ok hb
  obtain ⟨x1, x2, x3, x4⟩ := Fl.wcode_inv hw
  obtain ⟨q1, hq1, z1, z2, z3, z4, z5⟩ := Fl.plc_rat x2
  refine ⟨Fl.wcode_ok v2 ?_, Fl.over_worth (Fl.validate_ok.1 v1).2 (Fl.validate_ok.1 v2).2 hl h (by rw [← hq1]; exact z3) x4⟩
  rw [← hl, x2, x3, decide_eq_true x4]
  rfl

set_option maxRecDepth 100000 in
set_option maxHeartbeats 4000000 in
theorem soilBetter_any (f : List (Int × Int)) (ao : Option Addr) (n cap : Nat) (g : List (Int × Int)) (ao2 : Option Addr) (m cap2 : Nat) (n1 d1 n2 d2 : Int) (w : World) (hp : Pts w ao f) (hln : n = f.length) (hp2 : Pts w ao2 g) (hlm : m = g.length) (hn1 : Rng n1) (_ : Rng d1) (hn2 : Rng n2) (_ : Rng d2) :
    Calls Try.prog 16 #[.slice ao n cap, .slice ao2 m cap2, .agg #[.int .i64 n1, .int .i64 d1, .int .i64 n2, .int .i64 d2]] w fun e w' => e = .returned (.bool true) ∧ Below w.heap.size w w' := by
  have Hn := Lib.hid hln
  have Hm := Lib.hid hlm
  clear hln hlm
  have hB : Below w.heap.size w (w.alloc (.cells #[.int .i64 n1, .int .i64 d1, .int .i64 n2, .int .i64 d2] 35)) := (Below.refl _ w).alloc (Nat.le_refl _) _
  replace hp := hp.below hB
  replace hp2 := hp2.below hB
  have r0 := heap_alloc_new w (.cells #[.int .i64 n1, .int .i64 d1, .int .i64 n2, .int .i64 d2] 35)
  have HA := Lib.hid (And.intro hp (And.intro hp2 (And.intro r0 hB)))
  clear hp hp2 r0 hB
  by_cases hlong : 100 < n ∨ 100 < m
  · have hd : (decide (100 < n) || decide (100 < m)) = true := by simpa using hlong
    clear hlong
    go_enter Try.func16, Try.ntmps16
    go_wp2_with fail
    refine (long_any n m cap cap2 ao ao2 _).mono ?_
    rintro e w1 ⟨rfl, rfl⟩
    rw [hd]
    go_wp2_with fail
    refine (known_any _).mono ?_
    rintro e w1 ⟨rfl, hb⟩
    go_wp2
    go_ret
    exact ⟨rfl, HA.out.2.2.2.trans (hb.mono HA.out.2.2.2.size)⟩
  have hd : (decide (100 < n) || decide (100 < m)) = false := by simp; omega
  have hn : n ≤ 100000 := by omega
  have hm : m ≤ 100000 := by omega
  clear hlong
  obtain ⟨BB, hBB⟩ : ∃ b, Fl.bettB f g = b := ⟨_, rfl⟩
  obtain ⟨C, hC⟩ : ∃ b, Fl.bettC f g = b := ⟨_, rfl⟩
  have HBC := Lib.hid (And.intro hBB hC)
  clear hBB hC
  obtain ⟨CF, hCF⟩ : ∃ b, Fl.wcode f n1 d1 n2 d2 = b := ⟨_, rfl⟩
  obtain ⟨CG, hCG⟩ : ∃ b, Fl.wcode g n1 d1 n2 d2 = b := ⟨_, rfl⟩
  have hCF0 : CF = 0 ∨ (CF != 0) = true := by by_cases h : CF = 0 <;> simp [h]
  have HCC := Lib.hid (And.intro hCF hCG)
  clear hCF hCG
  obtain ⟨E, hE⟩ : ∃ b, Fl.worth f (mkRat n1 d1.toNat) (mkRat n2 d2.toNat) = b := ⟨_, rfl⟩
  obtain ⟨Q, hQ⟩ : ∃ b, Fl.worth g (mkRat n1 d1.toNat) (mkRat n2 d2.toNat) = b := ⟨_, rfl⟩
  have HEQ := Lib.hid (And.intro hE hQ)
  clear hE hQ
  obtain ⟨a0, a1, hab⟩ := frOr_pair CF E
  have Hab := Lib.hid hab
  clear hab
  obtain ⟨b0, b1, hab⟩ := frOr_pair CG Q
  have Hbb := Lib.hid hab
  clear hab
  go_enter Try.func16, Try.ntmps16
  go_wp2_with fail
  refine (long_any n m cap cap2 ao ao2 _).mono ?_
  rintro e w1 ⟨rfl, rfl⟩
  rw [hd]
  clear hd
  obtain ⟨hp, hp2, r0, hB⟩ := HA.out
  clear HA
  generalize (w.alloc (.cells #[.int .i64 n1, .int .i64 d1, .int .i64 n2, .int .i64 d2] 35)) = wx at hp hp2 r0 hB ⊢
  have c0 := cell_of_row wx _ 0 _ _ _ r0
  have c1 := cell_of_row wx _ 1 _ _ _ r0
  have c2 := cell_of_row wx _ 2 _ _ _ r0
  have c3 := cell_of_row wx _ 3 _ _ _ r0
  simp at c0 c1 c2 c3
  clear r0
  go_wp2_with fail
  refine (Better_any f g _ _ _ _ _ _ _ hp Hn.out hn hp2 Hm.out hm).mono ?_
  rintro e w1 ⟨rfl, hbb⟩
  replace hp := hp.below hbb
  replace hp2 := hp2.below hbb
  replace c0 := keep_cell hbb c0
  replace c1 := keep_cell hbb c1
  replace c2 := keep_cell hbb c2
  replace c3 := keep_cell hbb c3
  replace hB := hB.trans (hbb.mono hB.size)
  clear hbb
  rw [HBC.out.1, HBC.out.2]
  go_wp2_with fail
  refine (rBetter_any f g _ _ _ _ _ _ _ hp Hn.out hn hp2 Hm.out hm).mono ?_
  rintro e w2 ⟨rfl, hbb⟩
  replace hp := hp.below hbb
  replace hp2 := hp2.below hbb
  replace c0 := keep_cell hbb c0
  replace c1 := keep_cell hbb c1
  replace c2 := keep_cell hbb c2
  replace c3 := keep_cell hbb c3
  replace hB := hB.trans (hbb.mono hB.size)
  clear hbb
  rw [HBC.out.1, HBC.out.2]
  go_wp2_with fail
  refine (Worth_any f _ _ _ n1 d1 n2 d2 _ hp Hn.out hn hn1.2 hn2.2).mono ?_
  rintro e w3 ⟨rfl, hbb⟩
  replace hp := hp.below hbb
  replace hp2 := hp2.below hbb
  replace c0 := keep_cell hbb c0
  replace c1 := keep_cell hbb c1
  replace c2 := keep_cell hbb c2
  replace c3 := keep_cell hbb c3
  replace hB := hB.trans (hbb.mono hB.size)
  clear hbb
  rw [HCC.out.1, HEQ.out.1, Hab.out]
  have hA := (Below.refl _ w3).alloc (Nat.le_refl _) (.cells #[.int .i64 a0, .int .i64 a1] 29)
  have r11 := heap_alloc_new w3 (.cells #[.int .i64 a0, .int .i64 a1] 29)
  replace hp := hp.below hA
  replace hp2 := hp2.below hA
  replace c0 := keep_cell hA c0
  replace c1 := keep_cell hA c1
  replace c2 := keep_cell hA c2
  replace c3 := keep_cell hA c3
  replace hB := hB.trans (hA.mono hB.size)
  clear hA
  go_wp2_with fail
  refine (Worth_any g _ _ _ n1 d1 n2 d2 _ hp2 Hm.out hm hn1.2 hn2.2).mono ?_
  rintro e w4 ⟨rfl, hbb⟩
  replace hp := hp.below hbb
  replace hp2 := hp2.below hbb
  replace r11 := heap_keep hbb r11
  replace hB := hB.trans (hbb.mono hB.size)
  clear hbb
  rw [HCC.out.2, HEQ.out.2, Hbb.out]
  have hA := (Below.refl _ w4).alloc (Nat.le_refl _) (.cells #[.int .i64 b0, .int .i64 b1] 29)
  have r13 := heap_alloc_new w4 (.cells #[.int .i64 b0, .int .i64 b1] 29)
  replace hp := hp.below hA
  replace hp2 := hp2.below hA
  replace r11 := heap_keep hA r11
  replace hB := hB.trans (hA.mono hB.size)
  clear hA hp hp2 c0 c1 c2 c3
  cases BB with
  | false =>
    go_wp2_with fail
    refine (known_any _).mono ?_
    rintro e w5 ⟨rfl, hb⟩
    go_wp2
    go_ret
    exact ⟨rfl, hB.trans (hb.mono hB.size)⟩
  | true =>
    rcases hCF0 with rfl | hCF0
    · have hbk := better_known HBC.out.1 HCC.out.1
      have hcg : CG = 0 := HCC.out.2.symm.trans hbk.1
      subst hcg
      have kE := worth_known HCC.out.1
      have kQ := worth_known HCC.out.2
      have hle := hbk.2
      rw [HEQ.out.1] at kE
      rw [HEQ.out.2] at kQ
      rw [HEQ.out.1, HEQ.out.2] at hle
      have hab := Hab.out
      rw [frOr_ok] at hab
      simp only [Fr, Value.agg.injEq, Array.mk.injEq, List.cons.injEq, Value.int.injEq, true_and, and_true] at hab
      obtain ⟨rfl, rfl⟩ := hab
      have hab := Hbb.out
      rw [frOr_ok] at hab
      simp only [Fr, Value.agg.injEq, Array.mk.injEq, List.cons.injEq, Value.int.injEq, true_and, and_true] at hab
      obtain ⟨rfl, rfl⟩ := hab
      have hlt : Hid (decide (E < Q) = false) := Lib.hid (decide_eq_false (Rat.not_lt.2 hle))
      have hSQ : SumQ E Q := sumQ_of kE.1 kQ.1 3000 3000 kE.2.1 kQ.2.1 1000000000000 (by have : E.den * Q.den ≤ 1000000 * 1000000 := Nat.mul_le_mul kE.2.2.1 kQ.2.2.1; omega) (by omega) (by omega) (by omega)
      have hfair : Hid ([pr E, pr Q].all fairB = true) := Lib.hid (by
        simp only [List.all_cons, List.all_nil, Bool.and_true, Bool.and_eq_true]
        exact ⟨bfair kE.2.2.2.2 (by omega) (by omega), bfair kQ.2.2.2.2 (by omega) (by omega)⟩)
      have dE : 0 < (E.den : Int) := by have := E.den_pos; omega
      have dQ : 0 < (Q.den : Int) := by have := Q.den_pos; omega
      have HSQ := Lib.hid hSQ
      clear kE kQ hle hSQ hbk
      go_upto_region 11 with fail
      generalize w4.alloc (.cells #[.int .i64 Q.num, .int .i64 Q.den] 29) = w6 at r11 r13 hB ⊢
      obtain ⟨⟨c80, c81⟩, -, -⟩ := row_fr r11
      obtain ⟨⟨c130, c131⟩, -, -⟩ := row_fr r13
      go_wp2_with fail
      have hone := bpts_two (heap_alloc_new w6 (.cells #[.int .i64 E.num, .int .i64 E.den, .int .i64 Q.num, .int .i64 Q.den] 29))
      have hAf := (Below.refl _ w6).alloc (Nat.le_refl _) (.cells #[.int .i64 E.num, .int .i64 E.den, .int .i64 Q.num, .int .i64 Q.den] 29)
      refine (fair_any [pr E, pr Q] _ 2 _ _ hone rfl (by omega)).mono ?_
      rintro e w7 ⟨rfl, hw6⟩
      rw [hfair.out, ← hw6]
      replace c80 := keep_cell hAf c80
      replace c81 := keep_cell hAf c81
      replace c130 := keep_cell hAf c130
      replace c131 := keep_cell hAf c131
      replace hB := hB.trans (hAf.mono hB.size)
      clear hone hw6 hAf r11 r13
      go_wp2_with fail
      refine (rless_q E Q _ HSQ.out).mono ?_
      rintro e w8 ⟨rfl, hb⟩
      rw [hlt.out]
      replace hB := hB.trans (hb.mono hB.size)
      clear hb
      go_wp2_with fail
      refine (known_any _).mono ?_
      rintro e w9 ⟨rfl, hb⟩
      go_wp2
      go_ret
      exact ⟨rfl, hB.trans (hb.mono hB.size)⟩
    · go_wp2_with fail
      refine (known_any _).mono ?_
      rintro e w5 ⟨rfl, hb⟩
      go_wp2
      go_ret
      exact ⟨rfl, hB.trans (hb.mono hB.size)⟩
end Go.Proofs.Ytmajcccdbhbkfaa
