import Derived.Test.YtmajcccdbhbkfaaDde
namespace Go.Proofs.Ytmajcccdbhbkfaa
open Go.RowKit

theorem dpts_two {w : World} {g : Nat} {n1 d1 n2 d2 : Int} {t : TypeId} (h : w.heap[g]? = some (.cells #[.int .i64 n1, .int .i64 d1, .int .i64 n2, .int .i64 d2] t (0, 0))) : Pts w (some ⟨g, 0, none⟩) [(n1, d1), (n2, d2)] := by
  have hc := fun j => cell_of_row w g j _ _ _ h
  refine ⟨fun _ => ⟨_, 0, rfl, heap_lt h, fun i hi => ?_⟩⟩
  match i, hi with
  | 0, _ => exact ⟨hc 0, hc 1⟩
  | 1, _ => exact ⟨hc 2, hc 3⟩
theorem dmk_num_le {n : Int} {d : Nat} (hd : 0 < d) {B : Int} (h0 : 0 ≤ B) (h : n ≤ B) : (mkRat n d).num ≤ B := by
  rw [← (ratio_eq n d hd).1]
  rcases Int.le_total 0 n with hn | hn
  · exact Int.le_trans (Int.tdiv_le_self _ hn) h
  · obtain ⟨m, rfl⟩ : ∃ m : Int, n = -m := ⟨-n, by omega⟩
    rw [Int.neg_tdiv]
    have := Int.tdiv_nonneg (a := m) (b := ((Nat.gcd (-m).natAbs d : Nat) : Int)) (by omega) (by omega)
    omega
theorem dsum_num {n size : Int} {d : Nat} {S : Rat} (hd : 0 < d) (hS : S = mkRat n d + (size : Rat)) {B : Int} (h0 : 0 ≤ B) (h : n + size * (d : Int) ≤ B) : S.num ≤ B := by
  have e : (size : Rat) = mkRat size 1 := (Rat.mkRat_one _).symm
  rw [hS, e, Rat.mkRat_add_mkRat _ _ (by omega) (by omega)]
  exact dmk_num_le (by omega) h0 (by simpa using h)
theorem dear_bound {l : List (Int × Int)} {size : Int} (hC : Fl.dcode l size = 0) : 0 ≤ (Fl.dear l size).2 ∧ (Fl.dear l size).2 ≤ ((3000 : Nat) : Rat) ∧ (Fl.dear l size).2.den = 1 := by
  obtain ⟨h0, h1, h2⟩ := Fl.dcode_inv hC
  have hok := (Fl.validate_ok.1 h0).2
  have h6 := (Fl.validate_ok.1 h0).1.2
  have hlb := Fl.len_bound hok
  obtain ⟨s, rfl⟩ := Int.eq_ofNat_of_zero_le h1
  rw [Fl.dear_int hok h2]
  have hi := Fl.dearI_is (Fl.units l) s ((Fl.units l).length - s)
  have hw := Fl.win_bound hok (Fl.dearI (Fl.units l) s ((Fl.units l).length - s)).1 s
  rw [← hi.1] at hw
  refine ⟨?_, ?_, Rat.den_intCast _⟩
  · exact (Rat.intCast_le_intCast (a := 0)).2 hw.1
  · exact Rat.intCast_le_intCast.2 (show _ ≤ ((3000 : Nat) : Int) by omega)
theorem dfair {a : Rat} (h0 : 0 ≤ a.num) (h1 : a.num ≤ 35184372088832) (h2 : a.den ≤ 1073741824) : fairB (pr a) = true :=
  fairB_iff.2 ⟨by have := a.den_pos; show (1 : Int) ≤ (a.den : Int); omega, by show (a.den : Int) ≤ _; omega, h1, by show _ ≤ a.num; omega⟩
/-- What is known of a piece of the same length. -/
theorem dear_known {l : List (Int × Int)} {size n1 d1 : Int} {S : Rat} (hC : Fl.dcode l size = 0) (hS : S = mkRat n1 d1.toNat + (size : Rat)) (hw : Fl.wcode l n1 d1 S.num S.den = 0) :
    Fl.worth l (mkRat n1 d1.toNat) (mkRat S.num (S.den : Int).toNat) ≤ (Fl.dear l size).2 := by
  obtain ⟨h0, h1, h2⟩ := Fl.dcode_inv hC
  obtain ⟨x1, x2, x3, x4⟩ := Fl.wcode_inv hw
  obtain ⟨q1, hq1, z1, z2, z3, z4, z5⟩ := Fl.plc_rat x2
  obtain ⟨y1, y2⟩ := Fl.plc_amt x3
  rw [Fl.mk_self] at y2 ⊢
  obtain ⟨s, rfl⟩ := Int.eq_ofNat_of_zero_le h1
  rw [hS] at y2 ⊢
  exact Fl.dear_most (Fl.validate_ok.1 h0).2 (by rw [← hq1]; exact z3) y2

/-- What holds after some of the operations of a region, in whatever order. -/
def SDq (W0 : World) (p0 p1 p2 p3 p4 p5 p6 p7 p8 p9 p10 p11 p12 p15 p16 p17 p18 p19 p20 p21 p22 p23 p24 p25 p26 p27 p28 p29 p30 p31 p32 p33 p34 p35 p36 p37 p38 p39 p40 p41 p42 p43 p44 p45 p46 p47 p48 p49 p50 p51 p52 p53 p54 p55 p56 p57 p58 p59 p60 p61 p62 p63 p74 p75 p76 p77 p78 p79 p80 p81 p82 p83 p84 p85 p86 p87 p88 p89 p90 p91 p92 p93 p94 p95 p96 p97 p98 p99 p100 : Value) (ao : Option Addr) (n cap : Nat) (n1 d1 size x0 x1 CW : Int) (S : Rat) (L : Array Bool) (AA : Act) (W : World) : Prop :=
  ∃ (l0 l1 l2 l3 l4 l5 l6 l7 l8 l9 l10 l11 l12 : Bool) (v13 v14 v64 v65 v66 v67 v68 v69 v70 v71 v72 v73 : Value) (g10 : Nat), L = #[l0, l1, l2, l3, l4, l5, l6, l7, l8, l9, l10, l11, l12] ∧ AA = ⟨#[p0, p1, p2, p3, p4, p5, p6, p7, p8, p9, p10, p11, p12, v13, v14, p15, p16, p17, p18, p19, p20, p21, p22, p23, p24, p25, p26, p27, p28, p29, p30, p31, p32, p33, p34, p35, p36, p37, p38, p39, p40, p41, p42, p43, p44, p45, p46, p47, p48, p49, p50, p51, p52, p53, p54, p55, p56, p57, p58, p59, p60, p61, p62, p63, v64, v65, v66, v67, v68, v69, v70, v71, v72, v73, p74, p75, p76, p77, p78, p79, p80, p81, p82, p83, p84, p85, p86, p87, p88, p89, p90, p91, p92, p93, p94, p95, p96, p97, p98, p99, p100], []⟩ ∧ Below W0.heap.size W0 W ∧
    (l0 = true → v65 = .slice ao n cap) ∧ (l1 = true → v66 = .agg #[.int .i64 n1, .int .i64 d1]) ∧ (l2 = true → v67 = .agg #[.int .i64 n1, .int .i64 d1]) ∧ (l3 = true → v68 = .int .i64 size) ∧ (l4 = true → v69 = .agg #[.int .i64 size, .int .i64 1]) ∧ (l5 = true → v70 = Fr S) ∧ (l6 = true → v71 = .tuple #[.agg #[.int .i64 x0, .int .i64 x1], .int .i64 CW]) ∧ (l7 = true → v64 = .tuple #[.agg #[.int .i64 x0, .int .i64 x1], .int .i64 CW]) ∧ (l8 = true → v72 = .agg #[.int .i64 x0, .int .i64 x1]) ∧ (l9 = true → v73 = .int .i64 CW) ∧ (l10 = true → v13 = .pointer (some ⟨g10, 0, none⟩) ∧ W0.heap.size ≤ g10 ∧ ∃ c d, W.heap[g10]? = some (.cells #[c, d] 29 (0, 0))) ∧ ((l11 = true → l10 = true) ∧ (l11 = true → W.heap[g10]? = some (.cells #[.int .i64 x0, .int .i64 x1] 29 (0, 0)))) ∧ (l12 = true → v14 = .int .i64 CW)

set_option maxRecDepth 100000 in
set_option maxHeartbeats 4000000 in
theorem soilDearest_any (l : List (Int × Int)) (ao : Option Addr) (n cap : Nat) (size : Int) (n1 d1 : Int) (w : World) (hp : Pts w ao l) (hln : n = l.length) (_ : Rng size) (hn1 : Rng n1) (_ : Rng d1) :
    Calls Try.prog 11 #[.slice ao n cap, .int .i64 size, .agg #[.int .i64 n1, .int .i64 d1]] w fun e w' => e = .returned (.bool true) ∧ Below w.heap.size w w' := by
  have Hn := Lib.hid hln
  clear hln
  have hB : Below w.heap.size w (w.alloc (.cells #[.int .i64 n1, .int .i64 d1] 29)) := (Below.refl _ w).alloc (Nat.le_refl _) _
  replace hp := hp.below hB
  have r5 := heap_alloc_new w (.cells #[.int .i64 n1, .int .i64 d1] 29)
  have HA := Lib.hid (And.intro hp (And.intro r5 hB))
  clear hp r5 hB
  by_cases hlong : 100 < n
  · have hd : (decide (100 < n) || decide (100 < 0)) = true := by simp [hlong]
    go_enter Try.func11, Try.ntmps11
    go_wp2_with fail
    refine (long_any n 0 cap 0 ao none _).mono ?_
    rintro e w1 ⟨rfl, rfl⟩
    rw [hd]
    go_wp2_with fail
    refine (known_any _).mono ?_
    rintro e w1 ⟨rfl, hb⟩
    go_wp2
    go_ret
    exact ⟨rfl, HA.out.2.2.trans (hb.mono HA.out.2.2.size)⟩
  have hd : (decide (100 < n) || decide (100 < 0)) = false := by simp; omega
  have hn : n ≤ 100000 := by omega
  clear hlong
  obtain ⟨C, hC⟩ : ∃ c, Fl.dcode l size = c := ⟨_, rfl⟩
  have hC0 : C = 0 ∨ (C != 0) = true := by by_cases h : C = 0 <;> simp [h]
  have HC := Lib.hid hC
  clear hC
  obtain ⟨P, hP⟩ : ∃ q, ((Fl.dear l size).1 : Rat) = q := ⟨_, rfl⟩
  obtain ⟨Q, hQ⟩ : ∃ q, (Fl.dear l size).2 = q := ⟨_, rfl⟩
  have HPQ := Lib.hid (And.intro hP hQ)
  clear hP hQ
  obtain ⟨a0, a1, hab⟩ := frOr_pair C P
  have Hab := Lib.hid hab
  clear hab
  obtain ⟨b0, b1, hab⟩ := frOr_pair C Q
  have Hbb := Lib.hid hab
  clear hab
  go_enter Try.func11, Try.ntmps11
  go_wp2_with fail
  refine (long_any n 0 cap 0 ao none _).mono ?_
  rintro e w1 ⟨rfl, rfl⟩
  rw [hd]
  clear hd
  obtain ⟨hp, r5, hB⟩ := HA.out
  clear HA
  generalize (w.alloc (.cells #[.int .i64 n1, .int .i64 d1] 29)) = wx at hp r5 hB ⊢
  go_wp2_with fail
  refine (Dearest_any l size _ _ _ _ hp Hn.out hn).mono ?_
  rintro e w1 ⟨rfl, hbb⟩
  replace hp := hp.below hbb
  replace r5 := heap_keep hbb r5
  replace hB := hB.trans (hbb.mono hB.size)
  clear hbb
  rw [HC.out, HPQ.out.1, HPQ.out.2, Hab.out, Hbb.out]
  have hA := below_alloc2 w1 (.cells #[.int .i64 a0, .int .i64 a1] 29) (.cells #[.int .i64 b0, .int .i64 b1] 29)
  have r7 := heap_alloc2_old w1 (.cells #[.int .i64 a0, .int .i64 a1] 29) (.cells #[.int .i64 b0, .int .i64 b1] 29)
  have r8 := heap_alloc2_new w1 (.cells #[.int .i64 a0, .int .i64 a1] 29) (.cells #[.int .i64 b0, .int .i64 b1] 29)
  replace hp := hp.below hA
  replace r5 := heap_keep hA r5
  replace hB := hB.trans (hA.mono hB.size)
  clear hA
  go_wp2_with fail
  refine (rDearest_any l size _ _ _ _ hp Hn.out hn).mono ?_
  rintro e w2 ⟨rfl, hbb⟩
  replace hp := hp.below hbb
  replace r5 := heap_keep hbb r5
  replace r7 := heap_keep hbb r7
  replace r8 := heap_keep hbb r8
  replace hB := hB.trans (hbb.mono hB.size)
  clear hbb
  rw [HC.out, HPQ.out.1, HPQ.out.2, Hab.out, Hbb.out]
  have hA := below_alloc2 w2 (.cells #[.int .i64 a0, .int .i64 a1] 29) (.cells #[.int .i64 b0, .int .i64 b1] 29)
  have r10 := heap_alloc2_old w2 (.cells #[.int .i64 a0, .int .i64 a1] 29) (.cells #[.int .i64 b0, .int .i64 b1] 29)
  have r11 := heap_alloc2_new w2 (.cells #[.int .i64 a0, .int .i64 a1] 29) (.cells #[.int .i64 b0, .int .i64 b1] 29)
  replace hp := hp.below hA
  replace r5 := heap_keep hA r5
  replace r7 := heap_keep hA r7
  replace r8 := heap_keep hA r8
  replace hB := hB.trans (hA.mono hB.size)
  clear hA
  obtain ⟨⟨c50, c51⟩, -, -⟩ := row_fr r5
  obtain ⟨⟨c70, c71⟩, -, -⟩ := row_fr r7
  obtain ⟨⟨c80, c81⟩, -, -⟩ := row_fr r8
  obtain ⟨⟨c100, c101⟩, -, -⟩ := row_fr r10
  obtain ⟨⟨c110, c111⟩, -, -⟩ := row_fr r11
  have q1 := run_neq_rt a0 a1 a0 a1
  have q2 := run_neq_rt b0 b1 b0 b1
  simp only [decide_true, Bool.not_true] at q1 q2
  rcases hC0 with rfl | hC0
  · have hab := Hab.out
    rw [frOr_ok] at hab
    simp only [Fr, Value.agg.injEq, Array.mk.injEq, List.cons.injEq, Value.int.injEq, true_and, and_true] at hab
    obtain ⟨rfl, rfl⟩ := hab
    have hab := Hbb.out
    rw [frOr_ok] at hab
    simp only [Fr, Value.agg.injEq, Array.mk.injEq, List.cons.injEq, Value.int.injEq, true_and, and_true] at hab
    obtain ⟨rfl, rfl⟩ := hab
    have dQ : ¬ (Q.den : Int) < 1 := by have := Q.den_pos; omega
    go_upto_region 7 with fail
    have hAf := (Below.refl _ (w2.alloc (.cells #[.int .i64 P.num, .int .i64 P.den] 29) |>.alloc (.cells #[.int .i64 Q.num, .int .i64 Q.den] 29))).alloc (Nat.le_refl _) (.cells #[.int .i64 n1, .int .i64 d1] 29)
    clear c70 c71 c100 c101 c110 c111 q1 q2 r7 r10 r11
    generalize ((w2.alloc (.cells #[.int .i64 P.num, .int .i64 P.den] 29)).alloc (.cells #[.int .i64 Q.num, .int .i64 Q.den] 29)) = w3 at hp r5 r8 hB hAf c50 c51 c80 c81 ⊢
    by_cases hd1 : d1 < 1
    · go_wp2_with fail
      refine (known_any _).mono ?_
      rintro e w4 ⟨rfl, hb⟩
      go_wp2
      go_ret
      exact ⟨rfl, hB.trans (hb.mono hB.size)⟩
    go_wp2_with fail
    have hone := pts_one (heap_alloc_new w3 (.cells #[.int .i64 n1, .int .i64 d1] 29))
    refine (fair_any [(n1, d1)] _ 1 _ _ hone rfl (by omega)).mono ?_
    rintro e w4 ⟨rfl, hw4⟩
    rw [← hw4]
    clear hone hw4 c50 c51 c80 c81
    replace hp := hp.below hAf
    replace r5 := heap_keep hAf r5
    replace r8 := heap_keep hAf r8
    replace hB := hB.trans (hAf.mono hB.size)
    clear hAf
    generalize w3.alloc (.cells #[.int .i64 n1, .int .i64 d1] 29) = w5 at hp r5 r8 hB ⊢
    cases hf : [(n1, d1)].all fairB with
    | false =>
      go_wp2_with fail
      refine (known_any _).mono ?_
      rintro e w4 ⟨rfl, hb⟩
      go_wp2
      go_ret
      exact ⟨rfl, hB.trans (hb.mono hB.size)⟩
    | true =>
      have hfr := fairB_iff.1 (by simpa using hf)
      simp only at hfr
      obtain ⟨hv, hs0, hs1⟩ := Fl.dcode_inv HC.out
      have hlb := Fl.len_bound (Fl.validate_ok.1 hv).2
      have hl6 := (Fl.validate_ok.1 hv).1.2
      have hs120 : size ≤ 120 := by omega
      obtain ⟨dn, rfl⟩ := Int.eq_ofNat_of_zero_le (show 0 ≤ d1 by omega)
      obtain ⟨S, hS⟩ : ∃ S, S = mkRat n1 (dn : Int).toNat + (size : Rat) := ⟨_, rfl⟩
      have HS := Lib.hid hS
      have hsum : SumOk n1 dn size 1 := by
        have hm1 : size * (dn : Int) ≤ 120 * 1073741824 := Int.mul_le_mul hs120 hfr.2.1 (by omega) (by omega)
        have hm0 : 0 ≤ size * (dn : Int) := Int.mul_nonneg hs0 (by omega)
        exact ⟨by omega, by omega, by omega, by omega, by omega, by omega, by omega⟩
      have cAdd : ∀ w6 : World, Calls Try.prog 31 #[.agg #[.int .i64 n1, .int .i64 dn], .agg #[.int .i64 size, .int .i64 1]] w6 fun e w' => e = .returned (Fr S) ∧ Below w6.heap.size w6 w' := fun w6 => by
        have h := radd_any n1 dn size 1 w6 hsum
        rw [Rat.mkRat_one] at h
        rw [hS, Int.toNat_natCast]
        exact h
      obtain ⟨CW, hCW⟩ : ∃ c, Fl.wcode l n1 dn S.num S.den = c := ⟨_, rfl⟩
      obtain ⟨E, hE⟩ : ∃ q, Fl.worth l (mkRat n1 (dn : Int).toNat) (mkRat S.num (S.den : Int).toNat) = q := ⟨_, rfl⟩
      obtain ⟨x0, x1, hx⟩ := frOr_pair CW E
      have hSn : S.num ≤ 9223372036854775807 := by
        have hm1 : size * (dn : Int) ≤ 120 * 1073741824 := Int.mul_le_mul hs120 hfr.2.1 (by omega) (by omega)
        refine dsum_num (n := n1) (d := dn) (by omega) (by rw [hS, Int.toNat_natCast]) (by omega) (by omega)
      have cWo : ∀ w6 : World, Pts w6 ao l → Calls Try.prog 28 #[.slice ao n cap, .agg #[.int .i64 n1, .int .i64 dn], Fr S] w6 fun e w' => e = .returned (.tuple #[.agg #[.int .i64 x0, .int .i64 x1], .int .i64 CW]) ∧ Below w6.heap.size w6 w' := fun w6 h6 => by
        have h := Worth_any l ao n cap n1 dn S.num S.den w6 h6 Hn.out hn hn1.2 hSn
        rw [hCW, hE, hx] at h
        exact h
      have HX := Lib.hid (And.intro hCW (And.intro hE hx))
      have HV := Lib.hid (And.intro hv (And.intro hs0 hs1))
      clear hS hsum hCW hE hx hv hs0 hs1 hlb hl6 hSn
      go_upto_region 9 with fail
      obtain ⟨W0, hW0⟩ : ∃ x0, x0 = w5 := ⟨_, rfl⟩
      rw [← hW0] at hp r5 r8 hB ⊢
      clear hW0
      go_cut [13, 14] from 64 to 73 (fun s13 s14 wx => ∃ g : Nat, s14 = .int .i64 CW ∧ s13 = .pointer (some ⟨g, 0, none⟩) ∧ W0.heap.size ≤ g ∧ wx.heap[g]? = some (.cells #[.int .i64 x0, .int .i64 x1] 29 (0, 0)) ∧ Below W0.heap.size W0 wx)
      case first =>
        refine wp_region_inv (by kernel_rfl) (SDq W0 _ _ _ _ _ _ _ _ _ _ _ _ _ _ _ _ _ _ _ _ _ _ _ _ _ _ _ _ _ _ _ _ _ _ _ _ _ _ _ _ _ _ _ _ _ _ _ _ _ _ _ _ _ _ _ _ _ _ _ _ _ _ _ _ _ _ _ _ _ _ _ _ _ _ _ _ _ _ _ _ _ _ _ _ _ _ _ _ _ ao n cap n1 dn size x0 x1 CW S) ⟨false, false, false, false, false, false, false, false, false, false, false, false, false, _, _, _, _, _, _, _, _, _, _, _, _, 0, rfl, rfl, below_drewN (Below.refl _ _) 1, nofun, nofun, nofun, nofun, nofun, nofun, nofun, nofun, nofun, nofun, nofun, ⟨nofun, nofun⟩, nofun⟩ ?_ ?_
        · rintro listed AA W ⟨l0, l1, l2, l3, l4, l5, l6, l7, l8, l9, l10, l11, l12, v13, v14, v64, v65, v66, v67, v68, v69, v70, v71, v72, v73, g10, rfl, rfl, hB, h0, h1, h2, h3, h4, h5, h6, h7, h8, h9, h10, ⟨hk11, h11⟩, h12⟩ i hi
          have hm := List.mem_filter.1 hi
          have hlt : i < 13 := by simpa using hm.1
          have hm2 := hm.2
          clear hm hi
          have R5 := heap_keep hB r5
          have hpW := hp.below hB
          obtain rfl | rfl | rfl | rfl | rfl | rfl | rfl | rfl | rfl | rfl | rfl | rfl | rfl : i = 0 ∨ i = 1 ∨ i = 2 ∨ i = 3 ∨ i = 4 ∨ i = 5 ∨ i = 6 ∨ i = 7 ∨ i = 8 ∨ i = 9 ∨ i = 10 ∨ i = 11 ∨ i = 12 := by omega
          all_goals simp [Region.binds] at hm2
          all_goals clear hlt
          all_goals refine wpOp_at rfl rfl ?_
          · have Hm := Lib.hid hm2
            clear hm2
            unfold Oper.wp
            go_simp
            exact ⟨_, _, _, _, _, _, _, _, _, _, _, _, _, _, _, _, _, _, _, _, _, _, _, _, _, g10, rfl, rfl, hB, fun _ => rfl, h1, h2, h3, h4, h5, h6, h7, h8, h9, h10, ⟨hk11, h11⟩, h12⟩
          · have Hm := Lib.hid hm2
            clear hm2
            refine wp_load_row _ _ rfl _ rfl _ _ _ _ R5 Try.underlying29 rfl infoRat2 ?_
            exact ⟨_, _, _, _, _, _, _, _, _, _, _, _, _, _, _, _, _, _, _, _, _, _, _, _, _, g10, rfl, rfl, hB, h0, fun _ => rfl, h2, h3, h4, h5, h6, h7, h8, h9, h10, ⟨hk11, h11⟩, h12⟩
          · have Hm := Lib.hid hm2
            clear hm2
            refine wp_load_row _ _ rfl _ rfl _ _ _ _ R5 Try.underlying29 rfl infoRat2 ?_
            exact ⟨_, _, _, _, _, _, _, _, _, _, _, _, _, _, _, _, _, _, _, _, _, _, _, _, _, g10, rfl, rfl, hB, h0, h1, fun _ => rfl, h3, h4, h5, h6, h7, h8, h9, h10, ⟨hk11, h11⟩, h12⟩
          · have Hm := Lib.hid hm2
            clear hm2
            unfold Oper.wp
            go_simp
            exact ⟨_, _, _, _, _, _, _, _, _, _, _, _, _, _, _, _, _, _, _, _, _, _, _, _, _, g10, rfl, rfl, hB, h0, h1, h2, fun _ => rfl, h4, h5, h6, h7, h8, h9, h10, ⟨hk11, h11⟩, h12⟩
          · have d3 : l3 = true := by simp [hm2]
            have q3 := h3 d3
            subst q3
            have Hm := Lib.hid hm2
            clear hm2 d3
            unfold Oper.wp
            go_simp
            refine (dwhole size W).mono ?_
            rintro e W' ⟨rfl, hb'⟩
            exact ⟨_, _, _, _, _, _, _, _, _, _, _, _, _, _, _, _, _, _, _, _, _, _, _, _, _, g10, rfl, rfl, hB.trans (hb'.mono hB.size), h0, h1, h2, h3, fun _ => rfl, h5, h6, h7, h8, h9, fun q => let ⟨e, hn, c, d, hh⟩ := h10 q; ⟨e, hn, c, d, heap_keep hb' hh⟩, ⟨hk11, fun q => heap_keep hb' (h11 q)⟩, h12⟩
          · have d2 : l2 = true := by simp [hm2]
            have d4 : l4 = true := by simp [hm2]
            have q2 := h2 d2
            have q4 := h4 d4
            subst q2
            subst q4
            have Hm := Lib.hid hm2
            clear hm2 d2 d4
            unfold Oper.wp
            go_simp
            refine (cAdd W).mono ?_
            rintro e W' ⟨rfl, hb'⟩
            exact ⟨_, _, _, _, _, _, _, _, _, _, _, _, _, _, _, _, _, _, _, _, _, _, _, _, _, g10, rfl, rfl, hB.trans (hb'.mono hB.size), h0, h1, h2, h3, h4, fun _ => rfl, h6, h7, h8, h9, fun q => let ⟨e, hn, c, d, hh⟩ := h10 q; ⟨e, hn, c, d, heap_keep hb' hh⟩, ⟨hk11, fun q => heap_keep hb' (h11 q)⟩, h12⟩
          · have d0 : l0 = true := by simp [hm2]
            have d1 : l1 = true := by simp [hm2]
            have d5 : l5 = true := by simp [hm2]
            have q0 := h0 d0
            have q1 := h1 d1
            have q5 := h5 d5
            subst q0
            subst q1
            subst q5
            have Hm := Lib.hid hm2
            clear hm2 d0 d1 d5
            unfold Oper.wp
            go_simp
            refine (cWo W hpW).mono ?_
            rintro e W' ⟨rfl, hb'⟩
            exact ⟨_, _, _, _, _, _, _, _, _, _, _, _, _, _, _, _, _, _, _, _, _, _, _, _, _, g10, rfl, rfl, hB.trans (hb'.mono hB.size), h0, h1, h2, h3, h4, h5, fun _ => rfl, h7, h8, h9, fun q => let ⟨e, hn, c, d, hh⟩ := h10 q; ⟨e, hn, c, d, heap_keep hb' hh⟩, ⟨hk11, fun q => heap_keep hb' (h11 q)⟩, h12⟩
          · have d6 : l6 = true := by simp [hm2]
            have q6 := h6 d6
            subst q6
            have Hm := Lib.hid hm2
            clear hm2 d6
            unfold Oper.wp
            go_simp
            exact ⟨_, _, _, _, _, _, _, _, _, _, _, _, _, _, _, _, _, _, _, _, _, _, _, _, _, g10, rfl, rfl, hB, h0, h1, h2, h3, h4, h5, h6, fun _ => rfl, h8, h9, h10, ⟨hk11, h11⟩, h12⟩
          · have d7 : l7 = true := by simp [hm2]
            have q7 := h7 d7
            subst q7
            have Hm := Lib.hid hm2
            clear hm2 d7
            unfold Oper.wp
            go_simp
            exact ⟨_, _, _, _, _, _, _, _, _, _, _, _, _, _, _, _, _, _, _, _, _, _, _, _, _, g10, rfl, rfl, hB, h0, h1, h2, h3, h4, h5, h6, h7, fun _ => rfl, h9, h10, ⟨hk11, h11⟩, h12⟩
          · have d7 : l7 = true := by simp [hm2]
            have q7 := h7 d7
            subst q7
            have Hm := Lib.hid hm2
            clear hm2 d7
            unfold Oper.wp
            go_simp
            exact ⟨_, _, _, _, _, _, _, _, _, _, _, _, _, _, _, _, _, _, _, _, _, _, _, _, _, g10, rfl, rfl, hB, h0, h1, h2, h3, h4, h5, h6, h7, h8, fun _ => rfl, h10, ⟨hk11, h11⟩, h12⟩
          · have Hm := Lib.hid hm2
            clear hm2
            unfold Oper.wp
            go_simp
            have AL : Below W.heap.size W (W.alloc (.cells #[.int .i64 0, .int .i64 0] 29)) := (Below.refl _ W).alloc (Nat.le_refl _) _
            exact ⟨_, _, _, _, _, _, _, _, _, _, _, _, _, _, _, _, _, _, _, _, _, _, _, _, _, W.heap.size, rfl, rfl, hB.alloc hB.size _, h0, h1, h2, h3, h4, h5, h6, h7, h8, h9, fun _ => ⟨rfl, hB.size, _, _, heap_alloc_new W _⟩, ⟨fun _ => rfl, fun q => absurd (hk11 q) (by simp [Hm.out])⟩, h12⟩
          · have d8 : l8 = true := by simp [hm2]
            have q8 := h8 d8
            subst q8
            have qa : l10 = true := by simp [hm2]
            obtain ⟨q3, hn, c, d, hh⟩ := h10 qa
            subst q3
            have Hm := Lib.hid hm2
            clear hm2 d8
            refine wp_store_row _ _ _ rfl _ #[.int .i64 x0, .int .i64 x1] rfl rfl _ _ hh infoRat2 rfl (by simp [Value.oneCell']) ?_
            exact ⟨_, _, _, _, _, _, _, _, _, _, _, _, _, _, _, _, _, _, _, _, _, _, _, _, _, g10, rfl, rfl, below_setRow hB hn _, h0, h1, h2, h3, h4, h5, h6, h7, h8, h9, fun _ => ⟨rfl, hn, _, _, setRow_heap W _ _ _ _ _ hh⟩, ⟨fun _ => qa, fun _ => setRow_heap W _ _ _ _ _ hh⟩, h12⟩
          · have d9 : l9 = true := by simp [hm2]
            have q9 := h9 d9
            subst q9
            have Hm := Lib.hid hm2
            clear hm2 d9
            unfold Oper.wp
            go_simp
            exact ⟨_, _, _, _, _, _, _, _, _, _, _, _, _, _, _, _, _, _, _, _, _, _, _, _, _, g10, rfl, rfl, hB, h0, h1, h2, h3, h4, h5, h6, h7, h8, h9, h10, ⟨hk11, h11⟩, fun _ => rfl⟩
        · rintro listed AA W ⟨l0, l1, l2, l3, l4, l5, l6, l7, l8, l9, l10, l11, l12, v13, v14, v64, v65, v66, v67, v68, v69, v70, v71, v72, v73, g10, rfl, rfl, hB, h0, h1, h2, h3, h4, h5, h6, h7, h8, h9, h10, ⟨hk11, h11⟩, h12⟩ hr
          have hr2 := fun i hi => List.filter_eq_nil_iff.1 hr i hi
          clear hr
          have k0 := hr2 0 (by simp)
          simp [Region.binds] at k0
          subst k0
          have k1 := hr2 1 (by simp)
          simp [Region.binds] at k1
          subst k1
          have k2 := hr2 2 (by simp)
          simp [Region.binds] at k2
          subst k2
          have k3 := hr2 3 (by simp)
          simp [Region.binds] at k3
          subst k3
          have k4 := hr2 4 (by simp)
          simp [Region.binds] at k4
          subst k4
          have k5 := hr2 5 (by simp)
          simp [Region.binds] at k5
          subst k5
          have k6 := hr2 6 (by simp)
          simp [Region.binds] at k6
          subst k6
          have k7 := hr2 7 (by simp)
          simp [Region.binds] at k7
          subst k7
          have k8 := hr2 8 (by simp)
          simp [Region.binds] at k8
          subst k8
          have k9 := hr2 9 (by simp)
          simp [Region.binds] at k9
          subst k9
          have k10 := hr2 10 (by simp)
          simp [Region.binds] at k10
          subst k10
          have k11 := hr2 11 (by simp)
          simp [Region.binds] at k11
          subst k11
          have k12 := hr2 12 (by simp)
          simp [Region.binds] at k12
          subst k12
          obtain ⟨rfl, n10, -⟩ := h10 rfl
          obtain rfl := h12 rfl
          go_wp2_with fail
          go_meet
          case rel => exact ⟨g10, rfl, rfl, n10, h11 (by simp), hB⟩
      case rest =>
        obtain ⟨g13, rfl, rfl, hg13, r13, hbx⟩ := hcut
        replace hB := hB.trans (hbx.mono hB.size)
        replace r8 := heap_keep hbx r8
        clear hbx r5 hp
        obtain ⟨⟨c80, c81⟩, -, -⟩ := row_fr r8
        obtain ⟨⟨c130, c131⟩, -, -⟩ := row_fr r13
        have hCW0 : CW = 0 ∨ (CW != 0) = true := by by_cases h : CW = 0 <;> simp [h]
        rcases hCW0 with rfl | hCW0
        · have hab := HX.out.2.2
          rw [frOr_ok] at hab
          simp only [Fr, Value.agg.injEq, Array.mk.injEq, List.cons.injEq, Value.int.injEq, true_and, and_true] at hab
          obtain ⟨rfl, rfl⟩ := hab
          have kE := worth_known HX.out.1
          rw [HX.out.2.1] at kE
          have kQ := dear_bound HC.out
          rw [HPQ.out.2] at kQ
          have hle : E ≤ Q := by
            have := dear_known HC.out HS.out HX.out.1
            rw [HX.out.2.1, HPQ.out.2] at this
            exact this
          have hlt : Hid (decide (Q < E) = false) := Lib.hid (decide_eq_false (Rat.not_lt.2 hle))
          have hSQ : SumQ Q E := sumQ_of kQ.1 kE.1 3000 3000 kQ.2.1 kE.2.1 1000000000000 (by have : Q.den * E.den ≤ 1 * 1000000 := Nat.mul_le_mul (by omega) kE.2.2.1; omega) (by omega) (by omega) (by omega)
          have hQn := Fl.num_le kQ.2.1
          have hQ0 := Fl.num_nonneg kQ.1
          have hfair : Hid ([pr E, pr Q].all fairB = true) := Lib.hid (by
            simp only [List.all_cons, List.all_nil, Bool.and_true, Bool.and_eq_true]
            exact ⟨dfair kE.2.2.2.2 (by omega) (by omega), dfair hQ0 (by rw [kQ.2.2] at hQn; omega) (by omega)⟩)
          have dE : 0 < (E.den : Int) := by have := E.den_pos; omega
          have dQ2 : 0 < (Q.den : Int) := by have := Q.den_pos; omega
          have HSQ := Lib.hid hSQ
          clear kE kQ hle hSQ hQn hQ0
          go_wp2_with fail
          have hone := dpts_two (heap_alloc_new wc (.cells #[.int .i64 E.num, .int .i64 E.den, .int .i64 Q.num, .int .i64 Q.den] 29))
          have hAf := (Below.refl _ wc).alloc (Nat.le_refl _) (.cells #[.int .i64 E.num, .int .i64 E.den, .int .i64 Q.num, .int .i64 Q.den] 29)
          refine (fair_any [pr E, pr Q] _ 2 _ _ hone rfl (by omega)).mono ?_
          rintro e w6 ⟨rfl, hw6⟩
          rw [hfair.out, ← hw6]
          replace c80 := keep_cell hAf c80
          replace c81 := keep_cell hAf c81
          replace c130 := keep_cell hAf c130
          replace c131 := keep_cell hAf c131
          replace hB := hB.trans (hAf.mono hB.size)
          clear hone hw6 hAf r8 r13
          go_wp2_with fail
          refine (rless_q Q E _ HSQ.out).mono ?_
          rintro e w7 ⟨rfl, hb⟩
          rw [hlt.out]
          replace hB := hB.trans (hb.mono hB.size)
          clear hb
          go_wp2_with fail
          refine (known_any _).mono ?_
          rintro e w8 ⟨rfl, hb⟩
          go_wp2
          go_ret
          exact ⟨rfl, hB.trans (hb.mono hB.size)⟩
        · go_wp2_with fail
          refine (known_any _).mono ?_
          rintro e w4 ⟨rfl, hb⟩
          go_wp2
          go_ret
          exact ⟨rfl, hB.trans (hb.mono hB.size)⟩
  · go_wp2_with fail
    refine (known_any _).mono ?_
    rintro e w4 ⟨rfl, hb⟩
    go_wp2
    go_ret
    exact ⟨rfl, hB.trans (hb.mono hB.size)⟩
end Go.Proofs.Ytmajcccdbhbkfaa
