import Derived.Test.YtmajcccdbhbkfaaRsm
import Derived.Test.YtmajcccdbhbkfaaSfd
namespace Go.Proofs.Ytmajcccdbhbkfaa
open Go.RowKit

theorem zmade_pts {w : World} {base : Nat} {v : Value} {c : Int} {L : List (Int × Int)} (h : ZMade w base v c L) : ∃ ao cap, v = .slice ao (if c = 0 then L else []).length cap ∧ Pts w ao (if c = 0 then L else []) := by
  rcases h with ⟨rfl, h⟩ | ⟨hc, rfl⟩
  · rw [if_pos rfl]
    obtain ⟨ao, cap, e, -, h2⟩ := own_pts2 h rfl
    exact ⟨ao, cap, e, h2⟩
  · rw [if_neg hc]
    exact ⟨none, 0, rfl, ⟨fun h => absurd h (by simp)⟩⟩
theorem spts_three {w : World} {g : Nat} {a b c : Rat} {t : TypeId} (h : w.heap[g]? = some (.cells #[.int .i64 a.num, .int .i64 a.den, .int .i64 b.num, .int .i64 b.den, .int .i64 c.num, .int .i64 c.den] t (0, 0))) : Pts w (some ⟨g, 0, none⟩) [pr a, pr b, pr c] := by
  have hc := fun j => cell_of_row w g j _ _ _ h
  refine ⟨fun _ => ⟨_, 0, rfl, heap_lt h, fun i hi => ?_⟩⟩
  match i, hi with
  | 0, _ => exact ⟨hc 0, hc 1⟩
  | 1, _ => exact ⟨hc 2, hc 3⟩
  | 2, _ => exact ⟨hc 4, hc 5⟩
theorem sfair {a : Rat} (h0 : 0 ≤ a.num) (h1 : a.num ≤ 35184372088832) (h2 : a.den ≤ 1073741824) : fairB (pr a) = true :=
  fairB_iff.2 ⟨by have := a.den_pos; show (1 : Int) ≤ (a.den : Int); omega, by show (a.den : Int) ≤ _; omega, h1, by show _ ≤ a.num; omega⟩
theorem sum_known {f g : List (Int × Int)} {n1 d1 n2 d2 : Int} (h : Fl.sumC f g = 0) (hw : Fl.wcode f n1 d1 n2 d2 = 0) :
    Fl.wcode g n1 d1 n2 d2 = 0 ∧ Fl.wcode (Fl.sumF f g) n1 d1 n2 d2 = 0 ∧ Fl.worth f (mkRat n1 d1.toNat) (mkRat n2 d2.toNat) + Fl.worth g (mkRat n1 d1.toNat) (mkRat n2 d2.toNat) = Fl.worth (Fl.sumF f g) (mkRat n1 d1.toNat) (mkRat n2 d2.toNat) := by
  obtain ⟨hb, -, -⟩ := Fl.sumC_inv h
  obtain ⟨hbo, hl⟩ := Fl.bettC_inv hb
  obtain ⟨v1, v2⟩ := Fl.bothC_ok hbo
  obtain ⟨s1, s2⟩ := Fl.sum_valid h
  obtain ⟨x1, x2, x3, x4⟩ := Fl.wcode_inv hw
  obtain ⟨q1, hq1, z1, z2, z3, z4, z5⟩ := Fl.plc_rat x2
  refine ⟨Fl.wcode_ok v2 ?_, Fl.wcode_ok s1 ?_, Fl.sum_worth h (by rw [← hq1]; exact z3) x4⟩
  · rw [← hl, x2, x3, decide_eq_true x4]; rfl
  · rw [s2, x2, x3, decide_eq_true x4]; rfl

set_option maxRecDepth 100000 in
set_option maxHeartbeats 4000000 in
theorem soilSums_any (f : List (Int × Int)) (ao : Option Addr) (n cap : Nat) (g : List (Int × Int)) (ao2 : Option Addr) (m cap2 : Nat) (n1 d1 n2 d2 : Int) (w : World) (hp : Pts w ao f) (hln : n = f.length) (hp2 : Pts w ao2 g) (hlm : m = g.length) (hn1 : Rng n1) (_ : Rng d1) (hn2 : Rng n2) (_ : Rng d2) :
    Calls Try.prog 15 #[.slice ao n cap, .slice ao2 m cap2, .agg #[.int .i64 n1, .int .i64 d1, .int .i64 n2, .int .i64 d2]] w fun e w' => e = .returned (.bool true) ∧ Below w.heap.size w w' := by
  have Hn := Lib.hid hln
  have Hm := Lib.hid hlm
  clear hln hlm
  have hB : Below w.heap.size w (w.alloc (.cells #[.int .i64 n1, .int .i64 d1, .int .i64 n2, .int .i64 d2] 35)) := (Below.refl _ w).alloc (Nat.le_refl _) _
  replace hp := hp.below hB
  replace hp2 := hp2.below hB
  have r0 := heap_alloc_new w (.cells #[.int .i64 n1, .int .i64 d1, .int .i64 n2, .int .i64 d2] 35)
  have HA := Lib.hid (And.intro hp (And.intro hp2 (And.intro r0 hB)))
  clear hp hp2 r0 hB
  by_cases hlong : 100 < n ∨ 100 < m
  · have hd : (decide (100 < n) || decide (100 < m)) = true := by simpa using hlong
    clear hlong
    go_enter Try.func15, Try.ntmps15
    go_wp2_with fail
    refine (long_any n m cap cap2 ao ao2 _).mono ?_
    rintro e w1 ⟨rfl, rfl⟩
    rw [hd]
    go_wp2_with fail
    refine (known_any _).mono ?_
    rintro e w1 ⟨rfl, hb⟩
    go_wp2
    go_ret
    exact ⟨rfl, HA.out.2.2.2.trans (hb.mono HA.out.2.2.2.size)⟩
  have hd : (decide (100 < n) || decide (100 < m)) = false := by simp; omega
  have hn : n ≤ 100000 := by omega
  have hm : m ≤ 100000 := by omega
  clear hlong
  obtain ⟨SC, hSC⟩ : ∃ b, Fl.sumC f g = b := ⟨_, rfl⟩
  have hSC0 : SC = 0 ∨ (SC != 0) = true := by by_cases h : SC = 0 <;> simp [h]
  have HSC := Lib.hid hSC
  clear hSC
  obtain ⟨L, hL⟩ : ∃ l, l = (if SC = 0 then Fl.sumF f g else []) := ⟨_, rfl⟩
  have hL6 : L.length ≤ 100000 := by
    rw [hL]; split
    · rename_i h0
      have := (Fl.sumC_inv (HSC.out.trans h0)).2.2
      omega
    · simp
  have HL := Lib.hid hL
  obtain ⟨CF, hCF⟩ : ∃ b, Fl.wcode f n1 d1 n2 d2 = b := ⟨_, rfl⟩
  obtain ⟨CG, hCG⟩ : ∃ b, Fl.wcode g n1 d1 n2 d2 = b := ⟨_, rfl⟩
  obtain ⟨CK, hCK⟩ : ∃ b, Fl.wcode L n1 d1 n2 d2 = b := ⟨_, rfl⟩
  have hCF0 : CF = 0 ∨ (CF != 0) = true := by by_cases h : CF = 0 <;> simp [h]
  have HCC := Lib.hid (And.intro hCF (And.intro hCG hCK))
  clear hCF hCG hCK
  obtain ⟨E, hE⟩ : ∃ b, Fl.worth f (mkRat n1 d1.toNat) (mkRat n2 d2.toNat) = b := ⟨_, rfl⟩
  obtain ⟨Q, hQ⟩ : ∃ b, Fl.worth g (mkRat n1 d1.toNat) (mkRat n2 d2.toNat) = b := ⟨_, rfl⟩
  obtain ⟨K, hK⟩ : ∃ b, Fl.worth L (mkRat n1 d1.toNat) (mkRat n2 d2.toNat) = b := ⟨_, rfl⟩
  have HEQ := Lib.hid (And.intro hE (And.intro hQ hK))
  clear hE hQ hK
  obtain ⟨a0, a1, hab⟩ := frOr_pair CF E
  have Hab := Lib.hid hab
  clear hab
  obtain ⟨b0, b1, hab⟩ := frOr_pair CG Q
  have Hbb := Lib.hid hab
  clear hab
  obtain ⟨k0, k1, hab⟩ := frOr_pair CK K
  have Hkb := Lib.hid hab
  clear hab
  go_enter Try.func15, Try.ntmps15
  go_wp2_with fail
  refine (long_any n m cap cap2 ao ao2 _).mono ?_
  rintro e w1 ⟨rfl, rfl⟩
  rw [hd]
  clear hd
  obtain ⟨hp, hp2, r0, hB⟩ := HA.out
  clear HA
  generalize (w.alloc (.cells #[.int .i64 n1, .int .i64 d1, .int .i64 n2, .int .i64 d2] 35)) = wx at hp hp2 r0 hB ⊢
  have c0 := cell_of_row wx _ 0 _ _ _ r0
  have c1 := cell_of_row wx _ 1 _ _ _ r0
  have c2 := cell_of_row wx _ 2 _ _ _ r0
  have c3 := cell_of_row wx _ 3 _ _ _ r0
  simp at c0 c1 c2 c3
  clear r0
  go_wp2_with fail
  refine (Sum_any f g _ _ _ _ _ _ _ hp Hn.out hn hp2 Hm.out hm).mono ?_
  rintro e y1 ⟨⟨va, rfl, M1⟩, hbb⟩
  replace hp := hp.below hbb
  replace hp2 := hp2.below hbb
  replace c0 := keep_cell hbb c0
  replace c1 := keep_cell hbb c1
  replace c2 := keep_cell hbb c2
  replace c3 := keep_cell hbb c3
  replace hB := hB.trans (hbb.mono hB.size)
  clear hbb
  rw [HSC.out] at M1 ⊢
  go_wp2_with fail
  refine (rSum_any f g _ _ _ _ _ _ _ hp Hn.out hn hp2 Hm.out hm).mono ?_
  rintro e y2 ⟨⟨vb, rfl, M2⟩, hbb⟩
  replace hp := hp.below hbb
  replace hp2 := hp2.below hbb
  replace M1 := M1.below hbb
  replace c0 := keep_cell hbb c0
  replace c1 := keep_cell hbb c1
  replace c2 := keep_cell hbb c2
  replace c3 := keep_cell hbb c3
  replace hB := hB.trans (hbb.mono hB.size)
  clear hbb
  rw [HSC.out] at M2 ⊢
  obtain ⟨aoA, capA, rfl, PA⟩ := zmade_pts M1
  obtain ⟨aoB, capB, rfl, PB⟩ := zmade_pts M2
  rw [← hL] at PA PB ⊢
  clear M1 M2 hL
  obtain ⟨N, hN⟩ : ∃ N, N = L.length := ⟨_, rfl⟩
  rw [← hN] at hL6 ⊢
  have HN := Lib.hid hN
  clear hN
  go_wp2_with fail
  refine (sameField_any L L _ _ _ _ _ _ _ PA PB HN.out HN.out hL6 hL6).mono ?_
  rintro e w1 ⟨rfl, hbb⟩
  replace hp := hp.below hbb
  replace hp2 := hp2.below hbb
  replace PA := PA.below hbb
  replace c0 := keep_cell hbb c0
  replace c1 := keep_cell hbb c1
  replace c2 := keep_cell hbb c2
  replace c3 := keep_cell hbb c3
  replace hB := hB.trans (hbb.mono hB.size)
  clear hbb
  rw [decide_eq_true rfl]
  clear PB
  go_wp2_with fail
  refine (Worth_any f _ _ _ n1 d1 n2 d2 _ hp Hn.out hn hn1.2 hn2.2).mono ?_
  rintro e w2 ⟨rfl, hbb⟩
  replace hp := hp.below hbb
  replace hp2 := hp2.below hbb
  replace PA := PA.below hbb
  replace c0 := keep_cell hbb c0
  replace c1 := keep_cell hbb c1
  replace c2 := keep_cell hbb c2
  replace c3 := keep_cell hbb c3
  replace hB := hB.trans (hbb.mono hB.size)
  clear hbb
  rw [HCC.out.1, HEQ.out.1, Hab.out]
  have hA := (Below.refl _ w2).alloc (Nat.le_refl _) (.cells #[.int .i64 a0, .int .i64 a1] 29)
  have r11 := heap_alloc_new w2 (.cells #[.int .i64 a0, .int .i64 a1] 29)
  replace hp := hp.below hA
  replace hp2 := hp2.below hA
  replace PA := PA.below hA
  replace c0 := keep_cell hA c0
  replace c1 := keep_cell hA c1
  replace c2 := keep_cell hA c2
  replace c3 := keep_cell hA c3
  replace hB := hB.trans (hA.mono hB.size)
  clear hA hp
  go_wp2_with fail
  refine (Worth_any g _ _ _ n1 d1 n2 d2 _ hp2 Hm.out hm hn1.2 hn2.2).mono ?_
  rintro e w3 ⟨rfl, hbb⟩
  replace hp2 := hp2.below hbb
  replace PA := PA.below hbb
  replace r11 := heap_keep hbb r11
  replace c0 := keep_cell hbb c0
  replace c1 := keep_cell hbb c1
  replace c2 := keep_cell hbb c2
  replace c3 := keep_cell hbb c3
  replace hB := hB.trans (hbb.mono hB.size)
  clear hbb
  rw [HCC.out.2.1, HEQ.out.2.1, Hbb.out]
  have hA := (Below.refl _ w3).alloc (Nat.le_refl _) (.cells #[.int .i64 b0, .int .i64 b1] 29)
  have r13 := heap_alloc_new w3 (.cells #[.int .i64 b0, .int .i64 b1] 29)
  replace hp2 := hp2.below hA
  replace PA := PA.below hA
  replace r11 := heap_keep hA r11
  replace c0 := keep_cell hA c0
  replace c1 := keep_cell hA c1
  replace c2 := keep_cell hA c2
  replace c3 := keep_cell hA c3
  replace hB := hB.trans (hA.mono hB.size)
  clear hA hp2
  go_wp2_with fail
  refine (Worth_any L _ _ _ n1 d1 n2 d2 _ PA HN.out hL6 hn1.2 hn2.2).mono ?_
  rintro e w4 ⟨rfl, hbb⟩
  replace PA := PA.below hbb
  replace r11 := heap_keep hbb r11
  replace r13 := heap_keep hbb r13
  replace hB := hB.trans (hbb.mono hB.size)
  clear hbb
  rw [HCC.out.2.2, HEQ.out.2.2, Hkb.out]
  clear c0 c1 c2 c3
  have hA := (Below.refl _ w4).alloc (Nat.le_refl _) (.cells #[.int .i64 k0, .int .i64 k1] 29)
  have r15 := heap_alloc_new w4 (.cells #[.int .i64 k0, .int .i64 k1] 29)
  replace PA := PA.below hA
  replace r11 := heap_keep hA r11
  replace r13 := heap_keep hA r13
  replace hB := hB.trans (hA.mono hB.size)
  clear hA PA
  rcases hSC0 with rfl | hSC0
  · rcases hCF0 with rfl | hCF0
    · have hLF : L = Fl.sumF f g := by rw [HL.out, if_pos rfl]
      have hbk := sum_known HSC.out HCC.out.1
      rw [← hLF] at hbk
      have hcg : CG = 0 := HCC.out.2.1.symm.trans hbk.1
      have hck : CK = 0 := HCC.out.2.2.symm.trans hbk.2.1
      subst hcg
      subst hck
      have kE := worth_known HCC.out.1
      have kQ := worth_known HCC.out.2.1
      have kK := worth_known HCC.out.2.2
      have hsum := hbk.2.2
      rw [HEQ.out.1] at kE
      rw [HEQ.out.2.1] at kQ
      rw [HEQ.out.2.2] at kK
      rw [HEQ.out.1, HEQ.out.2.1, HEQ.out.2.2] at hsum
      have hab := Hab.out
      rw [frOr_ok] at hab
      simp only [Fr, Value.agg.injEq, Array.mk.injEq, List.cons.injEq, Value.int.injEq, true_and, and_true] at hab
      obtain ⟨rfl, rfl⟩ := hab
      have hab := Hbb.out
      rw [frOr_ok] at hab
      simp only [Fr, Value.agg.injEq, Array.mk.injEq, List.cons.injEq, Value.int.injEq, true_and, and_true] at hab
      obtain ⟨rfl, rfl⟩ := hab
      have hab := Hkb.out
      rw [frOr_ok] at hab
      simp only [Fr, Value.agg.injEq, Array.mk.injEq, List.cons.injEq, Value.int.injEq, true_and, and_true] at hab
      obtain ⟨rfl, rfl⟩ := hab
      have Hsum := Lib.hid hsum
      have hSQ : SumQ E Q := sumQ_of kE.1 kQ.1 3000 3000 kE.2.1 kQ.2.1 1000000000000 (by have : E.den * Q.den ≤ 1000000 * 1000000 := Nat.mul_le_mul kE.2.2.1 kQ.2.2.1; omega) (by omega) (by omega) (by omega)
      have hfair : Hid ([pr E, pr Q, pr K].all fairB = true) := Lib.hid (by
        simp only [List.all_cons, List.all_nil, Bool.and_true, Bool.and_eq_true]
        exact ⟨sfair kE.2.2.2.2 (by omega) (by omega), sfair kQ.2.2.2.2 (by omega) (by omega), sfair kK.2.2.2.2 (by omega) (by omega)⟩)
      have dE : 0 < E.den := E.den_pos
      have dQ : 0 < Q.den := Q.den_pos
      have HSQ := Lib.hid hSQ
      have q1 := run_eq_rt K.num K.den K.num K.den
      simp only [decide_true] at q1
      clear kE kQ kK hsum hSQ hbk hLF
      go_upto_region 12 with fail
      generalize w4.alloc (.cells #[.int .i64 K.num, .int .i64 K.den] 29) = w6 at r11 r13 r15 hB ⊢
      obtain ⟨⟨c0, c1⟩, -, -⟩ := row_fr r11
      obtain ⟨⟨c2, c3⟩, -, -⟩ := row_fr r13
      obtain ⟨⟨c4, c5⟩, -, -⟩ := row_fr r15
      clear r11 r13 r15
      have hP : Pts (w6.alloc (.cells #[.int .i64 E.num, .int .i64 E.den, .int .i64 Q.num, .int .i64 Q.den, .int .i64 K.num, .int .i64 K.den] 29)).drew (some ⟨w6.heap.size, 0, none⟩) [pr E, pr Q, pr K] := spts_three (w := (w6.alloc (.cells #[.int .i64 E.num, .int .i64 E.den, .int .i64 Q.num, .int .i64 Q.den, .int .i64 K.num, .int .i64 K.den] 29)).drew) (t := 29) (heap_alloc_new w6 _)
      have hW6 : Below w6.heap.size w6 (w6.alloc (.cells #[.int .i64 E.num, .int .i64 E.den, .int .i64 Q.num, .int .i64 Q.den, .int .i64 K.num, .int .i64 K.den] 29)).drew := below_drewN ((Below.refl _ w6).alloc (Nat.le_refl _) _) 1
      have HPW := Lib.hid (And.intro hP hW6)
      clear hP hW6
      go_region_held3 (fun w' => w'.cell? ⟨w2.heap.size, 0, none⟩ = some (.int .i64 E.num) ∧ w'.cell? ⟨w2.heap.size, 1, none⟩ = some (.int .i64 E.den) ∧ w'.cell? ⟨w3.heap.size, 0, none⟩ = some (.int .i64 Q.num) ∧ w'.cell? ⟨w3.heap.size, 1, none⟩ = some (.int .i64 Q.den) ∧ w'.cell? ⟨w4.heap.size, 0, none⟩ = some (.int .i64 K.num) ∧ w'.cell? ⟨w4.heap.size, 1, none⟩ = some (.int .i64 K.den))
        (first | exact ⟨c0, c1, c2, c3, c4, c5⟩ | exact ka | exact kb | go_keep)
        (first
          | (go_at_call 30; refine (fair_any [pr E, pr Q, pr K] (some ⟨w6.heap.size, 0, none⟩) 3 3 _ HPW.out.1 rfl (by omega)).mono ?_; rintro e w' ⟨rfl, rfl⟩; rw [hfair.out])
          | (go_at_call 31; refine (radd_q _ _ _ HSQ.out).mono ?_; rintro e w7 ⟨rfl, hb1⟩; have hkk : Below w6.heap.size w6 w7 := HPW.out.2.trans (hb1.mono HPW.out.2.size); have ka := And.intro (keep_cell hkk c0) (And.intro (keep_cell hkk c1) (And.intro (keep_cell hkk c2) (And.intro (keep_cell hkk c3) (And.intro (keep_cell hkk c4) (keep_cell hkk c5))))); rw [Hsum.out])
          | (go_at_call 19; refine (known_any _).mono ?_; rintro e w8 ⟨rfl, hb2⟩; have kb := And.intro (keep_cell hb2 ka.1) (And.intro (keep_cell hb2 ka.2.1) (And.intro (keep_cell hb2 ka.2.2.1) (And.intro (keep_cell hb2 ka.2.2.2.1) (And.intro (keep_cell hb2 ka.2.2.2.2.1) (keep_cell hb2 ka.2.2.2.2.2)))))))
      go_wp2
      go_ret
      exact ⟨rfl, (hB.trans (hkk.mono hB.size)).trans (hb2.mono (hB.trans (hkk.mono hB.size)).size)⟩
    · go_wp2_with fail
      refine (known_any _).mono ?_
      rintro e w5 ⟨rfl, hb⟩
      go_wp2
      go_ret
      exact ⟨rfl, hB.trans (hb.mono hB.size)⟩
  · go_wp2_with fail
    refine (known_any _).mono ?_
    rintro e w5 ⟨rfl, hb⟩
    go_wp2
    go_ret
    exact ⟨rfl, hB.trans (hb.mono hB.size)⟩
end Go.Proofs.Ytmajcccdbhbkfaa
