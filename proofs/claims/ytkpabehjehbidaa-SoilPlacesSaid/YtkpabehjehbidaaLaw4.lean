import Derived.Test.YtkpabehjehbidaaLaw2
import Derived.Test.YtkpabehjehbidaaRpl
import Derived.Test.YtkpabehjehbidaaPsp
namespace Go.Proofs.Ytkpabehjehbidaa
open Go.RowKit
namespace Fl
theorem pcode_inv {l : List (Int × Int)} {n1 d1 n2 d2 : Int} (h : pcode l n1 d1 n2 d2 = 0) :
    validate l = 0 ∧ plc (len l) n1 d1 1000 = true ∧ amt n2 d2 1000 = true ∧ mkRat n2 d2.toNat ≤ worth l (mkRat n1 d1.toNat) (len l : Rat) := by
  unfold pcode at h
  by_cases h0 : validate l = 0
  · rw [if_neg (by simp [h0])] at h
    refine ⟨h0, ?_⟩
    by_cases h2 : (plc (len l) n1 d1 1000 && amt n2 d2 1000) = true
    · rw [if_pos h2] at h
      have h3 : plc (len l) n1 d1 1000 = true ∧ amt n2 d2 1000 = true := by simpa using h2
      refine ⟨h3.1, h3.2, ?_⟩
      by_cases h4 : worth l (mkRat n1 d1.toNat) (len l : Rat) < mkRat n2 d2.toNat
      · rw [if_pos h4] at h; omega
      · grind
    · rw [if_neg h2] at h; omega
  · rw [if_pos h0] at h; exact absurd h h0
theorem amt_of_rat {q : Rat} {most : Int} (h0 : 0 ≤ q) (hd : (q.den : Int) ≤ most) : amt q.num q.den most = true := by
  rw [amt_iff]
  refine ⟨Fl.num_nonneg h0, by have := q.den_pos; omega, hd, ?_⟩
  rw [Int.natAbs_natCast]
  exact q.reduced
theorem mk_self (q : Rat) : mkRat q.num (q.den : Int).toNat = q := by rw [Int.toNat_natCast, Rat.mkRat_self]
/-- What lies up to the place of a worth is worth so much. -/
theorem place_worth {l : List (Int × Int)} {n1 d1 n2 d2 : Int} (h : pcode l n1 d1 n2 d2 = 0) {V : Rat} (hV : V = place l (mkRat n1 d1.toNat) (mkRat n2 d2.toNat)) (hd : (V.den : Int) ≤ 1000) :
    wcode l n1 d1 V.num V.den = 0 ∧ worth l (mkRat n1 d1.toNat) (mkRat V.num (V.den : Int).toNat) = mkRat n2 d2.toNat := by
  obtain ⟨h1, h2, h3, h4⟩ := pcode_inv h
  have hok := (validate_ok.1 h1).2
  obtain ⟨q1, hq1, a1, a2, a3, a4, a5⟩ := plc_rat h2
  obtain ⟨b1, b2, b3, b4, b5, b6⟩ := amt_rat h3
  rw [← hq1] at h4 hV ⊢
  obtain ⟨p1, p2, p3⟩ := place_spec hok a3 a4 b3 h4
  rw [← hV] at p1 p2 p3
  rw [mk_self]
  refine ⟨wcode_ok h1 ?_, p3⟩
  rw [h2, mk_self, ← hq1]
  unfold plc
  rw [amt_of_rat (Rat.le_trans a3 p1) hd, mk_self]
  simp [p1, p2]
end Fl

set_option maxRecDepth 100000 in
set_option maxHeartbeats 4000000 in
theorem soilPlaces_any (l : List (Int × Int)) (ao : Option Addr) (n cap : Nat) (n1 d1 n2 d2 : Int) (w : World) (hp : Pts w ao l) (hln : n = l.length) (hn1 : Rng n1) (_ : Rng d1) (hn2 : Rng n2) (_ : Rng d2) :
    Calls Try.prog 6 #[.slice ao n cap, .agg #[.int .i64 n1, .int .i64 d1], .agg #[.int .i64 n2, .int .i64 d2]] w fun e w' => e = .returned (.bool true) ∧ Below w.heap.size w w' := by
  have Hn := Lib.hid hln
  clear hln
  have hB : Below w.heap.size w ((w.alloc (.cells #[.int .i64 n1, .int .i64 d1] 29)).alloc (.cells #[.int .i64 n2, .int .i64 d2] 29)) := below_alloc2 w _ _
  replace hp := hp.below hB
  have r0 := heap_alloc2_old w (.cells #[.int .i64 n1, .int .i64 d1] 29) (.cells #[.int .i64 n2, .int .i64 d2] 29)
  have r1 := heap_alloc2_new w (.cells #[.int .i64 n1, .int .i64 d1] 29) (.cells #[.int .i64 n2, .int .i64 d2] 29)
  have HA := Lib.hid (And.intro hB (And.intro r0 r1))
  clear hB r0 r1
  by_cases hlong : 100 < n
  · have hd : (decide (100 < n) || decide (100 < 0)) = true := by simp [hlong]
    go_enter Try.func6, Try.ntmps6
    go_wp2_with fail
    refine (long_any n 0 cap 0 ao none _).mono ?_
    rintro e w1 ⟨rfl, rfl⟩
    rw [hd]
    go_wp2_with fail
    refine (known_any _).mono ?_
    rintro e w1 ⟨rfl, hb⟩
    go_wp2
    go_ret
    exact ⟨rfl, HA.out.1.trans (hb.mono HA.out.1.size)⟩
  · have hd : (decide (100 < n) || decide (100 < 0)) = false := by simp; omega
    have hn : n ≤ 100000 := by omega
    clear hlong
    obtain ⟨V, hV⟩ : ∃ v, v = Fl.place l (mkRat n1 d1.toNat) (mkRat n2 d2.toNat) := ⟨_, rfl⟩
    have HV := Lib.hid hV
    clear hV
    obtain ⟨a, b, hab⟩ := frOr_pair (Fl.pcode l n1 d1 n2 d2) V
    have Hab := Lib.hid hab
    clear hab
    obtain ⟨C, hC⟩ : ∃ L, Fl.pcode l n1 d1 n2 d2 = L := ⟨_, rfl⟩
    have HC := Lib.hid hC
    clear hC
    have hC0 : C = 0 ∨ (C != 0) = true := by by_cases h : C = 0 <;> simp [h]
    go_enter Try.func6, Try.ntmps6
    go_wp2_with fail
    refine (long_any n 0 cap 0 ao none _).mono ?_
    rintro e w1 ⟨rfl, rfl⟩
    rw [hd]
    clear hd
    obtain ⟨hB, r0, r1⟩ := HA.out
    clear HA
    generalize ((w.alloc (.cells #[.int .i64 n1, .int .i64 d1] 29)).alloc (.cells #[.int .i64 n2, .int .i64 d2] 29)) = wx at hB r0 r1 hp ⊢
    obtain ⟨⟨c0, c1⟩, -, -⟩ := row_fr r0
    obtain ⟨⟨c2, c3⟩, -, -⟩ := row_fr r1
    clear r0 r1
    go_wp2_with fail
    refine (Place_any l _ _ _ n1 d1 n2 d2 _ hp Hn.out hn hn1.2 hn2.2).mono ?_
    rintro e w1 ⟨rfl, hbb⟩
    replace hp := hp.below hbb
    replace c0 := keep_cell hbb c0
    replace c1 := keep_cell hbb c1
    replace c2 := keep_cell hbb c2
    replace c3 := keep_cell hbb c3
    replace hB := hB.trans (hbb.mono hB.size)
    clear hbb
    rw [← HV.out, Hab.out, HC.out]
    have hA := (Below.refl _ w1).alloc (Nat.le_refl _) (.cells #[.int .i64 a, .int .i64 b] 29)
    have r1 := heap_alloc_new w1 (.cells #[.int .i64 a, .int .i64 b] 29)
    replace hp := hp.below hA
    replace c0 := keep_cell hA c0
    replace c1 := keep_cell hA c1
    replace c2 := keep_cell hA c2
    replace c3 := keep_cell hA c3
    replace hB := hB.trans (hA.mono hB.size)
    clear hA
    go_wp2_with fail
    refine (rPlace_any l _ _ _ n1 d1 n2 d2 _ hp Hn.out hn hn1 hn2).mono ?_
    rintro e w2 ⟨rfl, hbb⟩
    replace hp := hp.below hbb
    replace c0 := keep_cell hbb c0
    replace c1 := keep_cell hbb c1
    replace c2 := keep_cell hbb c2
    replace c3 := keep_cell hbb c3
    replace r1 := heap_keep hbb r1
    replace hB := hB.trans (hbb.mono hB.size)
    clear hbb
    rw [← HV.out, Hab.out, HC.out]
    have hA := (Below.refl _ w2).alloc (Nat.le_refl _) (.cells #[.int .i64 a, .int .i64 b] 29)
    have r2 := heap_alloc_new w2 (.cells #[.int .i64 a, .int .i64 b] 29)
    replace hp := hp.below hA
    replace c0 := keep_cell hA c0
    replace c1 := keep_cell hA c1
    replace c2 := keep_cell hA c2
    replace c3 := keep_cell hA c3
    replace r1 := heap_keep hA r1
    replace hB := hB.trans (hA.mono hB.size)
    clear hA
    obtain ⟨⟨x0, x1⟩, -, -⟩ := row_fr r1
    obtain ⟨⟨x2, x3⟩, -, -⟩ := row_fr r2
    have q1 := run_neq_rt a b a b
    simp only [decide_true, Bool.not_true] at q1
    rcases hC0 with rfl | hC0
    · have hab := Hab.out
      rw [HC.out, frOr_ok] at hab
      simp only [Fr, Value.agg.injEq, Array.mk.injEq, List.cons.injEq, Value.int.injEq, true_and, and_true] at hab
      obtain ⟨rfl, rfl⟩ := hab
      by_cases hbig : 1000 < V.den
      · go_wp2_with fail
        refine (known_any _).mono ?_
        rintro e w4 ⟨rfl, hb⟩
        go_wp2
        go_ret
        exact ⟨rfl, hB.trans (hb.mono hB.size)⟩
      · have hpw := Fl.place_worth HC.out HV.out (by omega)
        have HP := Lib.hid hpw
        clear hpw
        have Hr1 := Lib.hid r1
        have hrng : V.num ≤ 9223372036854775807 := by
          obtain ⟨y1, y2, y3, y4⟩ := Fl.wcode_inv HP.out.1
          obtain ⟨q, hq, z1, z2, z3, z4, z5⟩ := Fl.plc_rat y3
          have hlb := Fl.len_bound (Fl.validate_ok.1 y1).2
          have h6 := (Fl.validate_ok.1 y1).1.2
          have := place_num z4 (by omega) (by omega)
          omega
        clear x2 x3 r1 r2
        go_wp2_with fail
        refine (Worth_any l _ _ _ n1 d1 V.num V.den _ hp Hn.out hn hn1.2 hrng).mono ?_
        rintro e w3 ⟨rfl, hbb⟩
        replace hp := hp.below hbb
        replace c2 := keep_cell hbb c2
        replace c3 := keep_cell hbb c3
        replace hB := hB.trans (hbb.mono hB.size)
        rw [HP.out.1, HP.out.2, frOr_ok]
        have hm := Fl.amt_rat (Fl.pcode_inv HC.out).2.2.1
        obtain ⟨m1, m2, -⟩ := hm
        obtain ⟨q2, hq2⟩ : ∃ q, q = mkRat n2 d2.toNat := ⟨_, rfl⟩
        rw [← hq2] at m1 m2 ⊢
        have HM := Lib.hid (And.intro hq2 (And.intro m1 m2))
        clear hq2 m1 m2 hbb x0 x1 c0 c1
        have hA := (Below.refl _ w3).alloc (Nat.le_refl _) (.cells #[.int .i64 q2.num, .int .i64 q2.den] 29)
        have r3 := heap_alloc_new w3 (.cells #[.int .i64 q2.num, .int .i64 q2.den] 29)
        replace hp := hp.below hA
        replace c2 := keep_cell hA c2
        replace c3 := keep_cell hA c3
        replace hB := hB.trans (hA.mono hB.size)
        clear hA
        obtain ⟨⟨x0, x1⟩, -, -⟩ := row_fr r3
        rw [← HM.out.2.1] at c2
        rw [← HM.out.2.2] at c3
        have q1 := run_eq_rt q2.num q2.den q2.num q2.den
        simp only [decide_true] at q1
        go_wp2_with fail
        refine (known_any _).mono ?_
        rintro e w10 ⟨rfl, hb⟩
        go_wp2
        go_ret
        exact ⟨rfl, hB.trans (hb.mono hB.size)⟩
    · go_wp2_with fail
      refine (known_any _).mono ?_
      rintro e w4 ⟨rfl, hb⟩
      go_wp2
      go_ret
      exact ⟨rfl, hB.trans (hb.mono hB.size)⟩
end Go.Proofs.Ytkpabehjehbidaa
