import Derived.Test.YtkpabehjehbidaaLaw2
import Derived.Test.YtkpabehjehbidaaFai
namespace Go.Proofs.Ytkpabehjehbidaa
open Go.RowKit

theorem pts_rats3 {w : World} {g : Nat} {a b c : Rat} {t : TypeId} (h : w.heap[g]? = some (.cells #[.int .i64 a.num, .int .i64 a.den, .int .i64 b.num, .int .i64 b.den, .int .i64 c.num, .int .i64 c.den] t (0, 0))) : Pts w (some ⟨g, 0, none⟩) [pr a, pr b, pr c] := by
  have hc := fun j => cell_of_row w g j _ _ _ h
  refine ⟨fun _ => ⟨_, 0, rfl, heap_lt h, fun i hi => ?_⟩⟩
  match i, hi with
  | 0, _ => exact ⟨hc 0, hc 1⟩
  | 1, _ => exact ⟨hc 2, hc 3⟩
  | 2, _ => exact ⟨hc 4, hc 5⟩
theorem fair_rat {a : Rat} (h0 : 0 ≤ a.num) (h1 : a.num ≤ 35184372088832) (h2 : a.den ≤ 1073741824) : fairB (pr a) = true :=
  fairB_iff.2 ⟨by have := a.den_pos; show (1 : Int) ≤ (a.den : Int); omega, by show (a.den : Int) ≤ _; omega, h1, by show _ ≤ a.num; omega⟩

set_option maxRecDepth 100000 in
set_option maxHeartbeats 4000000 in
theorem soilAdds_any (l : List (Int × Int)) (ao : Option Addr) (n cap : Nat) (n1 d1 n2 d2 n3 d3 : Int) (w : World) (hp : Pts w ao l) (hln : n = l.length) (hn1 : Rng n1) (_ : Rng d1) (hn2 : Rng n2) (_ : Rng d2) (hn3 : Rng n3) (_ : Rng d3) :
    Calls Try.prog 5 #[.slice ao n cap, .agg #[.int .i64 n1, .int .i64 d1, .int .i64 n2, .int .i64 d2], .agg #[.int .i64 n3, .int .i64 d3]] w fun e w' => e = .returned (.bool true) ∧ Below w.heap.size w w' := by
  have Hn := Lib.hid hln
  clear hln
  have hB : Below w.heap.size w ((w.alloc (.cells #[.int .i64 n1, .int .i64 d1, .int .i64 n2, .int .i64 d2] 35)).alloc (.cells #[.int .i64 n3, .int .i64 d3] 29)) := below_alloc2 w _ _
  replace hp := hp.below hB
  have r0 := heap_alloc2_old w (.cells #[.int .i64 n1, .int .i64 d1, .int .i64 n2, .int .i64 d2] 35) (.cells #[.int .i64 n3, .int .i64 d3] 29)
  have r1 := heap_alloc2_new w (.cells #[.int .i64 n1, .int .i64 d1, .int .i64 n2, .int .i64 d2] 35) (.cells #[.int .i64 n3, .int .i64 d3] 29)
  have HA := Lib.hid (And.intro hB (And.intro r0 r1))
  clear hB r0 r1
  by_cases hlong : 100 < n
  · have hd : (decide (100 < n) || decide (100 < 0)) = true := by simp [hlong]
    go_enter Try.func5, Try.ntmps5
    go_wp2_with fail
    refine (long_any n 0 cap 0 ao none _).mono ?_
    rintro e w1 ⟨rfl, rfl⟩
    rw [hd]
    go_wp2_with fail
    refine (known_any _).mono ?_
    rintro e w1 ⟨rfl, hb⟩
    go_wp2
    go_ret
    exact ⟨rfl, HA.out.1.trans (hb.mono HA.out.1.size)⟩
  · have hd : (decide (100 < n) || decide (100 < 0)) = false := by simp; omega
    have hn : n ≤ 100000 := by omega
    clear hlong
    obtain ⟨a0, a1, hab⟩ := frOr_pair (Fl.wcode l n1 d1 n3 d3) (Fl.worth l (mkRat n1 d1.toNat) (mkRat n3 d3.toNat))
    have Hab := Lib.hid hab
    clear hab
    obtain ⟨b0, b1, hab⟩ := frOr_pair (Fl.wcode l n3 d3 n2 d2) (Fl.worth l (mkRat n3 d3.toNat) (mkRat n2 d2.toNat))
    have Hbb := Lib.hid hab
    clear hab
    obtain ⟨CA, hC⟩ : ∃ L, Fl.wcode l n1 d1 n3 d3 = L := ⟨_, rfl⟩
    have HCA := Lib.hid hC
    clear hC
    have hCA : CA = 0 ∨ (CA != 0) = true := by by_cases h : CA = 0 <;> simp [h]
    obtain ⟨CB, hC⟩ : ∃ L, Fl.wcode l n3 d3 n2 d2 = L := ⟨_, rfl⟩
    have HCB := Lib.hid hC
    clear hC
    have hCB : CB = 0 ∨ (CB != 0) = true := by by_cases h : CB = 0 <;> simp [h]
    go_enter Try.func5, Try.ntmps5
    go_wp2_with fail
    refine (long_any n 0 cap 0 ao none _).mono ?_
    rintro e w1 ⟨rfl, rfl⟩
    rw [hd]
    clear hd
    obtain ⟨hB, r0, r3⟩ := HA.out
    clear HA
    generalize ((w.alloc (.cells #[.int .i64 n1, .int .i64 d1, .int .i64 n2, .int .i64 d2] 35)).alloc (.cells #[.int .i64 n3, .int .i64 d3] 29)) = wx at hB r0 r3 hp ⊢
    have c0 := cell_of_row wx _ 0 _ _ _ r0
    have c1 := cell_of_row wx _ 1 _ _ _ r0
    have c2 := cell_of_row wx _ 2 _ _ _ r0
    have c3 := cell_of_row wx _ 3 _ _ _ r0
    have c4 := cell_of_row wx _ 0 _ _ _ r3
    have c5 := cell_of_row wx _ 1 _ _ _ r3
    simp at c0 c1 c2 c3 c4 c5
    clear r0 r3
    go_wp2_with fail
    refine (Worth_any l _ _ _ n1 d1 n3 d3 _ hp Hn.out hn hn1.2 hn3.2).mono ?_
    rintro e w1 ⟨rfl, hbb⟩
    replace hp := hp.below hbb
    replace c0 := keep_cell hbb c0
    replace c1 := keep_cell hbb c1
    replace c2 := keep_cell hbb c2
    replace c3 := keep_cell hbb c3
    replace c4 := keep_cell hbb c4
    replace c5 := keep_cell hbb c5
    replace hB := hB.trans (hbb.mono hB.size)
    clear hbb
    rw [Hab.out, HCA.out]
    have hA := (Below.refl _ w1).alloc (Nat.le_refl _) (.cells #[.int .i64 a0, .int .i64 a1] 29)
    have r1 := heap_alloc_new w1 (.cells #[.int .i64 a0, .int .i64 a1] 29)
    replace hp := hp.below hA
    replace c0 := keep_cell hA c0
    replace c1 := keep_cell hA c1
    replace c2 := keep_cell hA c2
    replace c3 := keep_cell hA c3
    replace c4 := keep_cell hA c4
    replace c5 := keep_cell hA c5
    replace hB := hB.trans (hA.mono hB.size)
    clear hA
    go_wp2_with fail
    refine (Worth_any l _ _ _ n3 d3 n2 d2 _ hp Hn.out hn hn3.2 hn2.2).mono ?_
    rintro e w2 ⟨rfl, hbb⟩
    replace hp := hp.below hbb
    replace c0 := keep_cell hbb c0
    replace c1 := keep_cell hbb c1
    replace c2 := keep_cell hbb c2
    replace c3 := keep_cell hbb c3
    replace c4 := keep_cell hbb c4
    replace c5 := keep_cell hbb c5
    replace r1 := heap_keep hbb r1
    replace hB := hB.trans (hbb.mono hB.size)
    clear hbb
    rw [Hbb.out, HCB.out]
    have hA := (Below.refl _ w2).alloc (Nat.le_refl _) (.cells #[.int .i64 b0, .int .i64 b1] 29)
    have r2 := heap_alloc_new w2 (.cells #[.int .i64 b0, .int .i64 b1] 29)
    replace hp := hp.below hA
    replace c0 := keep_cell hA c0
    replace c1 := keep_cell hA c1
    replace c2 := keep_cell hA c2
    replace c3 := keep_cell hA c3
    replace c4 := keep_cell hA c4
    replace c5 := keep_cell hA c5
    replace r1 := heap_keep hA r1
    replace hB := hB.trans (hA.mono hB.size)
    clear hA
    rcases hCA with rfl | hCA
    · rcases hCB with rfl | hCB
      · obtain ⟨A, hAV⟩ : ∃ A, A = Fl.worth l (mkRat n1 d1.toNat) (mkRat n3 d3.toNat) := ⟨_, rfl⟩
        obtain ⟨B, hBV⟩ : ∃ A, A = Fl.worth l (mkRat n3 d3.toNat) (mkRat n2 d2.toNat) := ⟨_, rfl⟩
        have kA := worth_known HCA.out
        have kB := worth_known HCB.out
        rw [← hAV] at kA
        rw [← hBV] at kB
        have eA := Hab.out
        rw [HCA.out, ← hAV] at eA
        have eB := Hbb.out
        rw [HCB.out, ← hBV] at eB
        simp only [frOr_ok, Fr, Value.agg.injEq, Array.mk.injEq, List.cons.injEq, Value.int.injEq, true_and, and_true] at eA eB
        obtain ⟨rfl, rfl⟩ := eA
        obtain ⟨rfl, rfl⟩ := eB
        have hCC := Lib.hid (Fl.wcode_mid HCA.out HCB.out)
        have kC := worth_known hCC.out
        obtain ⟨C, hCV⟩ : ∃ A, A = Fl.worth l (mkRat n1 d1.toNat) (mkRat n2 d2.toNat) := ⟨_, rfl⟩
        rw [← hCV] at kC
        have hsum : Hid (A + B = C) := Lib.hid (by
          obtain ⟨x1, x2, x3, x4⟩ := Fl.wcode_inv HCA.out
          obtain ⟨y1, y2, y3, y4⟩ := Fl.wcode_inv HCB.out
          obtain ⟨q1, hq1, z1, z2, z3, z4, z5⟩ := Fl.plc_rat x2
          rw [hAV, hBV, hCV]
          exact Fl.worth_mid (Fl.validate_ok.1 x1).2 (by rw [← hq1]; exact z3) x4 y4)
        have HCV := Lib.hid hCV
        have hSQ : SumQ A B := sumQ_of kA.1 kB.1 3000 3000 kA.2.1 kB.2.1 1000000000000 (by have : A.den * B.den ≤ 1000000 * 1000000 := Nat.mul_le_mul kA.2.2.1 kB.2.2.1; omega) (by omega) (by omega) (by omega)
        have hfair : Hid ([pr A, pr B, pr C].all fairB = true) := Lib.hid (by
          simp only [List.all_cons, List.all_nil, Bool.and_true, Bool.and_eq_true]
          exact ⟨fair_rat kA.2.2.2.2 (by omega) (by omega), fair_rat kB.2.2.2.2 (by omega) (by omega), fair_rat kC.2.2.2.2 (by omega) (by omega)⟩)
        clear hAV hBV hCV
        clear c4 c5
        go_wp2_with fail
        refine (Worth_any l _ _ _ n1 d1 n2 d2 _ hp Hn.out hn hn1.2 hn2.2).mono ?_
        rintro e w3 ⟨rfl, hbb⟩
        replace hp := hp.below hbb
        replace c0 := keep_cell hbb c0
        replace c1 := keep_cell hbb c1
        replace c2 := keep_cell hbb c2
        replace c3 := keep_cell hbb c3
        replace r1 := heap_keep hbb r1
        replace r2 := heap_keep hbb r2
        replace hB := hB.trans (hbb.mono hB.size)
        clear hbb
        rw [hCC.out, ← HCV.out, frOr_ok]
        clear c0 c1 c2 c3
        have hA := (Below.refl _ w3).alloc (Nat.le_refl _) (.cells #[.int .i64 C.num, .int .i64 C.den] 29)
        have r3 := heap_alloc_new w3 (.cells #[.int .i64 C.num, .int .i64 C.den] 29)
        replace hp := hp.below hA
        replace r1 := heap_keep hA r1
        replace r2 := heap_keep hA r2
        replace hB := hB.trans (hA.mono hB.size)
        clear hA
        obtain ⟨⟨c0, c1⟩, -, -⟩ := row_fr r1
        obtain ⟨⟨c2, c3⟩, -, -⟩ := row_fr r2
        obtain ⟨⟨c4, c5⟩, -, -⟩ := row_fr r3
        have q1 := run_eq_rt C.num C.den C.num C.den
        simp only [decide_true] at q1
        have dA : 0 < A.den := A.den_pos
        have dB : 0 < B.den := B.den_pos
        have dC : 0 < C.den := C.den_pos
        have sA := kA.2.2.2.2
        have sB := kB.2.2.2.2
        clear kA kB kC
        go_wp2_with fail
        generalize w3.alloc (.cells #[.int .i64 C.num, .int .i64 C.den] 29) = w4 at c0 c1 c2 c3 c4 c5 hB ⊢
        clear r1 r2 r3 hp
        have hP : Pts (w4.alloc (.cells #[.int .i64 A.num, .int .i64 A.den, .int .i64 B.num, .int .i64 B.den, .int .i64 C.num, .int .i64 C.den] 29)).drew (some ⟨w4.heap.size, 0, none⟩) [pr A, pr B, pr C] := pts_rats3 (w := (w4.alloc (.cells #[.int .i64 A.num, .int .i64 A.den, .int .i64 B.num, .int .i64 B.den, .int .i64 C.num, .int .i64 C.den] 29)).drew) (t := 29) (heap_alloc_new w4 _)
        have hW4 : Below w4.heap.size w4 (w4.alloc (.cells #[.int .i64 A.num, .int .i64 A.den, .int .i64 B.num, .int .i64 B.den, .int .i64 C.num, .int .i64 C.den] 29)).drew := below_drewN ((Below.refl _ w4).alloc (Nat.le_refl _) _) 1
        have HPW := Lib.hid (And.intro hP hW4)
        clear hP hW4
        go_region_held3 (fun w' => w'.cell? ⟨w1.heap.size, 0, none⟩ = some (.int .i64 A.num) ∧ w'.cell? ⟨w1.heap.size, 1, none⟩ = some (.int .i64 A.den) ∧ w'.cell? ⟨w2.heap.size, 0, none⟩ = some (.int .i64 B.num) ∧ w'.cell? ⟨w2.heap.size, 1, none⟩ = some (.int .i64 B.den) ∧ w'.cell? ⟨w3.heap.size, 0, none⟩ = some (.int .i64 C.num) ∧ w'.cell? ⟨w3.heap.size, 1, none⟩ = some (.int .i64 C.den))
          (first | exact ⟨c0, c1, c2, c3, c4, c5⟩ | exact ka | exact kb | go_keep)
          (first
            | (go_at_call 27; refine (fair_any [pr A, pr B, pr C] (some ⟨w4.heap.size, 0, none⟩) 3 3 _ HPW.out.1 rfl (by omega)).mono ?_; rintro e w' ⟨rfl, rfl⟩; rw [hfair.out])
            | (go_at_call 28; refine (radd_q _ _ _ hSQ).mono ?_; rintro e w5 ⟨rfl, hb1⟩; have hkk : Below w4.heap.size w4 w5 := HPW.out.2.trans (hb1.mono HPW.out.2.size); have ka := And.intro (keep_cell hkk c0) (And.intro (keep_cell hkk c1) (And.intro (keep_cell hkk c2) (And.intro (keep_cell hkk c3) (And.intro (keep_cell hkk c4) (keep_cell hkk c5))))); rw [hsum.out])
            | (go_at_call 16; refine (known_any _).mono ?_; rintro e w6 ⟨rfl, hb2⟩; have kb := And.intro (keep_cell hb2 ka.1) (And.intro (keep_cell hb2 ka.2.1) (And.intro (keep_cell hb2 ka.2.2.1) (And.intro (keep_cell hb2 ka.2.2.2.1) (And.intro (keep_cell hb2 ka.2.2.2.2.1) (keep_cell hb2 ka.2.2.2.2.2)))))))
        go_wp2
        go_ret
        exact ⟨rfl, (hB.trans (hkk.mono hB.size)).trans (hb2.mono (hB.trans (hkk.mono hB.size)).size)⟩
      · go_wp2_with fail
        refine (known_any _).mono ?_
        rintro e w4 ⟨rfl, hb⟩
        go_wp2
        go_ret
        exact ⟨rfl, hB.trans (hb.mono hB.size)⟩
    · go_wp2_with fail
      refine (known_any _).mono ?_
      rintro e w4 ⟨rfl, hb⟩
      go_wp2
      go_ret
      exact ⟨rfl, hB.trans (hb.mono hB.size)⟩
end Go.Proofs.Ytkpabehjehbidaa
