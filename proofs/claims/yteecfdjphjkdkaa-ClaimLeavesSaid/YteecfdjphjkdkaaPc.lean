import Derived.Test.YteecfdjphjkdkaaPb
namespace Go.Proofs.Yteecfdjphjkdkaa
open Go.RowKit
set_option maxHeartbeats 1000000 in
theorem many_any (n cap : Nat) (ao : Option Addr) (w : World) : Calls Try.prog 42 #[.slice ao n cap] w fun e w' => e = .returned (.bool (decide (40 < n))) ∧ w' = w := by
  go_enter Try.func42, Try.ntmps42
  go_wp2_with fail
  go_ret
  exact ⟨ret_bool (by simp; omega), rfl⟩
set_option maxRecDepth 100000 in
set_option maxHeartbeats 1000000 in
theorem claimPays_any (cs : List Int) (aoC : Option Addr) (nC capC : Nat) (ls : List Int) (aoL : Option Addr) (nL capL : Nat) (p : Int) (w : World) (hC : Ints w aoC cs) (hlc : nC = cs.length) (_ : ∀ x ∈ cs, Rng x) (hL : Ints w aoL ls) (hll : nL = ls.length) (_ : ∀ x ∈ ls, Rng x) (_ : Rng p) :
    Calls Try.prog 13 #[.slice aoC nC capC, .slice aoL nL capL, .int .i64 p] w fun e w' => e = .returned (.bool true) ∧ Below w.heap.size w w' := by
  have Hc := Lib.hid hlc
  have Hl := Lib.hid hll
  have hB := Below.refl w.heap.size w
  clear hlc hll
  go_enter Try.func13, Try.ntmps13
  go_wp2_with fail
  refine (many_any nC capC aoC w).mono ?_
  rintro e w1 ⟨rfl, hw0⟩; obtain rfl := hw0.symm
  clear hw0
  by_cases h1 : 40 < nC
  · have e1 : decide (40 < nC) = true := by simp [h1]
    rw [e1]
    go_wp2_with fail
    refine (known_any w).mono ?_
    rintro e w2 ⟨rfl, hb⟩
    go_wp2_with fail
    go_ret
    exact ⟨rfl, hb⟩
  · have e1 : decide (40 < nC) = false := by simp [h1]
    rw [e1]
    clear e1
    go_wp2_with fail
    refine (many_any nL capL aoL w).mono ?_
    rintro e w1 ⟨rfl, hw0⟩; obtain rfl := hw0.symm
    clear hw0
    by_cases h2 : 40 < nL
    · have e1 : decide (40 < nL) = true := by simp [h2]
      rw [e1]
      go_wp2_with fail
      refine (known_any w).mono ?_
      rintro e w2 ⟨rfl, hb⟩
      go_wp2_with fail
      go_ret
      exact ⟨rfl, hb⟩
    · have e1 : decide (40 < nL) = false := by simp [h2]
      rw [e1]
      clear e1
      have hn1 : nC ≤ 100000 := by omega
      have hn2 : nL ≤ 100000 := by omega
      clear h1 h2
      go_wp2_with fail
      refine (pay_any cs ls p aoC nC capC aoL nL capL w hC hL Hc.out Hl.out hn1 hn2).mono ?_
      rintro e w2 ⟨ao2, cap2, rfl, hI2, hb2⟩
      replace hC := hC.below hb2
      replace hL := hL.below hb2
      go_wp2_with fail
      refine (rpay_any cs ls p aoC nC capC aoL nL capL w2 hC hL Hc.out Hl.out hn1 hn2).mono ?_
      rintro e w3 ⟨ao3, cap3, rfl, hI3, hb3⟩
      replace hC := hC.below hb3
      replace hL := hL.below hb3
      replace hI2 := hI2.below hb3
      replace hB := hb2.trans (hb3.mono hb2.size)
      clear hb2 hb3
      have hRl : Hid ((Cl.payR cs ls p).length ≤ 8) := Lib.hid (by
        unfold Cl.payR
        split
        · rename_i h
          have := (Cl.okC_iff.1 h.1).2.1
          unfold Cl.payL
          rw [List.length_zipWith]; omega
        · simp)
      have Hno : Hid (¬ Cl.payOk cs ls p → Cl.payC cs ls p = 1 ∧ Cl.payR cs ls p = []) := Lib.hid Cl.pay_no
      have Hyes : Hid (Cl.payOk cs ls p → Cl.payC cs ls p = 0 ∧ Cl.payR cs ls p = Cl.payL cs ls p) := Lib.hid Cl.pay_ok
      generalize Cl.payR cs ls p = R at Hno Hyes hRl hI2 hI3 ⊢
      generalize Cl.payC cs ls p = C at Hno Hyes ⊢
      obtain ⟨r, hr⟩ : ∃ r, r = R.length := ⟨_, rfl⟩
      rw [← hr] at hRl ⊢
      have Hr := Lib.hid hr
      have hr8 : r ≤ 8 := hRl.out
      clear hr hRl
      go_wp2_with fail
      refine (sameInts_any R R ao2 r cap2 ao3 r cap3 w3 hI2 hI3 Hr.out Hr.out (by omega) (by omega)).mono ?_
      rintro e w4 ⟨rfl, hb4⟩
      rw [show decide (R = R) = true by simp]
      replace hC := hC.below hb4
      replace hL := hL.below hb4
      replace hI2 := hI2.below hb4
      replace hB := hB.trans (hb4.mono hB.size)
      clear hb4 hI3
      by_cases hok : Cl.payOk cs ls p
      · have hcd := Hyes.out hok
        have hC0 := hcd.1
        have hR := Lib.hid hcd.2
        have Hok := Lib.hid hok
        subst hC0
        clear hcd Hyes Hno hok
        have hcb := Lib.hid (Cl.okC_iff.1 Hok.out.1)
        have hlb := Lib.hid (Cl.okL_iff.1 Hok.out.2.2.1)
        have hRb := Lib.hid (Cl.payR_bound Hok.out)
        go_wp2_with fail
        refine (rSum_any R ao2 r cap2 w4 hI2 Hr.out (by omega) (fun x hx => by rw [hR.out] at hx; have := hRb.out x hx; omega)).mono ?_
        rintro e w5 ⟨rfl, hw0⟩; obtain rfl := hw0.symm
        clear hw0
        go_wp2_with fail
        refine (rSum_any cs aoC nC capC w4 hC Hc.out (by have := hcb.out; have := Hc.out; omega) (fun x hx => by have := hcb.out.2.2 x hx; omega)).mono ?_
        rintro e w5 ⟨rfl, hw0⟩; obtain rfl := hw0.symm
        clear hw0
        go_wp2_with fail
        refine (rSum_any ls aoL nL capL w4 hL Hl.out (by have := hcb.out; have := Hl.out; have := Hok.out.2.1; omega) (fun x hx => by have := hlb.out x hx; omega)).mono ?_
        rintro e w5 ⟨rfl, hw0⟩; obtain rfl := hw0.symm
        clear hw0
        have hs := Cl.payL_sum p Hok.out.2.1
        rw [← hR.out] at hs
        have b1 := Cl.sum_small (B := 1000) (by omega) (l := cs) (fun x hx => by have := hcb.out.2.2 x hx; omega)
        have b2 := Cl.sum_small (B := 10000) (by omega) (l := ls) (fun x hx => by have := hlb.out x hx; omega)
        have b3 := Cl.sum_small (B := 10000000) (by omega) (l := R) (fun x hx => by rw [hR.out] at hx; have := hRb.out x hx; omega)
        have n8 : cs.length ≤ 8 ∧ ls.length ≤ 8 ∧ R.length ≤ 8 := by have := hcb.out; have := Hok.out.2.1; have := Hr.out; omega
        have c1 : -8000 ≤ Fl.sumI cs ∧ Fl.sumI cs ≤ 8000 := by omega
        have c2 : -80000 ≤ Fl.sumI ls ∧ Fl.sumI ls ≤ 80000 := by omega
        have c3 : -80000000 ≤ Fl.sumI R ∧ Fl.sumI R ≤ 80000000 := by omega
        clear b1 b2 b3 n8
        generalize Fl.sumI cs = S1 at hs c1 ⊢
        generalize Fl.sumI ls = S2 at hs c2 ⊢
        generalize Fl.sumI R = S3 at hs c3 ⊢
        have e1 : IntKind.i64.wrap (S1 - S2) = S1 - S2 := IntWalk.i64_in _ (by omega)
        have e2 : IntKind.i64.wrap ((S1 - S2) * p) = S3 := by rw [← hs]; exact IntWalk.i64_in _ (by omega)
        clear hs
        go_wp2_with fail
        refine (known_any w4).mono ?_
        rintro e w6 ⟨rfl, hb6⟩
        go_wp2_with fail
        go_ret
        exact ⟨rfl, hB.trans (hb6.mono hB.size)⟩
      · have hcd := Hno.out hok
        have hC0 := hcd.1
        subst hC0
        go_wp2_with fail
        refine (known_any w4).mono ?_
        rintro e w6 ⟨rfl, hb6⟩
        go_wp2_with fail
        go_ret
        exact ⟨rfl, hB.trans (hb6.mono hB.size)⟩
end Go.Proofs.Yteecfdjphjkdkaa
