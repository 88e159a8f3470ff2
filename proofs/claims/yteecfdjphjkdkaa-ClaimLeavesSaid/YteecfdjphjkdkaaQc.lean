import Derived.Test.YteecfdjphjkdkaaQb
namespace Go.Proofs.Yteecfdjphjkdkaa
open Go.RowKit
set_option maxRecDepth 100000 in
set_option maxHeartbeats 2000000 in
theorem rcheck_any (L : List Int) (E : Int) (A : List (Int × Int)) (ao : Option Addr) (n cap : Nat) (aoA : Option Addr) (nA capA : Nat) (w : World) (hI : Ints w ao L) (hJ : Pts w aoA A) (hln : n = L.length) (hlA : nA = A.length) (hn : n ≤ 100000) (hnA : nA ≤ 100000) :
    Calls Try.prog 35 #[.slice ao n cap, .int .i64 E, .slice aoA nA capA] w fun e w' => e = .returned (.int .i64 (Cl.chC L E A)) ∧ Below w.heap.size w w' := by
  have HI := Lib.hid hI
  have HJ := Lib.hid hJ
  have Hn := Lib.hid hln
  have HnA := Lib.hid hlA
  have F1 := Lib.hid (@Cl.ch_case L A E)
  have F2 := Lib.hid (@Cl.ch_arg L A E)
  have F3 := Lib.hid (@Cl.ch_rule L A E)
  have F4 := Lib.hid (@Cl.ch_sum L A E)
  generalize Cl.chC L E A = C at F1 F2 F3 F4 ⊢
  clear hln hlA hI hJ
  go_enter Try.func35, Try.ntmps35
  go_wp2_with fail
  refine (rvalidate_any L E ao n cap w HI.out Hn.out hn).mono ?_
  rintro e w1 ⟨rfl, hw0⟩; obtain rfl := hw0.symm
  clear hw0
  have hB := Below.refl w.heap.size w
  rcases Cl.case_01 L E with hc | hc
  · have Hc := Lib.hid hc
    rw [hc]
    clear hc
    obtain ⟨a1, a2, a3⟩ := Cl.caseC_ok.1 Hc.out
    have HC := Lib.hid (Cl.okC_iff.1 a1)
    have hn8 : n ≤ 8 ∧ 1 ≤ n := by have := HC.out; have := Hn.out; omega
    have hE : 0 ≤ E ∧ E ≤ 8000 := by
      have h := Cl.sum_small (B := 1000) (by omega) (l := L) (fun x hx => by have := HC.out.2.2 x hx; omega)
      have := HC.out; omega
    clear a1 a2 a3
    go_wp2_with fail
    refine (common_any A aoA nA capA w HJ.out HnA.out hnA).mono ?_
    rintro e w2 ⟨rfl, hb2⟩
    replace hB := hB.trans (hb2.mono hB.size)
    clear hb2
    have hcl := Cl.com_le A
    have hcall := Lib.hid (@Cl.com_all A)
    have hgo : Hid (Cl.chGood L A ↔ ∀ i, i < L.length → (Cl.ovL A (Cl.com A)).getD i 0 ≤ L.getD i 0 * (Cl.com A : Int)) := Lib.hid Iff.rfl
    by_cases hne : nA = n
    · have e1 : ((nA : Int) != (n : Int)) = false := by rw [hne]; simp
      have Hne := Lib.hid hne
      clear hne
      by_cases hz : Cl.com A = 0
      · have Hr := Lib.hid (F2.out (fun h => h.2 hz))
        rw [hz]
        go_wp2_with fail
        go_ret
        exact ⟨ret_int Hr.out.symm, hB⟩
      · have Hok : Hid (A.length = L.length ∧ Cl.com A ≠ 0) := Lib.hid ⟨by have := Hn.out; have := HnA.out; have := Hne.out; omega, hz⟩
        obtain ⟨D, hD⟩ : ∃ D, D = Cl.com A := ⟨_, rfl⟩
        rw [← hD] at hcl hz hgo F4 ⊢
        have HD := Lib.hid hD
        clear hD
        have hD1 : 1 ≤ D := by omega
        have hob := Lib.hid (Cl.ovL_bound (D := (D : Int)) (hcall.out Hok.out.2) (by omega))
        have e2 : ((D : Int) == 0) = false := by simp; omega
        go_wp2_with fail
        refine (over_any A D aoA nA capA w2 (HJ.out.below hB) HnA.out (by have := Hne.out; omega) (hcall.out Hok.out.2) (by omega)).mono ?_
        rintro e w3 ⟨v, rfl, hov, hb3⟩
        replace hB := hB.trans (hb3.mono hB.size)
        clear hb3
        have hol : Hid (nA = (Cl.ovL A D).length) := Lib.hid (by rw [Cl.ovL_len]; exact HnA.out)
        obtain ⟨aoV, capV, rfl, -, hIV⟩ := own_ints hov hol.out
        have HIV := Lib.hid hIV
        have HI3 := Lib.hid (HI.out.below hB)
        clear hov hIV
        generalize Cl.ovL A (D : Int) = X at hob hol HIV hgo F4
        go_wp2_with fail
        go_loopw [10] (fun i wr => ∃ k : Nat, k ≤ nA ∧ i = .int .i64 k ∧ Hid (∀ i, i < k → X.getD i 0 ≤ L.getD i 0 * (D : Int)) ∧ Below w3.heap.size w3 wr) (fun i _ => nA - (intOf i).toNat)
        case atStart => exact ⟨0, Nat.zero_le _, rfl, Lib.hid (fun i hi => by omega), Below.refl _ _⟩
        case round =>
          obtain ⟨k, hk, rfl, hgood, hb⟩ := hrel
          by_cases hlt : k < nA
          · have hkL : k < L.length := by have := Hn.out; have := Hne.out; omega
            have hkX : k < X.length := by have := hol.out; omega
            obtain ⟨b, off, rfl, hbs, hcx⟩ := (HI3.out.below hb).at hkL
            obtain ⟨b2, off2, rfl, hbs2, hcx2⟩ := (HIV.out.below hb).at hkX
            have hxb : 0 ≤ L.getD k 0 ∧ L.getD k 0 ≤ 1000 := Cl.getD_bound (by omega) HC.out.2.2 k
            have Hnext : Hid (X.getD k 0 ≤ L.getD k 0 * (D : Int) → ∀ i, i < k + 1 → X.getD i 0 ≤ L.getD i 0 * (D : Int)) := Lib.hid (fun h i hi => by
              by_cases e : i = k
              · rw [e]; exact h
              · exact hgood.out i (by omega))
            have Hbad : Hid (¬ (X.getD k 0 ≤ L.getD k 0 * (D : Int)) → C = 8) := Lib.hid (fun h => F3.out Hc.out Hok.out (fun hg => h (hgo.out.1 hg k hkL)))
            generalize L.getD k 0 = c at hcx hxb Hnext Hbad
            generalize X.getD k 0 = y at hcx2 Hnext Hbad
            have i1 : (k : Int) < (n : Int) := by have := Hne.out; omega
            have i2 : (k : Int) < (nA : Int) := by omega
            have p1 : 0 ≤ c * (D : Int) := Int.mul_nonneg hxb.1 (by omega)
            have p2 : c * (D : Int) ≤ 1000 * 10000 := Int.mul_le_mul hxb.2 (by omega) (by omega) (by omega)
            obtain ⟨P, hP⟩ : ∃ P, P = c * (D : Int) := ⟨_, rfl⟩
            rw [← hP] at p1 p2 Hnext Hbad
            have e3 : IntKind.i64.wrap ((D : Int) * c) = P := by rw [Int.mul_comm, ← hP]; exact IntWalk.i64_in _ (by omega)
            clear hP
            go_upto_region 11 with fail
            go_region
            replace hb := below_drewN hb 1
            by_cases hg : y > P
            · have hC8 := Lib.hid (Hbad.out (by omega))
              go_wp2_with fail
              go_ret
              exact ⟨ret_int hC8.out.symm, hB.trans (hb.mono hB.size)⟩
            · have hN := Lib.hid (Hnext.out (by omega))
              go_wp2_with fail
              go_roundw
              case rel => exact ⟨k + 1, by omega, by go_num, hN, hb⟩
              case measure => simp [intOf]; omega
          · have hkn : k = nA := by omega
            have hgd : Hid (Cl.chGood L A) := Lib.hid (hgo.out.2 (fun i hi => hgood.out i (by have := Hn.out; have := Hne.out; omega)))
            have hC7 := Lib.hid (F4.out Hc.out ⟨Hok.out.1, hz⟩ hgd.out)
            clear hkn
            have hXb : Hid (∀ x ∈ X, 0 ≤ x ∧ x ≤ 10000000) := Lib.hid (fun x hx => by
              refine ⟨(hob.out x hx).1, ?_⟩
              obtain ⟨i, hi, rfl⟩ := List.mem_iff_getElem.1 hx
              have h1 := hgo.out.1 hgd.out i (by have := hol.out; have := Hn.out; have := Hne.out; omega)
              have hxb : 0 ≤ L.getD i 0 ∧ L.getD i 0 ≤ 1000 := Cl.getD_bound (by omega) HC.out.2.2 i
              have p2 : L.getD i 0 * (D : Int) ≤ 1000 * 10000 := Int.mul_le_mul hxb.2 (by omega) (by omega) (by omega)
              rw [List.getD_eq_getElem?_getD, List.getElem?_eq_getElem hi] at h1
              simp only [Option.getD_some] at h1
              omega)
            replace HIV := Lib.hid (HIV.out.below hb)
            go_wp2_with fail
            refine (rSum_any X aoV nA capV wr HIV.out hol.out (by have := Hne.out; omega) (fun x hx => by have := hXb.out x hx; omega)).mono ?_
            rintro e w4 ⟨rfl, hw0⟩; obtain rfl := hw0.symm
            clear hw0
            replace hB := hB.trans (hb.mono hB.size)
            generalize Fl.sumI X = S at hC7 ⊢
            have p1 : 0 ≤ E * (D : Int) := Int.mul_nonneg hE.1 (by omega)
            have p2 : E * (D : Int) ≤ 8000 * 10000 := Int.mul_le_mul hE.2 (by omega) (by omega) (by omega)
            obtain ⟨P, hP⟩ : ∃ P, P = E * (D : Int) := ⟨_, rfl⟩
            rw [← hP] at p1 p2 hC7
            have e3 : IntKind.i64.wrap ((D : Int) * E) = P := by rw [Int.mul_comm, ← hP]; exact IntWalk.i64_in _ (by omega)
            clear hP
            by_cases hS : S = P
            · have hC0 : Hid (C = 0) := Lib.hid (by rw [hC7.out, if_pos hS])
              go_wp2_with fail
              go_ret
              exact ⟨ret_int hC0.out.symm, hB⟩
            · have hC0 : Hid (C = 7) := Lib.hid (by rw [hC7.out, if_neg hS])
              have e1 : (S != P) = true := by simp [hS]
              go_wp2_with fail
              go_ret
              exact ⟨ret_int hC0.out.symm, hB⟩
    · have e1 : ((nA : Int) != (n : Int)) = true := by simp; omega
      have Hr := Lib.hid (F2.out (fun h => hne (by have := Hn.out; have := HnA.out; omega)))
      go_wp2_with fail
      go_ret
      exact ⟨ret_int Hr.out.symm, hB⟩
  · have Hr := Lib.hid (F1.out (by rw [hc]; decide))
    have hB := Below.refl w.heap.size w
    rw [hc]
    go_wp2_with fail
    go_ret
    exact ⟨ret_int Hr.out.symm, hB⟩
end Go.Proofs.Yteecfdjphjkdkaa
