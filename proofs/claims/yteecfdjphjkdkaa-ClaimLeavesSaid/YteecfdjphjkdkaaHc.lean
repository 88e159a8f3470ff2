import Derived.Test.YteecfdjphjkdkaaHb
namespace Go.Proofs.Yteecfdjphjkdkaa
open Go.RowKit
namespace Cl
def wGood (L A : List Int) (E : Int) : Prop := ∀ i, i < L.length → (wDown L E).getD i 0 ≤ A.getD i 0 ∧ A.getD i 0 ≤ (wDown L E).getD i 0 + min 1 ((wRest L E).getD i 0)
instance (L A : List Int) (E : Int) : Decidable (wGood L A E) := by unfold wGood; infer_instance
def cwC (L : List Int) (E : Int) (A : List Int) : Int := if caseC L E = 0 then (if A.length = L.length ∧ okL 1000 A = true then (if wGood L A E then (if Fl.sumI A = E then 0 else 7) else 8) else 1) else 1
theorem cw_case {L A : List Int} {E : Int} (h : caseC L E ≠ 0) : cwC L E A = 1 := if_neg h
theorem cw_arg {L A : List Int} {E : Int} (h : ¬ (A.length = L.length ∧ okL 1000 A = true)) : cwC L E A = 1 := by
  unfold cwC
  rw [if_neg h, ite_self]
theorem cw_rule {L A : List Int} {E : Int} (h0 : caseC L E = 0) (h : A.length = L.length ∧ okL 1000 A = true) (h2 : ¬ wGood L A E) : cwC L E A = 8 := by
  unfold cwC; rw [if_pos h0, if_pos h, if_neg h2]
theorem cw_sum {L A : List Int} {E : Int} (h0 : caseC L E = 0) (h : A.length = L.length ∧ okL 1000 A = true) (h2 : wGood L A E) : cwC L E A = if Fl.sumI A = E then 0 else 7 := by
  unfold cwC; rw [if_pos h0, if_pos h, if_pos h2]
theorem case_01 (L : List Int) (E : Int) : caseC L E = 0 ∨ caseC L E = 1 := by unfold caseC; split <;> simp
theorem down_bounds {L : List Int} {E : Int} (hC : okC L = true) (h0 : 0 ≤ E) (h1 : E ≤ Fl.sumI L) (i : Nat) : 0 ≤ (wDown L E).getD i 0 ∧ (wDown L E).getD i 0 ≤ 8000000 ∧ 0 ≤ (wRest L E).getD i 0 ∧ (wRest L E).getD i 0 ≤ 8000 := by
  have a := getD_bound (A := wDown L E) (b := 8000000) (by omega) (wDown_bound hC h0 h1) i
  have hS8 : Fl.sumI L ≤ 8000 := by
    have hC := okC_iff.1 hC
    have h := Cl.sum_small (B := 1000) (by omega) (l := L) (fun x hx => by have := hC.2.2 x hx; omega)
    omega
  have b := getD_bound (A := wRest L E) (b := 8000) (by omega) (fun x hx => by have := (rests L E hC h0 h1).1 x hx; omega) i
  omega
end Cl
set_option maxRecDepth 100000 in
set_option maxHeartbeats 2000000 in
theorem checkWhole_any (L : List Int) (E : Int) (A : List Int) (ao : Option Addr) (n cap : Nat) (aoA : Option Addr) (nA capA : Nat) (w : World) (hI : Ints w ao L) (hJ : Ints w aoA A) (hln : n = L.length) (hlA : nA = A.length) (hn : n ≤ 100000) (hnA : nA ≤ 100000) :
    Calls Try.prog 46 #[.slice ao n cap, .int .i64 E, .slice aoA nA capA] w fun e w' => e = .returned (.int .i64 (Cl.cwC L E A)) ∧ Below w.heap.size w w' := by
  have HI := Lib.hid hI
  have HJ := Lib.hid hJ
  have Hn := Lib.hid hln
  have HnA := Lib.hid hlA
  have F1 := Lib.hid (@Cl.cw_case L A E)
  have F2 := Lib.hid (@Cl.cw_arg L A E)
  have F3 := Lib.hid (@Cl.cw_rule L A E)
  have F4 := Lib.hid (@Cl.cw_sum L A E)
  generalize Cl.cwC L E A = C at F1 F2 F3 F4 ⊢
  clear hln hlA hI hJ
  go_enter Try.func46, Try.ntmps46
  go_wp2_with fail
  refine (validate_any L E ao n cap w HI.out Hn.out hn).mono ?_
  rintro e w1 ⟨rfl, hB⟩
  rcases Cl.case_01 L E with hc | hc
  · have Hc := Lib.hid hc
    rw [hc]
    clear hc
    by_cases hne : nA = n
    · have e1 : ((nA : Int) != (n : Int)) = false := by rw [hne]; simp
      have Hne := Lib.hid hne
      clear hne
      go_wp2_with fail
      refine (areFrom_any 1000 A aoA nA capA w1 (HJ.out.below hB) HnA.out hnA).mono ?_
      rintro e w2 ⟨rfl, hb2⟩
      replace hB := hB.trans (hb2.mono hB.size)
      clear hb2 e1
      obtain ⟨v, hv⟩ : ∃ v, v = Cl.okL 1000 A := ⟨_, rfl⟩
      rw [← hv]
      have Hv := Lib.hid hv
      clear hv
      cases v
      · have Hr := Lib.hid (F2.out (fun h => by have := Hv.out; rw [h.2] at this; cases this))
        go_wp2_with fail
        go_ret
        exact ⟨ret_int Hr.out.symm, hB⟩
      · have Hok : Hid (A.length = L.length ∧ Cl.okL 1000 A = true) := Lib.hid ⟨by have := Hn.out; have := HnA.out; have := Hne.out; omega, Hv.out.symm⟩
        have HAb := Lib.hid (Cl.okL_iff.1 Hok.out.2)
        obtain ⟨a1, a2, a3⟩ := Cl.caseC_ok.1 Hc.out
        have HC := Lib.hid (Cl.okC_iff.1 a1)
        have HD := Lib.hid (Cl.down_bounds a1 a2 a3)
        have HALL := Lib.hid (And.intro a1 (And.intro a2 a3))
        have hn8 : n ≤ 8 ∧ 1 ≤ n := by have := HC.out; have := Hn.out; omega
        clear a1 a2 a3
        go_wp2_with fail
        refine (parts_any L E ao n cap w2 (HI.out.below hB) Hn.out HALL.out.1 HALL.out.2.1 HALL.out.2.2).mono ?_
        rintro e w3 ⟨v, u, rfl, hov, hou, -, hb3⟩
        replace hB := hB.trans (hb3.mono hB.size)
        clear hb3
        have hDl : Hid ((Cl.wDown L E).length = n ∧ (Cl.wRest L E).length = n) := Lib.hid (by unfold Cl.wDown Cl.wRest; simp [Hn.out])
        obtain ⟨aoV, capV, rfl, -, hIV⟩ := own_ints hov hDl.out.1.symm
        obtain ⟨aoU, capU, rfl, -, hIU⟩ := own_ints hou hDl.out.2.symm
        clear hov hou
        have HIV := Lib.hid hIV
        have HIU := Lib.hid hIU
        have HJ3 := Lib.hid (HJ.out.below hB)
        clear hIV hIU
        go_wp2_with fail
        go_loopw [10, 11, 36] (fun _ _ i wr => ∃ k : Nat, k ≤ nA ∧ i = .int .i64 k ∧ Hid (∀ i, i < k → (Cl.wDown L E).getD i 0 ≤ A.getD i 0 ∧ A.getD i 0 ≤ (Cl.wDown L E).getD i 0 + min 1 ((Cl.wRest L E).getD i 0)) ∧ Below w3.heap.size w3 wr) (fun _ _ i _ => nA - (intOf i).toNat)
        case atStart => exact ⟨0, Nat.zero_le _, rfl, Lib.hid (fun i hi => by omega), Below.refl _ _⟩
        case round =>
          obtain ⟨k, hk, rfl, hgood, hb⟩ := hrel
          by_cases hlt : k < nA
          · have hkA : k < A.length := by have := HnA.out; omega
            have hkV : k < (Cl.wDown L E).length := by have := hDl.out.1; have := Hne.out; omega
            have hkU : k < (Cl.wRest L E).length := by have := hDl.out.2; have := Hne.out; omega
            obtain ⟨b, off, rfl, hbs, hcx⟩ := (HJ3.out.below hb).at hkA
            obtain ⟨b2, off2, rfl, hbs2, hcx2⟩ := (HIV.out.below hb).at hkV
            obtain ⟨b3, off3, rfl, hbs3, hcx3⟩ := (HIU.out.below hb).at hkU
            have hxb : 0 ≤ A.getD k 0 ∧ A.getD k 0 ≤ 1000 := Cl.getD_bound (by omega) HAb.out k
            have hdb := HD.out k
            have Hnext : Hid ((Cl.wDown L E).getD k 0 ≤ A.getD k 0 ∧ A.getD k 0 ≤ (Cl.wDown L E).getD k 0 + min 1 ((Cl.wRest L E).getD k 0) → ∀ i, i < k + 1 → (Cl.wDown L E).getD i 0 ≤ A.getD i 0 ∧ A.getD i 0 ≤ (Cl.wDown L E).getD i 0 + min 1 ((Cl.wRest L E).getD i 0)) := Lib.hid (fun h i hi => by
              by_cases e : i = k
              · rw [e]; exact h
              · exact hgood.out i (by omega))
            have Hbad : Hid (¬ ((Cl.wDown L E).getD k 0 ≤ A.getD k 0 ∧ A.getD k 0 ≤ (Cl.wDown L E).getD k 0 + min 1 ((Cl.wRest L E).getD k 0)) → C = 8) := Lib.hid (fun h => F3.out Hc.out Hok.out (fun hg => h (hg k (by have := Hn.out; have := Hne.out; omega))))
            generalize A.getD k 0 = a at hcx hxb Hnext Hbad
            generalize (Cl.wDown L E).getD k 0 = d at hcx2 hdb Hnext Hbad
            generalize (Cl.wRest L E).getD k 0 = r at hcx3 hdb Hnext Hbad
            have i1 : (k : Int) < (nA : Int) := by omega
            have i2 : (k : Int) < (n : Int) := by have := Hne.out; omega
            by_cases hg : a < d
            · have hC8 := Lib.hid (Hbad.out (by omega))
              go_upto_region 10 with fail
              go_quiet (fail)
              replace hb := below_drewN hb nq
              go_wp2_with fail
              go_ret
              exact ⟨ret_int hC8.out.symm, hB.trans (hb.mono hB.size)⟩
            · have hd2 : d ≤ a := by omega
              by_cases hr0 : ¬ (r < 1)
              · have hmn : Hid (min 1 r = 1) := Lib.hid (by omega)
                have e2 : IntKind.i64.wrap (d + 1) = d + 1 := IntWalk.i64_in _ (by omega)
                by_cases hg2 : a > d + 1
                · have hC8 := Lib.hid (Hbad.out (by rw [hmn.out]; omega))
                  go_upto_region 10 with fail
                  go_quiet (fail)
                  replace hb := below_drewN hb nq
                  go_wp2_with fail
                  go_ret
                  exact ⟨ret_int hC8.out.symm, hB.trans (hb.mono hB.size)⟩
                · have hN := Lib.hid (Hnext.out (by rw [hmn.out]; omega))
                  go_upto_region 10 with fail
                  go_quiet (fail)
                  replace hb := below_drewN hb nq
                  go_wp2_with fail
                  go_roundw
                  case rel => exact ⟨k + 1, by omega, by go_num, hN, hb⟩
                  case measure => simp [intOf]; omega
              · have hmn : Hid (min 1 r = r) := Lib.hid (by omega)
                have e2 : IntKind.i64.wrap (d + r) = d + r := IntWalk.i64_in _ (by omega)
                have hr0 : r < 1 := by omega
                by_cases hg2 : a > d + r
                · have hC8 := Lib.hid (Hbad.out (by rw [hmn.out]; omega))
                  go_upto_region 10 with fail
                  go_quiet (fail)
                  replace hb := below_drewN hb nq
                  go_wp2_with fail
                  go_ret
                  exact ⟨ret_int hC8.out.symm, hB.trans (hb.mono hB.size)⟩
                · have hN := Lib.hid (Hnext.out (by rw [hmn.out]; omega))
                  go_upto_region 10 with fail
                  go_quiet (fail)
                  replace hb := below_drewN hb nq
                  go_wp2_with fail
                  go_roundw
                  case rel => exact ⟨k + 1, by omega, by go_num, hN, hb⟩
                  case measure => simp [intOf]; omega
          · have hkn : k = nA := by omega
            have hgd : Hid (Cl.wGood L A E) := Lib.hid (fun i hi => hgood.out i (by have := Hn.out; have := Hne.out; omega))
            have hC7 := Lib.hid (F4.out Hc.out Hok.out hgd.out)
            clear hkn
            go_wp2_with fail
            refine (sum_any A aoA nA capA wr (HJ3.out.below hb) HnA.out (by have := Hne.out; omega) (fun x hx => by have := HAb.out x hx; omega)).mono ?_
            rintro e w4 ⟨rfl, hw0⟩; obtain rfl := hw0.symm
            clear hw0
            generalize Fl.sumI A = S at hC7 ⊢
            by_cases hS : S = E
            · have hC0 : Hid (C = 0) := Lib.hid (by rw [hC7.out, if_pos hS])
              go_wp2_with fail
              go_ret
              exact ⟨ret_int hC0.out.symm, hB.trans (hb.mono hB.size)⟩
            · have hC0 : Hid (C = 7) := Lib.hid (by rw [hC7.out, if_neg hS])
              have e1 : (S != E) = true := by simp [hS]
              go_wp2_with fail
              go_ret
              exact ⟨ret_int hC0.out.symm, hB.trans (hb.mono hB.size)⟩
    · have e1 : ((nA : Int) != (n : Int)) = true := by simp; omega
      have Hr := Lib.hid (F2.out (fun h => hne (by have := Hn.out; have := HnA.out; omega)))
      go_wp2_with fail
      go_ret
      exact ⟨ret_int Hr.out.symm, hB⟩
  · have Hr := Lib.hid (F1.out (by rw [hc]; decide))
    rw [hc]
    go_wp2_with fail
    go_ret
    exact ⟨ret_int Hr.out.symm, hB⟩
end Go.Proofs.Yteecfdjphjkdkaa
