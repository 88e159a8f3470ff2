import Derived.Test.YteecfdjphjkdkaaNb
import Derived.Test.YteecfdjphjkdkaaHc
namespace Go.Proofs.Yteecfdjphjkdkaa
open Go.RowKit
namespace Cl
def chGood (L : List Int) (A : List (Int × Int)) : Prop := ∀ i, i < L.length → (ovL A (com A)).getD i 0 ≤ L.getD i 0 * (com A : Int)
instance (L : List Int) (A : List (Int × Int)) : Decidable (chGood L A) := by unfold chGood; infer_instance
def chC (L : List Int) (E : Int) (A : List (Int × Int)) : Int := if caseC L E = 0 then (if A.length = L.length ∧ com A ≠ 0 then (if chGood L A then (if Fl.sumI (ovL A (com A)) = E * com A then 0 else 7) else 8) else 1) else 1
theorem ch_case {L : List Int} {A : List (Int × Int)} {E : Int} (h : caseC L E ≠ 0) : chC L E A = 1 := if_neg h
theorem ch_arg {L : List Int} {A : List (Int × Int)} {E : Int} (h : ¬ (A.length = L.length ∧ com A ≠ 0)) : chC L E A = 1 := by
  unfold chC
  rw [if_neg h, ite_self]
theorem ch_rule {L : List Int} {A : List (Int × Int)} {E : Int} (h0 : caseC L E = 0) (h : A.length = L.length ∧ com A ≠ 0) (h2 : ¬ chGood L A) : chC L E A = 8 := by
  unfold chC; rw [if_pos h0, if_pos h, if_neg h2]
theorem ch_sum {L : List Int} {A : List (Int × Int)} {E : Int} (h0 : caseC L E = 0) (h : A.length = L.length ∧ com A ≠ 0) (h2 : chGood L A) : chC L E A = if Fl.sumI (ovL A (com A)) = E * com A then 0 else 7 := by
  unfold chC; rw [if_pos h0, if_pos h, if_pos h2]
theorem comF_le {a : Nat} {A : List (Int × Int)} (ha : a ≤ 10000) : comF a A ≤ 10000 := by
  induction A generalizing a with
  | nil => exact ha
  | cons x r ih =>
    unfold comF
    split
    · rename_i h; exact ih h.2
    · omega
theorem comF_all {a : Nat} {A : List (Int × Int)} (h : comF a A ≠ 0) : ∀ x ∈ A, rtOk x = true := by
  induction A generalizing a with
  | nil => intro x hx; cases hx
  | cons y r ih =>
    intro x hx
    unfold comF at h
    split at h
    · rename_i hh
      rcases List.mem_cons.1 hx with rfl | hx
      · exact hh.1
      · exact ih h x hx
    · exact absurd rfl h
theorem com_le (A : List (Int × Int)) : com A ≤ 10000 := comF_le (by omega)
theorem com_all {A : List (Int × Int)} (h : com A ≠ 0) : ∀ x ∈ A, rtOk x = true := comF_all h
theorem ovL_bound {A : List (Int × Int)} {D : Int} (h : ∀ x ∈ A, rtOk x = true) (hD : 1 ≤ D) : ∀ y ∈ ovL A D, 0 ≤ y ∧ y ≤ 10000000 * D := by
  intro y hy
  unfold ovL at hy
  obtain ⟨x, hx, rfl⟩ := List.mem_map.1 hy
  have hr := rtOk_iff.1 (h x hx)
  have q1 : 0 ≤ D / x.2 := Int.ediv_nonneg (by omega) (by omega)
  have q2 : D / x.2 ≤ D := Int.ediv_le_self _ (by omega)
  exact ⟨Int.mul_nonneg hr.1 q1, Int.mul_le_mul hr.2.1 q2 q1 (by omega)⟩
theorem ovL_len (A : List (Int × Int)) (D : Int) : (ovL A D).length = A.length := by unfold ovL; simp
end Cl
set_option maxRecDepth 100000 in
set_option maxHeartbeats 2000000 in
theorem check_any (L : List Int) (E : Int) (A : List (Int × Int)) (ao : Option Addr) (n cap : Nat) (aoA : Option Addr) (nA capA : Nat) (w : World) (hI : Ints w ao L) (hJ : Pts w aoA A) (hln : n = L.length) (hlA : nA = A.length) (hn : n ≤ 100000) (hnA : nA ≤ 100000) :
    Calls Try.prog 22 #[.slice ao n cap, .int .i64 E, .slice aoA nA capA] w fun e w' => e = .returned (.int .i64 (Cl.chC L E A)) ∧ Below w.heap.size w w' := by
  have HI := Lib.hid hI
  have HJ := Lib.hid hJ
  have Hn := Lib.hid hln
  have HnA := Lib.hid hlA
  have F1 := Lib.hid (@Cl.ch_case L A E)
  have F2 := Lib.hid (@Cl.ch_arg L A E)
  have F3 := Lib.hid (@Cl.ch_rule L A E)
  have F4 := Lib.hid (@Cl.ch_sum L A E)
  generalize Cl.chC L E A = C at F1 F2 F3 F4 ⊢
  clear hln hlA hI hJ
  go_enter Try.func22, Try.ntmps22
  go_wp2_with fail
  refine (validate_any L E ao n cap w HI.out Hn.out hn).mono ?_
  rintro e w1 ⟨rfl, hB⟩
  rcases Cl.case_01 L E with hc | hc
  · have Hc := Lib.hid hc
    rw [hc]
    clear hc
    by_cases hne : nA = n
    · have e1 : ((nA : Int) != (n : Int)) = false := by rw [hne]; simp
      have Hne := Lib.hid hne
      clear hne
      obtain ⟨a1, a2, a3⟩ := Cl.caseC_ok.1 Hc.out
      have HC := Lib.hid (Cl.okC_iff.1 a1)
      have hn8 : n ≤ 8 ∧ 1 ≤ n := by have := HC.out; have := Hn.out; omega
      have hE : 0 ≤ E ∧ E ≤ 8000 := by
        have h := Cl.sum_small (B := 1000) (by omega) (l := L) (fun x hx => by have := HC.out.2.2 x hx; omega)
        have := HC.out; omega
      clear a1 a2 a3
      go_wp2_with fail
      refine (commonDen_any A aoA nA capA w1 (HJ.out.below hB) HnA.out hnA).mono ?_
      rintro e w2 ⟨rfl, hb2⟩
      replace hB := hB.trans (hb2.mono hB.size)
      clear hb2 e1
      have hcl := Cl.com_le A
      have hcall := Lib.hid (@Cl.com_all A)
      by_cases hz : Cl.com A = 0
      · have Hr := Lib.hid (F2.out (fun h => h.2 hz))
        rw [Cl.fit_no hz]
        go_wp2_with fail
        go_ret
        exact ⟨ret_int Hr.out.symm, hB⟩
      · have Hok : Hid (A.length = L.length ∧ Cl.com A ≠ 0) := Lib.hid ⟨by have := Hn.out; have := HnA.out; have := Hne.out; omega, hz⟩
        rw [Cl.fit_ok hz]
        have hgo : Hid (Cl.chGood L A ↔ ∀ i, i < L.length → (Cl.ovL A (Cl.com A)).getD i 0 ≤ L.getD i 0 * (Cl.com A : Int)) := Lib.hid Iff.rfl
        obtain ⟨D, hD⟩ : ∃ D, D = Cl.com A := ⟨_, rfl⟩
        rw [← hD] at hcl hz hgo F4 ⊢
        have HD := Lib.hid hD
        clear hD
        have hD1 : 1 ≤ D := by omega
        have hob := Lib.hid (Cl.ovL_bound (D := (D : Int)) (hcall.out Hok.out.2) (by omega))
        go_wp2_with fail
        refine (multiples_any A D aoA nA capA w2 (HJ.out.below hB) HnA.out (by have := Hne.out; omega) (hcall.out Hok.out.2) (by omega)).mono ?_
        rintro e w3 ⟨v, rfl, hov, hb3⟩
        replace hB := hB.trans (hb3.mono hB.size)
        clear hb3
        have hol : Hid (nA = (Cl.ovL A D).length) := Lib.hid (by rw [Cl.ovL_len]; exact HnA.out)
        obtain ⟨aoV, capV, rfl, -, hIV⟩ := own_ints hov hol.out
        have HIV := Lib.hid hIV
        have HI3 := Lib.hid (HI.out.below hB)
        clear hov hIV
        generalize Cl.ovL A (D : Int) = X at hob hol HIV hgo F4
        go_wp2_with fail
        go_loopw [11, 12, 36] (fun _ _ i wr => ∃ k : Nat, k ≤ n ∧ i = .int .i64 k ∧ Hid (∀ i, i < k → X.getD i 0 ≤ L.getD i 0 * (D : Int)) ∧ wr = w3) (fun _ _ i _ => n - (intOf i).toNat)
        case atStart => exact ⟨0, Nat.zero_le _, rfl, Lib.hid (fun i hi => by omega), rfl⟩
        case round =>
          obtain ⟨k, hk, rfl, hgood, hw⟩ := hrel
          rw [hw]
          clear hw wr
          by_cases hlt : k < n
          · have hkL : k < L.length := by have := Hn.out; omega
            have hkX : k < X.length := by have := hol.out; have := Hne.out; omega
            obtain ⟨b, off, rfl, hbs, hcx⟩ := HI3.out.at hkL
            obtain ⟨b2, off2, rfl, hbs2, hcx2⟩ := HIV.out.at hkX
            have hxb : 0 ≤ L.getD k 0 ∧ L.getD k 0 ≤ 1000 := Cl.getD_bound (by omega) HC.out.2.2 k
            have Hnext : Hid (X.getD k 0 ≤ L.getD k 0 * (D : Int) → ∀ i, i < k + 1 → X.getD i 0 ≤ L.getD i 0 * (D : Int)) := Lib.hid (fun h i hi => by
              by_cases e : i = k
              · rw [e]; exact h
              · exact hgood.out i (by omega))
            have Hbad : Hid (¬ (X.getD k 0 ≤ L.getD k 0 * (D : Int)) → C = 8) := Lib.hid (fun h => F3.out Hc.out Hok.out (fun hg => h (hgo.out.1 hg k hkL)))
            generalize L.getD k 0 = c at hcx hxb Hnext Hbad
            generalize X.getD k 0 = y at hcx2 Hnext Hbad
            have i1 : (k : Int) < (n : Int) := by omega
            have i2 : (k : Int) < (nA : Int) := by have := Hne.out; omega
            have p1 : 0 ≤ c * (D : Int) := Int.mul_nonneg hxb.1 (by omega)
            have p2 : c * (D : Int) ≤ 1000 * 10000 := Int.mul_le_mul hxb.2 (by omega) (by omega) (by omega)
            obtain ⟨P, hP⟩ : ∃ P, P = c * (D : Int) := ⟨_, rfl⟩
            rw [← hP] at p1 p2 Hnext Hbad
            have e3 : IntKind.i64.wrap (c * (D : Int)) = P := by rw [← hP]; exact IntWalk.i64_in _ (by omega)
            clear hP
            by_cases hg : y > P
            · have hC8 := Lib.hid (Hbad.out (by omega))
              go_wp2_with fail
              go_ret
              exact ⟨ret_int hC8.out.symm, hB⟩
            · have hN := Lib.hid (Hnext.out (by omega))
              go_wp2_with fail
              go_roundw
              case rel => exact ⟨k + 1, by omega, by go_num, hN, trivial⟩
              case measure => simp [intOf]; omega
          · have hkn : k = n := by omega
            have hgd : Hid (Cl.chGood L A) := Lib.hid (hgo.out.2 (fun i hi => hgood.out i (by have := Hn.out; omega)))
            have hC7 := Lib.hid (F4.out Hc.out ⟨Hok.out.1, hz⟩ hgd.out)
            clear hkn
            go_wp2_with fail
            have hXb : Hid (∀ x ∈ X, 0 ≤ x ∧ x ≤ 10000000) := Lib.hid (fun x hx => by
              refine ⟨(hob.out x hx).1, ?_⟩
              obtain ⟨i, hi, rfl⟩ := List.mem_iff_getElem.1 hx
              have h1 := hgo.out.1 hgd.out i (by have := hol.out; have := Hn.out; have := Hne.out; omega)
              have hxb : 0 ≤ L.getD i 0 ∧ L.getD i 0 ≤ 1000 := Cl.getD_bound (by omega) HC.out.2.2 i
              have p2 : L.getD i 0 * (D : Int) ≤ 1000 * 10000 := Int.mul_le_mul hxb.2 (by omega) (by omega) (by omega)
              rw [List.getD_eq_getElem?_getD, List.getElem?_eq_getElem hi] at h1
              simp only [Option.getD_some] at h1
              omega)
            refine (sum_any X aoV nA capV w3 HIV.out hol.out (by have := Hne.out; omega) (fun x hx => by have := hXb.out x hx; omega)).mono ?_
            rintro e w4 ⟨rfl, hw0⟩; obtain rfl := hw0.symm
            clear hw0
            generalize Fl.sumI X = S at hC7 ⊢
            have p1 : 0 ≤ E * (D : Int) := Int.mul_nonneg hE.1 (by omega)
            have p2 : E * (D : Int) ≤ 8000 * 10000 := Int.mul_le_mul hE.2 (by omega) (by omega) (by omega)
            obtain ⟨P, hP⟩ : ∃ P, P = E * (D : Int) := ⟨_, rfl⟩
            rw [← hP] at p1 p2 hC7
            have e3 : IntKind.i64.wrap (E * (D : Int)) = P := by rw [← hP]; exact IntWalk.i64_in _ (by omega)
            clear hP
            by_cases hS : S = P
            · have hC0 : Hid (C = 0) := Lib.hid (by rw [hC7.out, if_pos hS])
              go_wp2_with fail
              go_ret
              exact ⟨ret_int hC0.out.symm, hB⟩
            · have hC0 : Hid (C = 7) := Lib.hid (by rw [hC7.out, if_neg hS])
              have e1 : (S != P) = true := by simp [hS]
              go_wp2_with fail
              go_ret
              exact ⟨ret_int hC0.out.symm, hB⟩
    · have e1 : ((nA : Int) != (n : Int)) = true := by simp; omega
      have Hr := Lib.hid (F2.out (fun h => hne (by have := Hn.out; have := HnA.out; omega)))
      go_wp2_with fail
      go_ret
      exact ⟨ret_int Hr.out.symm, hB⟩
  · have Hr := Lib.hid (F1.out (by rw [hc]; decide))
    rw [hc]
    go_wp2_with fail
    go_ret
    exact ⟨ret_int Hr.out.symm, hB⟩
end Go.Proofs.Yteecfdjphjkdkaa
