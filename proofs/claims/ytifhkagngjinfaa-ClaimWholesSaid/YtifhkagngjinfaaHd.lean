import Derived.Test.YtifhkagngjinfaaHc
namespace Go.Proofs.Ytifhkagngjinfaa
open Go.RowKit
namespace Cl
theorem ceil_eq (P M : Int) (hM : 1 ≤ M) : (P + M - 1) / M = P / M + min 1 (P % M) := by
  have h1 := Int.emod_add_mul_ediv P M
  have h2 := Int.emod_nonneg P (show M ≠ 0 by omega)
  have h3 := Int.emod_lt_of_pos P (show 0 < M by omega)
  have e : P + M - 1 = (P % M + M - 1) + M * (P / M) := by omega
  rw [e, Int.add_mul_ediv_left _ _ (by omega)]
  by_cases h : P % M = 0
  · rw [h, Int.ediv_eq_zero_of_lt (by omega) (by omega)]; omega
  · have e2 : P % M + M - 1 = (P % M - 1) + M * 1 := by omega
    rw [e2, Int.add_mul_ediv_left _ _ (by omega), Int.ediv_eq_zero_of_lt (by omega) (by omega)]
    omega
theorem down_at {L : List Int} {E : Int} {k : Nat} (hk : k < L.length) : (wDown L E).getD k 0 = L[k] * E / max 1 (Fl.sumI L) ∧ (wRest L E).getD k 0 = L[k] * E % max 1 (Fl.sumI L) := by
  unfold wDown wRest
  rw [gd (by simpa using hk), gd (by simpa using hk), List.getElem_map, List.getElem_map]
  exact ⟨rfl, rfl⟩
end Cl
theorem run_quo (x m : Int) (w : World) (hx : 0 ≤ x) (hm : 1 ≤ m) (hb : x ≤ 9223372036854775807) : (binOp BinOp.quo 3 (.int .i64 x) (.int .i64 m)).run Try.prog w = .ok (.int .i64 (x / m)) w := by
  have h1 : ¬ m = 0 := by omega
  have h2 : x.tdiv m = x / m := Int.tdiv_eq_ediv_of_nonneg hx
  have h3 : 0 ≤ x / m := Int.ediv_nonneg hx (by omega)
  have h4 : x / m ≤ x := Int.ediv_le_self _ hx
  have h5 : IntKind.i64.wrap (x / m) = x / m := IntWalk.i64_in _ (by omega)
  simp [go_sem, h1, h2, h5]
set_option maxRecDepth 100000 in
set_option maxHeartbeats 2000000 in
theorem rcheckWhole_any (L : List Int) (E : Int) (A : List Int) (ao : Option Addr) (n cap : Nat) (aoA : Option Addr) (nA capA : Nat) (w : World) (hI : Ints w ao L) (hJ : Ints w aoA A) (hln : n = L.length) (hlA : nA = A.length) (hn : n ≤ 100000) (_ : nA ≤ 100000) :
    Calls Try.prog 47 #[.slice ao n cap, .int .i64 E, .slice aoA nA capA] w fun e w' => e = .returned (.int .i64 (Cl.cwC L E A)) ∧ Below w.heap.size w w' := by
  have HI := Lib.hid hI
  have HJ := Lib.hid hJ
  have Hn := Lib.hid hln
  have HnA := Lib.hid hlA
  have hB := Below.refl w.heap.size w
  have F1 := Lib.hid (@Cl.cw_case L A E)
  have F2 := Lib.hid (@Cl.cw_arg L A E)
  have F3 := Lib.hid (@Cl.cw_rule L A E)
  have F4 := Lib.hid (@Cl.cw_sum L A E)
  generalize Cl.cwC L E A = C at F1 F2 F3 F4 ⊢
  clear hln hlA hI hJ
  go_enter Try.func47, Try.ntmps47
  go_wp2_with fail
  refine (rvalidate_any L E ao n cap w HI.out Hn.out hn).mono ?_
  rintro e w1 ⟨rfl, hw0⟩; obtain rfl := hw0.symm
  clear hw0
  rcases Cl.case_01 L E with hc | hc
  · have Hc := Lib.hid hc
    rw [hc]
    clear hc
    by_cases hne : nA = n
    · have e1 : ((nA : Int) != (n : Int)) = false := by rw [hne]; simp
      have Hne := Lib.hid hne
      obtain ⟨a1, a2, a3⟩ := Cl.caseC_ok.1 Hc.out
      have HC := Lib.hid (Cl.okC_iff.1 a1)
      have hS8 : 0 ≤ Fl.sumI L ∧ Fl.sumI L ≤ 8000 := by
        have h := Cl.sum_small (B := 1000) (by omega) (l := L) (fun x hx => by have := HC.out.2.2 x hx; omega)
        have h2 := Cl.sum_nonneg (l := L) (fun x hx => by have := HC.out.2.2 x hx; omega)
        have := HC.out; omega
      have hE : 0 ≤ E ∧ E ≤ 8000 := by omega
      have hn8 : n ≤ 8 ∧ 1 ≤ n := by have := HC.out; have := Hn.out; omega
      obtain ⟨M, hM⟩ : ∃ M, M = max 1 (Fl.sumI L) := ⟨_, rfl⟩
      have hMb : 1 ≤ M ∧ M ≤ 8000 := by omega
      have HM := Lib.hid hM
      clear hM a1 a2 a3 hne
      go_wp2_with fail
      go_loopw [8] (fun i wr => ∃ k : Nat, k ≤ nA ∧ i = .int .i64 k ∧ Hid (∀ x ∈ A.take k, 0 ≤ x ∧ x ≤ 1000) ∧ wr = w) (fun i _ => nA - (intOf i).toNat)
      case atStart => exact ⟨0, Nat.zero_le _, rfl, Lib.hid (by simp), rfl⟩
      case round =>
        obtain ⟨k, hk, rfl, hgood, hw⟩ := hrel
        rw [hw]
        clear hw wr
        by_cases hlt : k < nA
        · have hkA : k < A.length := by have := HnA.out; omega
          obtain ⟨b, off, rfl, hbs, hcx⟩ := HJ.out.at hkA
          have hmy : Hid (A.take (k + 1) = A.take k ++ [A[k]] ∧ A[k] ∈ A) := Lib.hid ⟨List.take_succ_eq_append_getElem hkA, List.getElem_mem hkA⟩
          rw [Cl.gd hkA] at hcx
          generalize A[k] = a at hcx hmy
          have i1 : (k : Int) < (nA : Int) := by omega
          go_wp2_with fail
          refine (rwithin_any a 0 1000 w).mono ?_
          rintro e w1 ⟨rfl, hw0⟩; obtain rfl := hw0.symm
          clear hw0
          by_cases hg : 0 ≤ a ∧ a ≤ 1000
          · have e2 : (decide (0 ≤ a) && decide (a ≤ 1000)) = true := by simp [hg]
            rw [e2]
            have hok2 : Hid (∀ x ∈ A.take (k + 1), 0 ≤ x ∧ x ≤ 1000) := Lib.hid (by
              rw [hmy.out.1]
              intro z hz
              rcases List.mem_append.1 hz with h | h
              · exact hgood.out z h
              · rw [List.mem_singleton] at h; rw [h]; exact hg)
            go_wp2_with fail
            go_roundw
            case rel => exact ⟨k + 1, by omega, by go_num, hok2, trivial⟩
            case measure => simp [intOf]; omega
          · have e2 : (decide (0 ≤ a) && decide (a ≤ 1000)) = false := by simp; omega
            rw [e2]
            have Hr := Lib.hid (F2.out (fun h => hg (Cl.okL_iff.1 h.2 a hmy.out.2)))
            go_wp2_with fail
            go_ret
            exact ⟨ret_int Hr.out.symm, hB⟩
        · have hkn : k = nA := by omega
          have HAb : Hid (∀ x ∈ A, 0 ≤ x ∧ x ≤ 1000) := Lib.hid (by have h := hgood.out; rw [hkn, HnA.out, List.take_length] at h; exact h)
          have Hok : Hid (A.length = L.length ∧ Cl.okL 1000 A = true) := Lib.hid ⟨by have := Hn.out; have := HnA.out; have := Hne.out; omega, Cl.okL_iff.2 HAb.out⟩
          clear hkn hgood
          go_upto_region 11 with fail
          go_cut [9] from 34 to 36 (fun s6 wx => s6 = .int .i64 M ∧ wx = w)
          case first =>
            go_wp2_with fail
            refine (rSum_any L ao n cap w HI.out Hn.out (by omega) (fun x hx => by have := HC.out.2.2 x hx; omega)).mono ?_
            rintro e w1 ⟨rfl, hw0⟩; obtain rfl := hw0.symm
            by_cases hS1 : 1 < Fl.sumI L
            · have hSm : Fl.sumI L = M := by have := HM.out; omega
              rw [hSm] at hS1 ⊢
              clear hSm hS8
              go_wp2_with fail
              all_goals go_meet
              all_goals first | exact ⟨rfl, rfl⟩ | (exfalso; omega)
            · have hSm : (1 : Int) = M := by have := HM.out; omega
              go_wp2_with fail
              all_goals go_meet
              all_goals first | exact ⟨by rw [← hSm], rfl⟩ | exact ⟨congrArg _ hSm, rfl⟩
          case rest =>
            obtain ⟨rfl, rfl⟩ := hcut
            go_wp2_with fail
            go_loopw [10] (fun i wr => ∃ k : Nat, k ≤ nA ∧ i = .int .i64 k ∧ Hid (∀ i, i < k → (Cl.wDown L E).getD i 0 ≤ A.getD i 0 ∧ A.getD i 0 ≤ (Cl.wDown L E).getD i 0 + min 1 ((Cl.wRest L E).getD i 0)) ∧ Below wc.heap.size wc wr) (fun i _ => nA - (intOf i).toNat)
            case atStart => exact ⟨0, Nat.zero_le _, rfl, Lib.hid (fun i hi => by omega), Below.refl _ _⟩
            case round =>
              obtain ⟨k, hk, rfl, hgood, hb⟩ := hrel
              by_cases hlt : k < nA
              · have hkA : k < A.length := by have := HnA.out; omega
                have hkL : k < L.length := by have := Hn.out; have := Hne.out; omega
                obtain ⟨b, off, rfl, hbs, hcx⟩ := (HJ.out.below hb).at hkA
                obtain ⟨b2, off2, rfl, hbs2, hcx2⟩ := (HI.out.below hb).at hkL
                rw [Cl.gd hkL] at hcx2
                have hxb := HC.out.2.2 _ (List.getElem_mem hkL)
                have hab := HAb.out _ (List.getElem_mem hkA)
                rw [← Cl.gd hkA] at hab
                have hda := Cl.down_at (E := E) hkL
                rw [← HM.out] at hda
                have Hnext : Hid (L[k] * E / M ≤ A.getD k 0 ∧ A.getD k 0 ≤ (L[k] * E + M - 1) / M → ∀ i, i < k + 1 → (Cl.wDown L E).getD i 0 ≤ A.getD i 0 ∧ A.getD i 0 ≤ (Cl.wDown L E).getD i 0 + min 1 ((Cl.wRest L E).getD i 0)) := Lib.hid (fun h i hi => by
                  by_cases e : i = k
                  · rw [e, hda.1, hda.2, ← Cl.ceil_eq _ _ hMb.1]; exact h
                  · exact hgood.out i (by omega))
                have Hbad : Hid (¬ (L[k] * E / M ≤ A.getD k 0 ∧ A.getD k 0 ≤ (L[k] * E + M - 1) / M) → C = 8) := Lib.hid (fun h => F3.out Hc.out Hok.out (fun hg => h (by
                  have := hg k hkL
                  rw [hda.1, hda.2, ← Cl.ceil_eq _ _ hMb.1] at this
                  exact this)))
                clear hda hgood
                generalize A.getD k 0 = a at hcx hab Hnext Hbad
                generalize L[k] = x at hcx2 hxb Hnext Hbad
                have i1 : (k : Int) < (nA : Int) := by omega
                have i2 : (k : Int) < (n : Int) := by have := Hne.out; omega
                obtain ⟨P, hP⟩ : ∃ P, P = x * E := ⟨_, rfl⟩
                have hPb : 0 ≤ P ∧ P ≤ 8000000 := by
                  have p1 : 0 ≤ x * E := Int.mul_nonneg hxb.1 hE.1
                  have p2 : x * E ≤ 1000 * 8000 := Int.mul_le_mul hxb.2 hE.2 hE.1 (by omega)
                  omega
                have e3 : IntKind.i64.wrap (x * E) = P := by rw [← hP]; exact IntWalk.i64_in _ (by omega)
                rw [← hP] at Hnext Hbad
                clear hP
                have e4 : IntKind.i64.wrap (P + M) = P + M := IntWalk.i64_in _ (by omega)
                have e5 : IntKind.i64.wrap (P + M - 1) = P + M - 1 := IntWalk.i64_in _ (by omega)
                have q0 : ¬ M = 0 := by omega
                have q1 : P.tdiv M = P / M := Int.tdiv_eq_ediv_of_nonneg hPb.1
                have q2 : (P + M - 1).tdiv M = (P + M - 1) / M := Int.tdiv_eq_ediv_of_nonneg (by omega)
                have q3 : 0 ≤ P / M ∧ P / M ≤ P := ⟨Int.ediv_nonneg hPb.1 (by omega), Int.ediv_le_self _ hPb.1⟩
                have q4 : 0 ≤ (P + M - 1) / M ∧ (P + M - 1) / M ≤ P + M - 1 := ⟨Int.ediv_nonneg (by omega) (by omega), Int.ediv_le_self _ (by omega)⟩
                generalize P / M = D1 at q1 q3 Hnext Hbad
                generalize (P + M - 1) / M = D2 at q2 q4 Hnext Hbad
                have q5 : IntKind.i64.wrap D1 = D1 := IntWalk.i64_in _ (by omega)
                have q6 : IntKind.i64.wrap D2 = D2 := IntWalk.i64_in _ (by omega)
                go_upto_region 15 with fail
                by_cases hg : D1 ≤ a ∧ a ≤ D2
                · have e6 : (decide (D1 ≤ a) && decide (a ≤ D2)) = true := by simp [hg]
                  have Hg := Lib.hid (Hnext.out hg)
                  clear hg
                  go_region_held3 (fun w' => w'.cell? ⟨b, off + k, none⟩ = some (.int .i64 a) ∧ w'.cell? ⟨b2, off2 + k, none⟩ = some (.int .i64 x))
                    (exact ⟨hcx, hcx2⟩)
                    ((go_at_call 58; refine (rwithin_any a D1 D2 _).mono ?_; rintro e w8 ⟨rfl, hw0⟩; obtain rfl := hw0.symm; rw [e6]; clear hw0))
                  replace hb := below_drewN hb 1
                  go_wp2_with fail
                  go_roundw
                  case rel => exact ⟨k + 1, by omega, by go_num, Hg, hb⟩
                  case measure => simp [intOf]; omega
                · have e6 : (decide (D1 ≤ a) && decide (a ≤ D2)) = false := by simp; omega
                  have Hg := Lib.hid (Hbad.out hg)
                  clear hg
                  go_region_held3 (fun w' => w'.cell? ⟨b, off + k, none⟩ = some (.int .i64 a) ∧ w'.cell? ⟨b2, off2 + k, none⟩ = some (.int .i64 x))
                    (exact ⟨hcx, hcx2⟩)
                    ((go_at_call 58; refine (rwithin_any a D1 D2 _).mono ?_; rintro e w8 ⟨rfl, hw0⟩; obtain rfl := hw0.symm; rw [e6]; clear hw0))
                  replace hb := below_drewN hb 1
                  go_wp2_with fail
                  go_ret
                  exact ⟨ret_int Hg.out.symm, hB.trans (hb.mono hB.size)⟩
              · have hkn : k = nA := by omega
                have hgd : Hid (Cl.wGood L A E) := Lib.hid (fun i hi => hgood.out i (by have := Hn.out; have := Hne.out; omega))
                have hC7 := Lib.hid (F4.out Hc.out Hok.out hgd.out)
                clear hkn
                go_wp2_with fail
                refine (rSum_any A aoA nA capA wr (HJ.out.below hb) HnA.out (by have := Hne.out; omega) (fun x hx => by have := HAb.out x hx; omega)).mono ?_
                rintro e w4 ⟨rfl, hw0⟩; obtain rfl := hw0.symm
                clear hw0
                generalize Fl.sumI A = S at hC7 ⊢
                by_cases hS : S = E
                · have hC0 : Hid (C = 0) := Lib.hid (by rw [hC7.out, if_pos hS])
                  go_wp2_with fail
                  go_ret
                  exact ⟨ret_int hC0.out.symm, hB.trans (hb.mono hB.size)⟩
                · have hC0 : Hid (C = 7) := Lib.hid (by rw [hC7.out, if_neg hS])
                  have e1 : (S != E) = true := by simp [hS]
                  go_wp2_with fail
                  go_ret
                  exact ⟨ret_int hC0.out.symm, hB.trans (hb.mono hB.size)⟩
    · have e1 : ((nA : Int) != (n : Int)) = true := by simp; omega
      have Hr := Lib.hid (F2.out (fun h => hne (by have := Hn.out; have := HnA.out; omega)))
      go_wp2_with fail
      go_ret
      exact ⟨ret_int Hr.out.symm, hB⟩
  · have Hr := Lib.hid (F1.out (by rw [hc]; decide))
    rw [hc]
    go_wp2_with fail
    go_ret
    exact ⟨ret_int Hr.out.symm, hB⟩
end Go.Proofs.Ytifhkagngjinfaa
