import Derived.Test.YteecfdjphjkdkaaHa
import Derived.Deep.LoopGhost
namespace Go.Proofs.Yteecfdjphjkdkaa
open Go.RowKit
theorem rit_take (f : Int → Int) (L : List Int) (k : Nat) (hk : k < L.length) : ((L.take (k + 1)).map f).map (Value.int .i64) = ((L.take k).map f).map (Value.int .i64) ++ [.int .i64 (f L[k])] := tint_take f L k hk
set_option maxRecDepth 100000 in
set_option maxHeartbeats 4000000 in
theorem rwhole_any (L : List Int) (E : Int) (ao : Option Addr) (n cap : Nat) (w : World) (hI : Ints w ao L) (hln : n = L.length) (hok : Cl.okC L = true) (h0 : 0 ≤ E) (h1 : E ≤ Fl.sumI L) :
    Calls Try.prog 44 #[.slice ao n cap, .int .i64 E] w fun e w' => ∃ v, e = .returned (.tuple #[v, .int .i64 0]) ∧ w'.ownsRow w.heap.size 3 1 v n ((Cl.whole L E).map (Value.int .i64)) ∧ Below w.heap.size w w' := by
  obtain ⟨i0, hi0, hz0, hz1, hz2⟩ := info_in
  have HI0 := Lib.hid hI
  have Hn := Lib.hid hln
  have HC := Lib.hid (Cl.okC_iff.1 hok)
  have hn8 : n ≤ 8 := by have := HC.out; omega
  have hn1 : 1 ≤ n := by have := HC.out; omega
  have hS8 : 0 ≤ Fl.sumI L ∧ Fl.sumI L ≤ 8000 := by
    have h := Cl.sum_small (B := 1000) (by omega) (l := L) (fun x hx => by have := HC.out.2.2 x hx; omega)
    have h2 := Cl.sum_nonneg (l := L) (fun x hx => by have := HC.out.2.2 x hx; omega)
    have := HC.out; omega
  have hcase : Cl.caseC L E = 0 := Cl.caseC_ok.2 ⟨hok, h0, h1⟩
  have hE : 0 ≤ E ∧ E ≤ 8000 := by omega
  have HALL := Lib.hid (And.intro hok (And.intro h0 h1))
  clear hln hok h0 h1
  obtain ⟨M, hM⟩ : ∃ M, M = max 1 (Fl.sumI L) := ⟨_, rfl⟩
  have hMb : 1 ≤ M ∧ M ≤ 8000 := by omega
  have HM := Lib.hid hM
  clear hM
  go_enter Try.func44, Try.ntmps44
  go_wp2_with fail
  refine (rvalidate_any L E ao n cap w hI Hn.out (by omega)).mono ?_
  rintro e w1 ⟨rfl, hw0⟩; obtain rfl := hw0.symm
  rw [hcase]
  clear hcase hw0
  go_upto_region 4 with fail
  go_cut [7] from 19 to 21 (fun s6 wx => s6 = .int .i64 M ∧ wx = w)
  case first =>
    go_wp2_with fail
    refine (rSum_any L ao n cap w hI Hn.out (by omega) (fun x hx => by have := HC.out.2.2 x hx; omega)).mono ?_
    rintro e w1 ⟨rfl, hw0⟩; obtain rfl := hw0.symm
    by_cases hS1 : 1 < Fl.sumI L
    · have hSm : Fl.sumI L = M := by have := HM.out; omega
      rw [hSm] at hS1 ⊢
      clear hSm hS8
      go_wp2_with fail
      all_goals go_meet
      all_goals first | exact ⟨rfl, rfl⟩ | (exfalso; omega)
    · have hSm : (1 : Int) = M := by have := HM.out; omega
      go_wp2_with fail
      all_goals go_meet
      all_goals first | exact ⟨by rw [← hSm], rfl⟩ | exact ⟨congrArg _ hSm, rfl⟩
  case rest =>
    obtain ⟨rfl, rfl⟩ := hcut
    go_wp2_with fail
    go_loopw [8, 9, 10] (fun v u i wr => ∃ k : Nat, k ≤ n ∧ i = .int .i64 k ∧ Hid (wr.ownsRow wc.heap.size 3 1 v k (((L.take k).map fun c => c * E / M).map (Value.int .i64))) ∧ Hid (wr.ownsRow wc.heap.size 3 1 u k (((L.take k).map fun c => c * E % M).map (Value.int .i64))) ∧ Hid (Apt v u) ∧ Below wc.heap.size wc wr) (fun _ _ i _ => n - (intOf i).toNat)
    case atStart => exact ⟨0, Nat.zero_le _, rfl, Lib.hid ⟨rfl, .inl ⟨rfl, rfl⟩⟩, Lib.hid ⟨rfl, .inl ⟨rfl, rfl⟩⟩, Lib.hid (Apt.nil _), Below.refl _ _⟩
    case round =>
      obtain ⟨k, hk, rfl, hown, hown2, hap, hB⟩ := hrel
      by_cases hlt : k < n
      · have hkl : k < L.length := by have := Hn.out; omega
        obtain ⟨b, off, rfl, hbs, hcx⟩ := HI0.out.at hkl
        have hxe : L.getD k 0 = L[k] := by rw [List.getD_eq_getElem?_getD, List.getElem?_eq_getElem hkl]; rfl
        rw [hxe] at hcx
        have hxb : 0 ≤ L[k] ∧ L[k] ≤ 1000 := HC.out.2.2 _ (List.getElem_mem hkl)
        have hst1 := tint_take (fun c => c * E / M) L k hkl
        have hst2 := tint_take (fun c => c * E % M) L k hkl
        generalize L[k] = x at hcx hxb hst1 hst2
        have Hcx := Lib.hid hcx
        rw [← hB.cell (p := ⟨b, _, none⟩) hbs] at hcx
        have i1 : (k : Int) < (n : Int) := by omega
        obtain ⟨P, hP⟩ : ∃ P, P = x * E := ⟨_, rfl⟩
        have hPb : 0 ≤ P ∧ P ≤ 8000000 := by
          have p1 : 0 ≤ x * E := Int.mul_nonneg hxb.1 hE.1
          have p2 : x * E ≤ 1000 * 8000 := Int.mul_le_mul hxb.2 hE.2 hE.1 (by omega)
          omega
        have e1 : IntKind.i64.wrap (x * E) = P := by rw [← hP]; exact IntWalk.i64_in _ (by omega)
        simp only [← hP] at hst1 hst2
        have HH := Lib.hid (And.intro hst1 hst2)
        clear hst1 hst2 hP
        have hsz := hB.size
        go_wp2_with (first
          | (at_builtin; refine wpList_append_lies _ rfl _ _ 22 rfl wc.heap.size 3 i0 _ 1 8 Try.underlying22 hi0 hz0 hz1 hz2 rfl (by decide) _ k _ rfl (hown.out.alloc _) ⟨wr.heap.size, 0, none⟩ 1 1 [.int .i64 (P / M)] rfl rfl (World.news_of_block (cs := #[.int .i64 (P / M)]) (t := 3) (fr := (0, 0)) (heap_alloc_new wr _)) (by simp [Value.oneCell']) (by decide) (by unfold maxLen; omega) (by omega) (by simp; omega) (wr.heap.size + 1) (by simp) ?_; intro g1 cap1 w1 hown1 hgrow hat hlt5; have ho2 := Lib.hid (hap.out.grow (hown2.out.alloc _) hgrow); have hap1 := Lib.hid (hap.out.next hat (fun q hq => by have := (hown2.out.lt q hq).2; omega) (k + 1) cap1); have hB1 : Below wc.heap.size wc w1 := (hB.alloc hB.size _).grown hgrow (by simp; omega) (fun q hq => (hown.out.lt _ hq).1); replace hown1 := Lib.hid hown1; have hcx1 := (hB1.cell (p := ⟨b, _, none⟩) hbs).trans Hcx.out; clear hgrow hat hown hown2 hap hB hcx)
          | (at_builtin; have hsz1 := hB1.size; refine wpList_append_lies _ rfl _ _ 22 rfl wc.heap.size 3 i0 _ 1 8 Try.underlying22 hi0 hz0 hz1 hz2 rfl (by decide) _ k _ rfl (ho2.out.alloc _) ⟨w1.heap.size, 0, none⟩ 1 1 [.int .i64 (P % M)] rfl rfl (World.news_of_block (cs := #[.int .i64 (P % M)]) (t := 3) (fr := (0, 0)) (heap_alloc_new w1 _)) (by simp [Value.oneCell']) (by decide) (by unfold maxLen; omega) (by omega) (by simp; omega) (w1.heap.size + 1) (by simp) ?_; intro g2 cap2 w2 hown2 hgrow hat hlt6; have ho1 := Lib.hid (hap1.out.symm.grow (hown1.out.alloc _) hgrow); have hap2 := Lib.hid ((hap1.out.symm.next hat (fun q hq => by have := (hown1.out.lt q hq).2; omega) (k + 1) cap2).symm); have hB2 : Below wc.heap.size wc w2 := (hB1.alloc hB1.size _).grown hgrow (by simp; omega) (fun q hq => (ho2.out.lt _ hq).1); replace hown2 := Lib.hid hown2; clear hgrow hat hown1 ho2 hap1 hB1 hcx1))
        go_roundw
        case rel => exact ⟨k + 1, by omega, by go_num, Lib.hid (by rw [HH.out.1]; exact ho1.out), Lib.hid (by rw [HH.out.2]; exact hown2.out), hap2, hB2⟩
        case measure => simp [intOf]; omega
      · have hkn : k = n := by omega
        have Ho : Hid (wr.ownsRow wc.heap.size 3 1 u8 n ((Cl.wDown L E).map (Value.int .i64)) ∧ wr.ownsRow wc.heap.size 3 1 u9 n ((Cl.wRest L E).map (Value.int .i64))) := Lib.hid (by
          have h1 := hown.out
          have h2 := hown2.out
          rw [hkn, Hn.out, List.take_length] at h1 h2
          unfold Cl.wDown Cl.wRest
          rw [Hn.out, ← HM.out]
          exact ⟨h1, h2⟩)
        clear hkn hown hown2
        obtain ⟨ga, ca, rfl, hba, hla, hnca, -⟩ := own_cells Ho.out.1 (by omega)
        obtain ⟨gr, cr, rfl, hbr, hlr, hncr, -⟩ := own_cells Ho.out.2 (by omega)
        have hne : ga ≠ gr := by
          rcases hap.out with h | h
          · cases h
          · exact fun e => h (by rw [e]; rfl)
        have hneg : gr ≠ ga := fun e => hne e.symm
        have hov := Lib.hid Ho.out.1
        have hou := Lib.hid Ho.out.2
        clear Ho hap hnca hncr
        have hN : Hid (Cl.wLeft L E = E - Fl.sumI (Cl.wDown L E) ∧ Cl.whole L E = (Cl.rIt (Cl.wDown L E, Cl.wRest L E) (Cl.wLeft L E)).1) := Lib.hid (by
          obtain ⟨a1, a2, a3⟩ := HALL.out
          refine ⟨(Cl.rests L E a1 a2 a3).2.2, ?_⟩
          rw [(Cl.rIt_sim a1 a2 a3 _ (Nat.le_refl _)).1]; rfl)
        have HW : Hid (∀ k : Nat, k ≤ Cl.wLeft L E → (Cl.rIt (Cl.wDown L E, Cl.wRest L E) k).1.length = n ∧ (Cl.rIt (Cl.wDown L E, Cl.wRest L E) k).2.length = n ∧ (∀ x ∈ (Cl.rIt (Cl.wDown L E, Cl.wRest L E) k).1, 0 ≤ x ∧ x ≤ 8000000 + k) ∧ Fl.sumI (Cl.rIt (Cl.wDown L E, Cl.wRest L E) k).1 = E - Cl.wLeft L E + k) := Lib.hid (fun k hk => by
          obtain ⟨a1, a2, a3⟩ := HALL.out
          have hl := Cl.rIt_len (Cl.wDown L E, Cl.wRest L E) k
          have hd1 : (Cl.wDown L E).length = n := by unfold Cl.wDown; simp [Hn.out]
          have hd2 : (Cl.wRest L E).length = n := by unfold Cl.wRest; simp [Hn.out]
          refine ⟨hl.1.trans hd1, hl.2.trans hd2, ?_, ?_⟩
          · rw [(Cl.rIt_sim a1 a2 a3 k hk).1]
            exact Cl.wIt_bound (s := (Cl.wDown L E, Cl.wRest L E)) (b := 8000000) (by omega) (Cl.wDown_bound a1 a2 a3) k
          · rw [(Cl.rIt_sim a1 a2 a3 k hk).1, (Cl.wIt_inv a1 a2 a3 k hk).2.2, (Cl.rests L E a1 a2 a3).2.2]
            omega)
        have HS : Hid (∀ k : Nat, Cl.rIt (Cl.wDown L E, Cl.wRest L E) (k + 1) = Cl.rStep (Cl.rIt (Cl.wDown L E, Cl.wRest L E) k)) := Lib.hid (fun k => rfl)
        have H0 : Hid (Cl.rIt (Cl.wDown L E, Cl.wRest L E) 0 = (Cl.wDown L E, Cl.wRest L E)) := Lib.hid rfl
        generalize Cl.rIt (Cl.wDown L E, Cl.wRest L E) = F at hN HW HS H0 ⊢
        have hNb : Cl.wLeft L E ≤ 8000 := by unfold Cl.wLeft; have := HALL.out; have := Cl.sum_nonneg (l := Cl.wDown L E) (fun x hx => (Cl.wDown_bound this.1 this.2.1 this.2.2 x hx).1); omega
        generalize Cl.wLeft L E = N at hN HW hNb ⊢
        go_wp2_with fail
        go_loopg [11, 12] N (fun gk _ _ wr => ∃ k : Nat, k ≤ N ∧ gk = N - k ∧ Hid (wr.ownsRow wc.heap.size 3 1 (.slice (some ⟨ga, 0, none⟩) n ca) n ((F k).1.map (Value.int .i64))) ∧ Hid (wr.ownsRow wc.heap.size 3 1 (.slice (some ⟨gr, 0, none⟩) n cr) n ((F k).2.map (Value.int .i64))) ∧ Below wc.heap.size wc wr)
        case atStart => exact ⟨0, Nat.zero_le _, by omega, Lib.hid (by rw [H0.out]; exact hov.out), Lib.hid (by rw [H0.out]; exact hou.out), hB⟩
        case round =>
          clear hov hou hB
          obtain ⟨k, hk, hgk, hov, hou, hB⟩ := hrel
          have hw := HW.out k hk
          have hst : Hid (k < N → F (k + 1) = Cl.rStep (F k)) := Lib.hid (fun _ => HS.out k)
          have hfin : Hid (k = N → Cl.whole L E = (F k).1) := Lib.hid (fun h => by rw [hN.out.2, h])
          generalize hF : F k = s at hov hou hw hst hfin
          obtain ⟨A, R⟩ := s
          simp only at hov hou hw hfin
          have HF := Lib.hid hF
          clear hF
          have hA := Lib.hid hw.1
          have hR := Lib.hid hw.2.1
          have hAb := Lib.hid hw.2.2.1
          have hS := hw.2.2.2
          clear hw
          have hIA : Hid (Ints wr (some ⟨ga, 0, none⟩) A) := Lib.hid (by
            obtain ⟨ao2, cap2, he, -, hI2⟩ := own_ints hov.out hA.out.symm
            cases he; exact hI2)
          have hIR : Hid (Ints wr (some ⟨gr, 0, none⟩) R) := Lib.hid (by
            obtain ⟨ao2, cap2, he, -, hI2⟩ := own_ints hou.out hR.out.symm
            cases he; exact hI2)
          go_wp2_with fail
          refine (rSum_any A _ n ca wr hIA.out hA.out.symm (by omega) (fun x hx => by have := hAb.out x hx; omega)).mono ?_
          rintro e w4 ⟨rfl, hw0⟩; obtain rfl := hw0.symm
          clear hw0 hIA
          have HSa : Hid (Fl.sumI A = E - (N : Int) + k) := Lib.hid hS
          clear hS
          generalize Fl.sumI A = SA at HSa ⊢
          by_cases hlt2 : k < N
          · have hg : SA < E := by have := HSa.out; omega
            clear hfin
            go_wp2_with fail
            go_loopw [11, 12] (fun b i wx => ∃ (bb ii : Nat), b = .int .i64 bb ∧ i = .int .i64 ii ∧ bb < ii ∧ ii ≤ n ∧ Hid ((∀ j, j < ii → R.getD j 0 ≤ R.getD bb 0) ∧ ∀ j, j < bb → R.getD j 0 ≠ R.getD bb 0) ∧ Below wr.heap.size wr wx) (fun _ i _ => n - (intOf i).toNat)
            case atStart => exact ⟨0, 1, rfl, rfl, by omega, hn1, Lib.hid ⟨fun j hj => by rw [show j = 0 by omega]; omega, fun j hj => by omega⟩, Below.refl _ _⟩
            case round =>
              obtain ⟨bb, ii, rfl, rfl, hbi, hii, hbest, hbx⟩ := hrel
              have hIRx := hIR.out.below hbx
              by_cases hin : ii < n
              · have hR1 : ii < R.length := by have := hR.out; omega
                have hR2 : bb < R.length := by have := hR.out; omega
                obtain ⟨b1, o1, he1, hb1l, hx1⟩ := hIRx.at hR1
                cases he1
                obtain ⟨b2, o2, he2, -, hx2⟩ := hIRx.at hR2
                cases he2
                obtain ⟨x1, hxx1⟩ : ∃ x, x = R.getD ii 0 := ⟨_, rfl⟩
                obtain ⟨x2, hxx2⟩ : ∃ x, x = R.getD bb 0 := ⟨_, rfl⟩
                rw [← hxx1] at hx1
                rw [← hxx2] at hx2
                have HX := Lib.hid (And.intro hxx1 hxx2)
                clear hxx1 hxx2 hb1l
                rw [Nat.zero_add] at hx1 hx2
                have i1 : (ii : Int) < (n : Int) := by omega
                have i2 : (bb : Int) < (n : Int) := by omega
                go_upto_region 16 with fail
                go_region
                replace hbx := below_drewN hbx 1
                clear hx1 hx2 hIRx
                by_cases hgt : x2 < x1
                · have hnew : Hid ((∀ j, j < ii + 1 → R.getD j 0 ≤ R.getD ii 0) ∧ ∀ j, j < ii → R.getD j 0 ≠ R.getD ii 0) := Lib.hid (by
                    have a := hbest.out.1
                    have b := HX.out
                    refine ⟨fun j hj => ?_, fun j hj => ?_⟩
                    · by_cases e : j = ii
                      · rw [e]; omega
                      · have := a j (by omega); omega
                    · have := a j hj; omega)
                  go_wp2_with fail
                  go_roundw
                  case rel => exact ⟨ii, ii + 1, rfl, by go_num, by omega, by omega, hnew, hbx⟩
                  case measure => simp [intOf]; omega
                · have hnew : Hid ((∀ j, j < ii + 1 → R.getD j 0 ≤ R.getD bb 0) ∧ ∀ j, j < bb → R.getD j 0 ≠ R.getD bb 0) := Lib.hid (by
                    have a := hbest.out.1
                    have b := HX.out
                    refine ⟨fun j hj => ?_, hbest.out.2⟩
                    by_cases e : j = ii
                    · rw [e]; omega
                    · exact a j (by omega))
                  go_wp2_with fail
                  go_roundw
                  case rel => exact ⟨bb, ii + 1, rfl, by go_num, by omega, by omega, hnew, hbx⟩
                  case measure => simp [intOf]; omega
              · have hiin : ii = n := by omega
                have htop : Hid (Cl.topI R = bb) := Lib.hid (Cl.topI_eq (by rw [hR.out]; omega) (fun y hy => by
                  obtain ⟨i, hi, rfl⟩ := List.mem_iff_getElem.1 hy
                  rw [← Cl.gd hi]
                  exact hbest.out.1 i (by rw [hiin, ← hR.out]; exact hi)) hbest.out.2)
                have hqn : bb < n := by omega
                clear hbest hiin hIRx
                replace hov := Lib.hid (own_below hov.out hbx)
                replace hou := Lib.hid (own_below hou.out hbx)
                replace hB := hB.trans (hbx.mono hB.size)
                clear hbx hIR
                obtain ⟨g1, c1, he1, hg1b, hg1l, hx1, hf1, hset1⟩ := own_at hov.out hA.out.symm hqn
                cases he1
                obtain ⟨x, hx⟩ : ∃ x, x = A.getD bb 0 := ⟨_, rfl⟩
                rw [← hx] at hx1
                have hxb : 0 ≤ x ∧ x ≤ 8000000 + k := by rw [hx]; exact Cl.getD_bound (by omega) hAb.out bb
                have Hx := Lib.hid hx
                clear hx
                have e2 : IntKind.i64.wrap (x + 1) = x + 1 := IntWalk.i64_in _ (by omega)
                have i1 : (bb : Int) < (n : Int) := by omega
                have how1 := Lib.hid (hset1 (x + 1))
                have hou1 := Lib.hid (hou.out.kept (grown_setCell wr ⟨ga, bb, none⟩ (.int .i64 (x + 1))) (.inr (fun e => hneg (by simpa [Value.ownBlock] using e))))
                have hB1 : Below wc.heap.size wc (wr.setCell ⟨ga, bb, none⟩ (.int .i64 (x + 1))) := hB.grown (grown_setCell wr ⟨ga, bb, none⟩ (.int .i64 (x + 1))) hB.size (fun q hq => by cases hq; exact hba)
                obtain ⟨g2, c2, he2, -, -, hx2, hf2, -⟩ := own_at hou.out hR.out.symm hqn
                cases he2
                obtain ⟨g3, c3, he3, -, -, -, -, hset2⟩ := own_at hou1.out hR.out.symm hqn
                cases he3
                have how2 := Lib.hid (how1.out.kept (grown_setCell (wr.setCell ⟨ga, bb, none⟩ (.int .i64 (x + 1))) ⟨gr, bb, none⟩ (.int .i64 (-1))) (.inr (fun e => hne (by simpa [Value.ownBlock] using e))))
                have hou2 := Lib.hid (hset2 (-1))
                have hB2 : Below wc.heap.size wc ((wr.setCell ⟨ga, bb, none⟩ (.int .i64 (x + 1))).setCell ⟨gr, bb, none⟩ (.int .i64 (-1))) := hB1.grown (grown_setCell _ ⟨gr, bb, none⟩ (.int .i64 (-1))) hB1.size (fun q hq => by cases hq; exact hbr)
                clear hset1 hset2 hov hou hB how1 hou1 hB1
                have hstep : Hid (F (k + 1) = (A.set bb (x + 1), R.set bb (-1))) := Lib.hid (by
                  rw [hst.out hlt2]
                  unfold Cl.rStep
                  simp only
                  rw [htop.out, ← Hx.out])
                go_wp2_with fail
                go_roundg (N - (k + 1))
                case measure => omega
                case rel => exact ⟨k + 1, by omega, rfl, Lib.hid (by rw [hstep.out]; exact how2.out), Lib.hid (by rw [hstep.out]; exact hou2.out), hB2⟩
          · have hkN : k = N := by omega
            have hg : ¬ (SA < E) := by have := HSa.out; omega
            have Ho : Hid (wr.ownsRow wc.heap.size 3 1 (.slice (some ⟨ga, 0, none⟩) n ca) n ((Cl.whole L E).map (Value.int .i64))) := Lib.hid (by
              rw [hfin.out hkN]; exact hov.out)
            clear hkN
            go_wp2_with fail
            go_ret2
            exact ⟨_, rfl, Ho.out, hB⟩
end Go.Proofs.Yteecfdjphjkdkaa
