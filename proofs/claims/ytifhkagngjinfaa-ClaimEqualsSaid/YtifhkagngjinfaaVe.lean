import Derived.Test.YtifhkagngjinfaaVd
import Derived.Test.YtifhkagngjinfaaQc
namespace Go.Proofs.Ytifhkagngjinfaa
open Go.RowKit
set_option maxRecDepth 100000 in
set_option maxHeartbeats 20000000 in
theorem rmoreEq_any (x y : List (Int × Int)) (aox : Option Addr) (nx cx : Nat) (aoy : Option Addr) (ny cy : Nat) (w : World) (hX : Pts w aox x) (hY : Pts w aoy y) (hlx : nx = x.length) (hly : ny = y.length) (hbx : nx ≤ 100000) (hby : ny ≤ 100000) :
    Calls Try.prog 41 #[.slice aox nx cx, .slice aoy ny cy] w fun e w' => e = .returned (.tuple #[.bool (Cl.meB x y), .int .i64 (Cl.meC x y)]) ∧ Below w.heap.size w w' := by
  have HX := Lib.hid hX
  have HY := Lib.hid hY
  have Hx := Lib.hid hlx
  have Hy := Lib.hid hly
  have hB := Below.refl w.heap.size w
  have hxl := Cl.com_le x
  have hyl := Cl.com_le y
  have F1 : Hid (¬ ((1 ≤ nx ∧ nx ≤ 8) ∧ (1 ≤ ny ∧ ny ≤ 8) ∧ Cl.com x ≠ 0 ∧ Cl.com y ≠ 0) → Cl.meB x y = false ∧ Cl.meC x y = 1) := Lib.hid (fun h => Cl.me_arg (by unfold Cl.meOk; rw [← hlx, ← hly]; exact h))
  have HO : Hid (((1 ≤ nx ∧ nx ≤ 8) ∧ (1 ≤ ny ∧ ny ≤ 8) ∧ Cl.com x ≠ 0 ∧ Cl.com y ≠ 0) → Cl.meOk x y) := Lib.hid (fun h => by unfold Cl.meOk; rw [← hlx, ← hly]; exact h)
  have F2 := Lib.hid (@Cl.me_fit x y)
  have F3 := Lib.hid (@Cl.me_no x y)
  have F4 := Lib.hid (@Cl.me_yes x y)
  have hxa := Lib.hid (@Cl.com_all x)
  have hya := Lib.hid (@Cl.com_all y)
  have hfit : Hid (Cl.meOk x y → (Cl.meFit x y ↔ nx = ny ∧ Fl.sumI (Cl.srt (Cl.ovL x (Cl.com x))) * (Cl.com y : Int) = Fl.sumI (Cl.srt (Cl.ovL y (Cl.com y))) * (Cl.com x : Int))) := Lib.hid (fun h => by rw [hlx, hly]; exact Cl.fit_iff h)
  have hle : Hid (Cl.meOk x y → (Cl.meLe x y ↔ ∀ k, k < nx → Fl.sumI ((Cl.srt (Cl.ovL y (Cl.com y))).take k) * (Cl.com x : Int) ≤ Fl.sumI ((Cl.srt (Cl.ovL x (Cl.com x))).take k) * (Cl.com y : Int))) := Lib.hid (fun h => by rw [hlx]; exact Cl.le_iff h)
  have HCX : Hid (∀ W, Below w.heap.size w W → Calls Try.prog 68 #[.slice aox nx cx] W fun e w' => e = .returned (.int .i64 (Cl.com x : Nat)) ∧ Below W.heap.size W w') := Lib.hid (fun W hW => common_any x aox nx cx W (hX.below hW) hlx hbx)
  have HCY : Hid (∀ W, Below w.heap.size w W → Calls Try.prog 68 #[.slice aoy ny cy] W fun e w' => e = .returned (.int .i64 (Cl.com y : Nat)) ∧ Below W.heap.size W w') := Lib.hid (fun W hW => common_any y aoy ny cy W (hY.below hW) hly hby)
  generalize Cl.meB x y = B at F1 F2 F3 F4 ⊢
  generalize Cl.meC x y = C at F1 F2 F3 F4 ⊢
  generalize Cl.com x = D1 at *
  generalize Cl.com y = D2 at *
  have hEnd : Hid (∀ w' (b : Bool) (c : Int), Below w.heap.size w w' → B = b ∧ C = c → (Ending.returned (.tuple #[.bool b, .int .i64 c]) = .returned (.tuple #[.bool B, .int .i64 C]) ∧ Below w.heap.size w w')) := Lib.hid (fun w' b c h1 h2 => ⟨by rw [h2.1, h2.2], h1⟩)
  clear hlx hly hX hY
  go_enter Try.func41, Try.ntmps41
  go_wp2_with fail
  refine (rwithin_any nx 1 8 w).mono ?_
  rintro e w1 ⟨rfl, hw1⟩
  rw [hw1]
  clear hw1 w1
  by_cases g1 : 1 ≤ nx ∧ nx ≤ 8
  · rw [show (decide (1 ≤ (nx : Int)) && decide ((nx : Int) ≤ 8)) = true by simp; omega]
    go_wp2_with fail
    refine (rwithin_any ny 1 8 w).mono ?_
    rintro e w1 ⟨rfl, hw1⟩
    rw [hw1]
    clear hw1 w1
    by_cases g2 : 1 ≤ ny ∧ ny ≤ 8
    · rw [show (decide (1 ≤ (ny : Int)) && decide ((ny : Int) ≤ 8)) = true by simp; omega]
      go_wp2_with fail
      refine (HCX.out w hB).mono ?_
      rintro e w1 ⟨rfl, hb1⟩
      replace hB := hB.trans (hb1.mono hB.size)
      clear hb1
      by_cases z1 : D1 = 0
      · have hR := Lib.hid (F1.out (fun h => h.2.2.1 z1))
        rw [z1]
        go_wp2_with fail
        go_ret2
        exact hEnd.out _ _ _ hB hR.out
      · have y1 : ((D1 : Int) == 0) = false := by simp; omega
        have y2 : ¬ ((D1 : Int) = 0) := by omega
        go_wp2_with fail
        refine (HCY.out w1 hB).mono ?_
        rintro e w2 ⟨rfl, hb1⟩
        replace hB := hB.trans (hb1.mono hB.size)
        clear hb1
        by_cases z2 : D2 = 0
        · have hR := Lib.hid (F1.out (fun h => h.2.2.2 z2))
          rw [z2]
          go_wp2_with fail
          go_ret2
          exact hEnd.out _ _ _ hB hR.out
        · have y3 : ((D2 : Int) == 0) = false := by simp; omega
          have y4 : ¬ ((D2 : Int) = 0) := by omega
          have HOK := Lib.hid (HO.out ⟨g1, g2, z1, z2⟩)
          have HRX := Lib.hid (hxa.out z1)
          have HRY := Lib.hid (hya.out z2)
          replace hfit := Lib.hid (hfit.out HOK.out)
          replace hle := Lib.hid (hle.out HOK.out)
          clear F1 HO hxa hya
          go_wp2_with fail
          refine (HCX.out w2 hB).mono ?_
          rintro e w3 ⟨rfl, hb1⟩
          replace hB := hB.trans (hb1.mono hB.size)
          clear hb1
          go_wp2_with fail
          refine (HCY.out w3 hB).mono ?_
          rintro e w4 ⟨rfl, hb1⟩
          replace hB := hB.trans (hb1.mono hB.size)
          clear hb1 HCX HCY
          have hAb : Hid (∀ z ∈ Cl.ovL x (D1 : Int), 0 ≤ z ∧ z ≤ 100000000000) := Lib.hid (fun z hz => by
            have := Cl.ovL_bound HRX.out (by omega) z hz
            omega)
          have hBb : Hid (∀ z ∈ Cl.ovL y (D2 : Int), 0 ≤ z ∧ z ≤ 100000000000) := Lib.hid (fun z hz => by
            have := Cl.ovL_bound HRY.out (by omega) z hz
            omega)
          have hAl : Hid (nx = (Cl.ovL x (D1 : Int)).length) := Lib.hid (by rw [Cl.ovL_len]; exact Hx.out)
          have hBl : Hid (ny = (Cl.ovL y (D2 : Int)).length) := Lib.hid (by rw [Cl.ovL_len]; exact Hy.out)
          go_wp2_with fail
          refine (over_any x D1 aox nx cx w4 (HX.out.below hB) Hx.out (by omega) HRX.out (by omega)).mono ?_
          rintro e w5 ⟨v, rfl, ho5, hb1⟩
          replace hB := hB.trans (hb1.mono hB.size)
          clear hb1
          obtain ⟨ao5, c5, rfl, -, hI5⟩ := own_ints ho5 hAl.out
          clear ho5
          go_wp2_with fail
          refine (sorted_any _ ao5 nx c5 w5 hI5 hAl.out (by omega) g1.1).mono ?_
          rintro e w6 ⟨v, rfl, ho6, hp6, hb1⟩
          replace hB := hB.trans (hb1.mono hB.size)
          clear hb1 hI5
          have hAs : Hid (nx = (Cl.srt (Cl.ovL x (D1 : Int))).length) := Lib.hid (by rw [hp6.length_eq]; exact hAl.out)
          have hAv : Hid (∀ z ∈ Cl.srt (Cl.ovL x (D1 : Int)), 0 ≤ z ∧ z ≤ 100000000000) := Lib.hid (fun z hz => hAb.out z (hp6.mem_iff.1 hz))
          obtain ⟨gx, c6, rfl, -, -, -, -⟩ := own_cells ho6 (by omega)
          have hca : nx ≤ c6 := own_cap ho6
          have hI6 : Hid (Ints w6 (some ⟨gx, 0, none⟩) (Cl.srt (Cl.ovL x (D1 : Int)))) := Lib.hid (by
            obtain ⟨ao, cap, e, -, h⟩ := own_ints ho6 hAs.out
            cases e
            exact h)
          clear ho6 hp6 hAb hAl
          generalize Cl.srt (Cl.ovL x (D1 : Int)) = LX at *
          go_wp2_with fail
          refine (over_any y D2 aoy ny cy w6 (HY.out.below hB) Hy.out (by omega) HRY.out (by omega)).mono ?_
          rintro e w7 ⟨v, rfl, ho5, hb1⟩
          replace hI6 := Lib.hid (hI6.out.below hb1)
          replace hB := hB.trans (hb1.mono hB.size)
          clear hb1
          obtain ⟨ao5, c7, rfl, -, hI5⟩ := own_ints ho5 hBl.out
          clear ho5
          go_wp2_with fail
          refine (sorted_any _ ao5 ny c7 w7 hI5 hBl.out (by omega) g2.1).mono ?_
          rintro e w8 ⟨v, rfl, ho6, hp6, hb1⟩
          replace hI6 := Lib.hid (hI6.out.below hb1)
          replace hB := hB.trans (hb1.mono hB.size)
          clear hb1 hI5
          have hBs : Hid (ny = (Cl.srt (Cl.ovL y (D2 : Int))).length) := Lib.hid (by rw [hp6.length_eq]; exact hBl.out)
          have hBv : Hid (∀ z ∈ Cl.srt (Cl.ovL y (D2 : Int)), 0 ≤ z ∧ z ≤ 100000000000) := Lib.hid (fun z hz => hBb.out z (hp6.mem_iff.1 hz))
          obtain ⟨gy, c8, rfl, -, -, -, -⟩ := own_cells ho6 (by omega)
          have hcb : ny ≤ c8 := own_cap ho6
          have hI8 : Hid (Ints w8 (some ⟨gy, 0, none⟩) (Cl.srt (Cl.ovL y (D2 : Int)))) := Lib.hid (by
            obtain ⟨ao, cap, e, -, h⟩ := own_ints ho6 hBs.out
            cases e
            exact h)
          clear ho6 hp6 hBb hBl
          generalize Cl.srt (Cl.ovL y (D2 : Int)) = LY at *
          have hBX : ∀ k, Hid (-800000000000 ≤ Fl.sumI (LX.take k) ∧ Fl.sumI (LX.take k) ≤ 800000000000) := fun k => Lib.hid (by
            have := Cl.sum_small (B := 100000000000) (by omega) (l := LX.take k) fun z hz => by have := hAv.out z (List.mem_of_mem_take hz); omega
            have h2 : (LX.take k).length ≤ 8 := by rw [List.length_take]; have := hAs.out; omega
            omega)
          have hBY : ∀ k, Hid (-800000000000 ≤ Fl.sumI (LY.take k) ∧ Fl.sumI (LY.take k) ≤ 800000000000) := fun k => Lib.hid (by
            have := Cl.sum_small (B := 100000000000) (by omega) (l := LY.take k) fun z hz => by have := hBv.out z (List.mem_of_mem_take hz); omega
            have h2 : (LY.take k).length ≤ 8 := by rw [List.length_take]; have := hBs.out; omega
            omega)
          have HSA : Hid (∀ W (k : Nat) c, k ≤ nx → Below w8.heap.size w8 W → Calls Try.prog 36 #[.slice (some ⟨gx, 0, none⟩) k c] W fun e w' => e = .returned (.int .i64 (Fl.sumI (LX.take k))) ∧ w' = W) := Lib.hid (by
            intro W k c hk hW
            exact rSumB_any (LX.take k) _ k c W ((hI6.out.below hW).take k) (by rw [List.length_take]; have := hAs.out; omega) (by omega) (fun z hz => by have := hAv.out z (List.mem_of_mem_take hz); omega))
          have HSB : Hid (∀ W (k : Nat) c, k ≤ ny → Below w8.heap.size w8 W → Calls Try.prog 36 #[.slice (some ⟨gy, 0, none⟩) k c] W fun e w' => e = .returned (.int .i64 (Fl.sumI (LY.take k))) ∧ w' = W) := Lib.hid (by
            intro W k c hk hW
            exact rSumB_any (LY.take k) _ k c W ((hI8.out.below hW).take k) (by rw [List.length_take]; have := hBs.out; omega) (by omega) (fun z hz => by have := hBv.out z (List.mem_of_mem_take hz); omega))
          have hMul : ∀ (s : Int) (D : Nat), (-800000000000 ≤ s ∧ s ≤ 800000000000) → D ≤ 10000 → Hid (IntKind.i64.wrap (s * (D : Int)) = s * (D : Int)) := fun s D h1 h2 => Lib.hid (by
            have a1 : s * (D : Int) ≤ 800000000000 * (D : Int) := Int.mul_le_mul_of_nonneg_right h1.2 (by omega)
            have a2 : -800000000000 * (D : Int) ≤ s * (D : Int) := Int.mul_le_mul_of_nonneg_right h1.1 (by omega)
            exact IntWalk.i64_in _ (by omega))
          have HMul := Lib.hid hMul
          have HBX := Lib.hid hBX
          have HBY := Lib.hid hBY
          clear hMul hBX hBY hI6 hI8 hAv hBv
          have hSX : Hid (Fl.sumI (LX.take nx) = Fl.sumI LX) := Lib.hid (by rw [hAs.out, List.take_length])
          have hSY : Hid (Fl.sumI (LY.take ny) = Fl.sumI LY) := Lib.hid (by rw [hBs.out, List.take_length])
          by_cases z3 : nx = ny
          · subst z3
            obtain ⟨SA, hSA⟩ : ∃ S, S = Fl.sumI (LX.take nx) := ⟨_, rfl⟩
            obtain ⟨SB, hSB⟩ : ∃ S, S = Fl.sumI (LY.take nx) := ⟨_, rfl⟩
            have HS1 := Lib.hid (fun c => HSA.out w8 nx c (Nat.le_refl _) (Below.refl _ _))
            have HS2 := Lib.hid (fun c => HSB.out w8 nx c (Nat.le_refl _) (Below.refl _ _))
            have e1 := (HMul.out SA D2 (by rw [hSA]; exact (HBX.out nx).out) hyl).out
            have e2 := (HMul.out SB D1 (by rw [hSB]; exact (HBY.out nx).out) hxl).out
            rw [← hSX.out, ← hSY.out, ← hSA, ← hSB] at hfit
            rw [← hSA] at HS1
            rw [← hSB] at HS2
            clear hSA hSB hSX hSY
            obtain ⟨PA, hPA⟩ : ∃ S, S = SA * (D2 : Int) := ⟨_, rfl⟩
            obtain ⟨PB, hPB⟩ : ∃ S, S = SB * (D1 : Int) := ⟨_, rfl⟩
            have e3 : IntKind.i64.wrap (SA * (D2 : Int)) = PA := by rw [e1, hPA]
            have e4 : IntKind.i64.wrap (SB * (D1 : Int)) = PB := by rw [e2, hPB]
            rw [← hPA, ← hPB] at hfit
            clear hPA hPB e1 e2
            by_cases z4 : PA = PB
            · have hFit := Lib.hid (hfit.out.2 ⟨rfl, z4⟩)
              go_wp2_with fail
              refine (HS1.out _).mono ?_
              rintro e w5 ⟨rfl, hw5⟩
              rw [hw5]
              clear hw5 w5
              go_wp2_with fail
              refine (HS2.out _).mono ?_
              rintro e w5 ⟨rfl, hw5⟩
              rw [hw5]
              clear hw5 w5 HS1 HS2
              go_wp2_with fail
              clear e3 e4 z4 F2
              go_loopw [10] (fun i wr => ∃ k : Nat, k ≤ nx ∧ i = .int .i64 k ∧ Hid (∀ j, j < k → Fl.sumI (LY.take j) * (D1 : Int) ≤ Fl.sumI (LX.take j) * (D2 : Int)) ∧ Below w8.heap.size w8 wr) (fun i _ => nx - (intOf i).toNat)
              case atStart => exact ⟨0, Nat.zero_le _, rfl, Lib.hid (fun j hj => by omega), Below.refl _ _⟩
              case round =>
                obtain ⟨k, hk, rfl, hAll, hBw⟩ := hrel
                by_cases hlt : k < nx
                · have i1 : (k : Int) < (nx : Int) := by omega
                  have i2 : k ≤ c6 := by omega
                  have i3 : k ≤ c8 := by omega
                  have i4 : (k : Int) ≤ (c6 : Int) := by omega
                  have i5 : (k : Int) ≤ (c8 : Int) := by omega
                  have HA' : Hid (∀ m c, Calls Try.prog 36 #[.slice (some ⟨gx, 0, none⟩) k c] (wr.drewN m) fun e w' => e = .returned (.int .i64 (Fl.sumI (LX.take k))) ∧ w' = wr.drewN m) := Lib.hid (fun m c => HSA.out _ k c hk (below_drewN hBw m))
                  have HB' : Hid (∀ m c, Calls Try.prog 36 #[.slice (some ⟨gy, 0, none⟩) k c] (wr.drewN m) fun e w' => e = .returned (.int .i64 (Fl.sumI (LY.take k))) ∧ w' = wr.drewN m) := Lib.hid (fun m c => HSB.out _ k c hk (below_drewN hBw m))
                  obtain ⟨sa, hsa⟩ : ∃ S, S = Fl.sumI (LX.take k) := ⟨_, rfl⟩
                  obtain ⟨sb, hsb⟩ : ∃ S, S = Fl.sumI (LY.take k) := ⟨_, rfl⟩
                  have e1 := (HMul.out sa D2 (by rw [hsa]; exact (HBX.out k).out) hyl).out
                  have e2 := (HMul.out sb D1 (by rw [hsb]; exact (HBY.out k).out) hxl).out
                  rw [← hsa] at HA'
                  rw [← hsb] at HB'
                  obtain ⟨pa, hpa⟩ : ∃ S, S = sa * (D2 : Int) := ⟨_, rfl⟩
                  obtain ⟨pb, hpb⟩ : ∃ S, S = sb * (D1 : Int) := ⟨_, rfl⟩
                  have e3 : IntKind.i64.wrap (sa * (D2 : Int)) = pa := by rw [e1, hpa]
                  have e4 : IntKind.i64.wrap (sb * (D1 : Int)) = pb := by rw [e2, hpb]
                  have hsa' : Hid (Fl.sumI (LX.take k) * (D2 : Int) = pa) := Lib.hid (by rw [hpa, hsa])
                  have hsb' : Hid (Fl.sumI (LY.take k) * (D1 : Int) = pb) := Lib.hid (by rw [hpb, hsb])
                  clear hsa hsb hpa hpb e1 e2
                  go_wp2_with fail
                  by_cases z5 : pa < pb
                  · go_quiet ((go_at_call 36; first | (with_reducible exact Calls.quiet_of_same (HA'.out _ _)) | (with_reducible exact Calls.quiet_of_same (HB'.out _ _))))
                    have hR := Lib.hid (F3.out HOK.out hFit.out (fun h => by have := hle.out.1 h k hlt; rw [hsa'.out, hsb'.out] at this; omega))
                    have hB1 := hB.trans ((below_drewN hBw nq).mono hB.size)
                    clear HA' HB' HSA HSB
                    go_wp2_with fail
                    go_ret2
                    exact hEnd.out _ _ _ hB1 hR.out
                  · have z6 : decide (pa < pb) = false := by simp; omega
                    have hAl2 := Lib.hid (fun j (hj : j < k + 1) => show Fl.sumI (LY.take j) * (D1 : Int) ≤ Fl.sumI (LX.take j) * (D2 : Int) by
                      by_cases h : j < k
                      · exact hAll.out j h
                      · rw [show j = k by omega, hsa'.out, hsb'.out]; omega)
                    go_quiet ((go_at_call 36; first | (with_reducible exact Calls.quiet_of_same (HA'.out _ _)) | (with_reducible exact Calls.quiet_of_same (HB'.out _ _))))
                    have hB1 := below_drewN hBw nq
                    clear HA' HB'
                    go_wp2_with fail
                    go_roundw
                    case rel => exact ⟨k + 1, by omega, by go_num, hAl2, hB1⟩
                    case measure => simp [intOf]; omega
                · have hR := Lib.hid (F4.out HOK.out hFit.out (hle.out.2 (fun j hj => hAll.out j (by omega))))
                  go_wp2_with fail
                  go_ret2
                  exact hEnd.out _ _ _ (hB.trans (hBw.mono hB.size)) hR.out
            · have hR := Lib.hid (F2.out HOK.out (fun h => z4 (hfit.out.1 h).2))
              go_wp2_with fail
              refine (HS1.out _).mono ?_
              rintro e w5 ⟨rfl, hw5⟩
              rw [hw5]
              clear hw5 w5
              go_wp2_with fail
              refine (HS2.out _).mono ?_
              rintro e w5 ⟨rfl, hw5⟩
              rw [hw5]
              clear hw5 w5
              go_wp2_with fail
              go_ret2
              exact hEnd.out _ _ _ hB hR.out
          · have hR := Lib.hid (F2.out HOK.out (fun h => z3 (hfit.out.1 h).1))
            have z5 : ¬ (nx : Int) = (ny : Int) := by omega
            go_wp2_with fail
            go_ret2
            exact hEnd.out _ _ _ hB hR.out
    · have hR := Lib.hid (F1.out (fun h => g2 h.2.1))
      rw [show (decide (1 ≤ (ny : Int)) && decide ((ny : Int) ≤ 8)) = false by simp; omega]
      go_wp2_with fail
      go_ret2
      exact hEnd.out _ _ _ hB hR.out
  · have hR := Lib.hid (F1.out (fun h => g1 h.1))
    rw [show (decide (1 ≤ (nx : Int)) && decide ((nx : Int) ≤ 8)) = false by simp; omega]
    go_wp2_with fail
    go_ret2
    exact hEnd.out _ _ _ hB hR.out
end Go.Proofs.Ytifhkagngjinfaa
