import Derived.Test.YtifhkagngjinfaaVa
import Derived.Test.YtifhkagngjinfaaNd
namespace Go.Proofs.Ytifhkagngjinfaa
open Go.RowKit
namespace Cl
open Classical in
/-- The numbers in ascending order. -/
noncomputable def srt (L : List Int) : List Int := if h : ∃ S : List Int, S.Perm L ∧ Sorted S S.length then h.choose else L
theorem srt_eq {S L : List Int} (h1 : S.Perm L) (h2 : Sorted S S.length) : S = srt L := by
  have hex : ∃ S : List Int, S.Perm L ∧ Sorted S S.length := ⟨S, h1, h2⟩
  unfold srt
  rw [dif_pos hex]
  have hs := hex.choose_spec
  exact sorted_unique (h1.trans hs.1.symm) h2 hs.2
def meOk (x y : List (Int × Int)) : Prop := (1 ≤ x.length ∧ x.length ≤ 8) ∧ (1 ≤ y.length ∧ y.length ≤ 8) ∧ com x ≠ 0 ∧ com y ≠ 0
def aX (x y : List (Int × Int)) : List Int := ovL x ((com x : Int) * (com y : Int))
def bY (x y : List (Int × Int)) : List Int := ovL y ((com x : Int) * (com y : Int))
def meFit (x y : List (Int × Int)) : Prop := x.length = y.length ∧ Fl.sumI (aX x y) = Fl.sumI (bY x y)
def meLe (x y : List (Int × Int)) : Prop := ∀ k, k < x.length → Fl.sumI ((srt (bY x y)).take k) ≤ Fl.sumI ((srt (aX x y)).take k)
open Classical in
noncomputable def meC (x y : List (Int × Int)) : Int := if meOk x y then (if meFit x y then 0 else 5) else 1
open Classical in
noncomputable def meB (x y : List (Int × Int)) : Bool := decide (meOk x y ∧ meFit x y ∧ meLe x y)
open Classical in
theorem me_arg {x y : List (Int × Int)} (h : ¬ meOk x y) : meB x y = false ∧ meC x y = 1 := ⟨decide_eq_false fun hh => h hh.1, if_neg h⟩
open Classical in
theorem me_fit {x y : List (Int × Int)} (h : meOk x y) (h2 : ¬ meFit x y) : meB x y = false ∧ meC x y = 5 := ⟨decide_eq_false fun hh => h2 hh.2.1, by unfold meC; rw [if_pos h, if_neg h2]⟩
open Classical in
theorem me_no {x y : List (Int × Int)} (h : meOk x y) (h2 : meFit x y) (h3 : ¬ meLe x y) : meB x y = false ∧ meC x y = 0 := ⟨decide_eq_false fun hh => h3 hh.2.2, by unfold meC; rw [if_pos h, if_pos h2]⟩
open Classical in
theorem me_yes {x y : List (Int × Int)} (h : meOk x y) (h2 : meFit x y) (h3 : meLe x y) : meB x y = true ∧ meC x y = 0 := ⟨decide_eq_true ⟨h, h2, h3⟩, by unfold meC; rw [if_pos h, if_pos h2]⟩
end Cl
set_option maxHeartbeats 1000000 in
theorem sortOwn_any (L0 : List Int) (base g n cap : Nat) (w : World) (ho : w.ownsRow base 3 1 (.slice (some ⟨g, 0, none⟩) n cap) n (L0.map (Value.int .i64))) (hln : n = L0.length) (hn : n ≤ 12) (hn1 : 1 ≤ n) :
    Calls Try.prog 71 #[.slice (some ⟨g, 0, none⟩) n cap] w fun e w' => e = .returned (.tuple #[]) ∧ w'.ownsRow base 3 1 (.slice (some ⟨g, 0, none⟩) n cap) n ((Cl.srt L0).map (Value.int .i64)) ∧ (Cl.srt L0).Perm L0 ∧ w.grownBy w' (some g) := by
  obtain ⟨h1, ⟨h0, _⟩ | ⟨g', cap', cur, he, hb, hg, hnc, hcm, hcs, htk⟩⟩ := ho
  · cases h0
  · cases he
    have hx : cur = Cl.xarr L0 (cur.toList.drop n).toArray := by
      apply Array.ext'
      unfold Cl.xarr Cl.iarr
      rw [Array.toList_append]
      simp only
      rw [← htk, Nat.mul_one]
      exact (List.take_append_drop n cur.toList).symm
    have hg2 := hg
    rw [hx] at hg2
    refine (sortX_any _ L0 g n cap w hg2 hln hn hn1 hnc).mono ?_
    rintro e w1 ⟨rfl, S, hP, hS, hh, hgb⟩
    have hSl : S.length = n := hP.length_eq.trans hln.symm
    have hSs := Cl.srt_eq hP (by rw [hSl]; exact hS)
    have hsz : (Cl.xarr S (cur.toList.drop n).toArray).size = cur.size := by
      have e1 : (Cl.xarr L0 (cur.toList.drop n).toArray).size = cur.size := by rw [← hx]
      unfold Cl.xarr at e1 ⊢
      rw [Array.size_append, Cl.iarr_size] at e1 ⊢
      omega
    refine ⟨rfl, ?_, by rw [← hSs]; exact hP, hgb⟩
    rw [← hSs]
    refine ⟨by simp [hSl], .inr ⟨g, cap, _, rfl, hb, hh, hnc, hcm, by rw [hsz]; exact hcs, ?_⟩⟩
    unfold Cl.xarr Cl.iarr
    rw [Array.toList_append, Nat.mul_one]
    simp only
    rw [List.take_append_of_le_length (by simp [hSl])]
    rw [List.take_of_length_le (by simp [hSl])]
theorem own_cap {w : World} {base g n cap : Nat} {e : TypeId} {xs : List Value} (h : w.ownsRow base e 1 (.slice (some ⟨g, 0, none⟩) n cap) n xs) : n ≤ cap := by
  obtain ⟨_, ⟨h0, _⟩ | ⟨g', cap', cur, he, hb, hg, hnc, hcm, hcs, htk⟩⟩ := h
  · cases h0
  · cases he
    exact hnc
set_option maxRecDepth 100000 in
set_option maxHeartbeats 20000000 in
theorem moreEq_any (x y : List (Int × Int)) (aox : Option Addr) (nx cx : Nat) (aoy : Option Addr) (ny cy : Nat) (w : World) (hX : Pts w aox x) (hY : Pts w aoy y) (hlx : nx = x.length) (hly : ny = y.length) (hbx : nx ≤ 100000) (hby : ny ≤ 100000) :
    Calls Try.prog 40 #[.slice aox nx cx, .slice aoy ny cy] w fun e w' => e = .returned (.tuple #[.bool (Cl.meB x y), .int .i64 (Cl.meC x y)]) ∧ Below w.heap.size w w' := by
  have HX := Lib.hid hX
  have HY := Lib.hid hY
  have Hx := Lib.hid hlx
  have Hy := Lib.hid hly
  have hB := Below.refl w.heap.size w
  have F1 : Hid (¬ ((1 ≤ nx ∧ nx ≤ 8) ∧ (1 ≤ ny ∧ ny ≤ 8) ∧ Cl.com x ≠ 0 ∧ Cl.com y ≠ 0) → Cl.meB x y = false ∧ Cl.meC x y = 1) := Lib.hid (fun h => Cl.me_arg (by unfold Cl.meOk; rw [← hlx, ← hly]; exact h))
  have HO : Hid (((1 ≤ nx ∧ nx ≤ 8) ∧ (1 ≤ ny ∧ ny ≤ 8) ∧ Cl.com x ≠ 0 ∧ Cl.com y ≠ 0) → Cl.meOk x y) := Lib.hid (fun h => by unfold Cl.meOk; rw [← hlx, ← hly]; exact h)
  have F2 := Lib.hid (@Cl.me_fit x y)
  have F3 := Lib.hid (@Cl.me_no x y)
  have F4 := Lib.hid (@Cl.me_yes x y)
  have hxa := Lib.hid (@Cl.com_all x)
  have hya := Lib.hid (@Cl.com_all y)
  have hxl := Cl.com_le x
  have hyl := Cl.com_le y
  have HA : Hid (Cl.aX x y = Cl.ovL x ((Cl.com x : Int) * (Cl.com y : Int)) ∧ Cl.bY x y = Cl.ovL y ((Cl.com x : Int) * (Cl.com y : Int))) := Lib.hid ⟨rfl, rfl⟩
  generalize Cl.meB x y = B at F1 F2 F3 F4 ⊢
  generalize Cl.meC x y = C at F1 F2 F3 F4 ⊢
  have hEnd : Hid (∀ w' (b : Bool) (c : Int), Below w.heap.size w w' → B = b ∧ C = c → (Ending.returned (.tuple #[.bool b, .int .i64 c]) = .returned (.tuple #[.bool B, .int .i64 C]) ∧ Below w.heap.size w w')) := Lib.hid (fun w' b c h1 h2 => ⟨by rw [h2.1, h2.2], h1⟩)
  clear hlx hly hX hY
  go_enter Try.func40, Try.ntmps40
  by_cases g1 : 1 ≤ nx ∧ nx ≤ 8
  · by_cases g2 : 1 ≤ ny ∧ ny ≤ 8
    · go_wp2_with fail
      refine (commonDen_any x aox nx cx w HX.out Hx.out hbx).mono ?_
      rintro e w1 ⟨rfl, hb1⟩
      replace hB := hB.trans (hb1.mono hB.size)
      clear hb1
      go_wp2_with fail
      refine (commonDen_any y aoy ny cy w1 (HY.out.below hB) Hy.out hby).mono ?_
      rintro e w2 ⟨rfl, hb2⟩
      replace hB := hB.trans (hb2.mono hB.size)
      clear hb2
      by_cases z1 : Cl.com x = 0
      · have hR := Lib.hid (F1.out (fun h => h.2.2.1 z1))
        rw [Cl.fit_no z1]
        go_wp2_with fail
        go_ret2
        exact hEnd.out _ _ _ hB hR.out
      · rw [Cl.fit_ok z1]
        by_cases z2 : Cl.com y = 0
        · have hR := Lib.hid (F1.out (fun h => h.2.2.2 z2))
          rw [Cl.fit_no z2]
          go_wp2_with fail
          go_ret2
          exact hEnd.out _ _ _ hB hR.out
        · rw [Cl.fit_ok z2]
          have HOK := Lib.hid (HO.out ⟨g1, g2, z1, z2⟩)
          have HRX := Lib.hid (hxa.out z1)
          have HRY := Lib.hid (hya.out z2)
          have hfit : Hid (Cl.meFit x y ↔ nx = ny ∧ Fl.sumI (Cl.aX x y) = Fl.sumI (Cl.bY x y)) := Lib.hid (by unfold Cl.meFit; rw [← Hx.out, ← Hy.out])
          have hle : Hid (Cl.meLe x y ↔ ∀ k, k < nx → Fl.sumI ((Cl.srt (Cl.bY x y)).take k) ≤ Fl.sumI ((Cl.srt (Cl.aX x y)).take k)) := Lib.hid (by unfold Cl.meLe; rw [← Hx.out])
          clear F1 HO
          obtain ⟨D1, hD1⟩ : ∃ D, D = Cl.com x := ⟨_, rfl⟩
          obtain ⟨D2, hD2⟩ : ∃ D, D = Cl.com y := ⟨_, rfl⟩
          rw [← hD1, ← hD2] at HA
          rw [← hD1] at z1 hxl ⊢
          rw [← hD2] at z2 hyl ⊢
          clear hD1 hD2
          have p1 : (D1 : Int) * (D2 : Int) ≤ 10000 * 10000 := Int.mul_le_mul (by omega) (by omega) (by omega) (by omega)
          have p2 : 1 ≤ (D1 : Int) * (D2 : Int) := by have := Int.mul_pos (show (0 : Int) < D1 by omega) (show (0 : Int) < D2 by omega); omega
          obtain ⟨P, hP⟩ : ∃ P, P = (D1 : Int) * (D2 : Int) := ⟨_, rfl⟩
          rw [← hP] at p1 p2 HA
          have e1 : IntKind.i64.wrap ((D1 : Int) * (D2 : Int)) = P := by rw [hP]; exact IntWalk.i64_in _ (by omega)
          clear hP
          have hAb : Hid (∀ z ∈ Cl.aX x y, 0 ≤ z ∧ z ≤ 1000000000000000) := Lib.hid (fun z hz => by
            rw [HA.out.1] at hz
            have := Cl.ovL_bound HRX.out p2 z hz
            omega)
          have hBb : Hid (∀ z ∈ Cl.bY x y, 0 ≤ z ∧ z ≤ 1000000000000000) := Lib.hid (fun z hz => by
            rw [HA.out.2] at hz
            have := Cl.ovL_bound HRY.out p2 z hz
            omega)
          have hAl : Hid (nx = (Cl.aX x y).length) := Lib.hid (by rw [HA.out.1, Cl.ovL_len]; exact Hx.out)
          have hBl : Hid (ny = (Cl.bY x y).length) := Lib.hid (by rw [HA.out.2, Cl.ovL_len]; exact Hy.out)
          go_wp2_with fail
          refine (multiples_any x P aox nx cx w2 (HX.out.below hB) Hx.out (by omega) HRX.out ⟨p2, by omega⟩).mono ?_
          rintro e w3 ⟨va, rfl, hoa, hb3⟩
          rw [← HA.out.1] at hoa
          replace hoa := Lib.hid (own_mono hoa hB.size)
          replace hB := hB.trans (hb3.mono hB.size)
          clear hb3
          go_wp2_with fail
          refine (multiples_any y P aoy ny cy w3 (HY.out.below hB) Hy.out (by omega) HRY.out ⟨p2, by omega⟩).mono ?_
          rintro e w4 ⟨vb, rfl, hob, hb4⟩
          rw [← HA.out.2] at hob
          obtain ⟨ga, ca, rfl, hga, hgal, -, -⟩ := own_cells hoa.out (by omega)
          obtain ⟨gb, cb, rfl, hgb, hgbl, -, -⟩ := own_cells hob (by omega)
          have hne : ga ≠ gb := by omega
          replace hoa := Lib.hid (own_below hoa.out hb4)
          replace hob := Lib.hid (own_mono hob hB.size)
          have hgbw : w.heap.size ≤ gb := by have := hB.size; omega
          replace hB := hB.trans (hb4.mono hB.size)
          clear hb4 hgb hgal hgbl e1 p1 p2 HA
          generalize Cl.aX x y = A at hfit hle hAb hAl hoa
          generalize Cl.bY x y = Bl at hfit hle hBb hBl hob
          have hIa : Hid (Ints w4 (some ⟨ga, 0, none⟩) A) := Lib.hid (by
            obtain ⟨ao, cap, e, -, h⟩ := own_ints hoa.out hAl.out
            cases e
            exact h)
          have hIb : Hid (Ints w4 (some ⟨gb, 0, none⟩) Bl) := Lib.hid (by
            obtain ⟨ao, cap, e, -, h⟩ := own_ints hob.out hBl.out
            cases e
            exact h)
          by_cases z3 : nx = ny
          · subst z3
            obtain ⟨SA, hSA⟩ : ∃ S, S = Fl.sumI A := ⟨_, rfl⟩
            obtain ⟨SB, hSB⟩ : ∃ S, S = Fl.sumI Bl := ⟨_, rfl⟩
            have HSA : Hid (∀ W, W = w4 → Calls Try.prog 56 #[.slice (some ⟨ga, 0, none⟩) nx ca] W fun e w' => e = .returned (.int .i64 SA) ∧ w' = W) := Lib.hid (by
              intro W hW
              rw [hW, hSA]
              exact sumB_any A _ nx ca w4 hIa.out hAl.out (by omega) (fun z hz => by have := hAb.out z hz; omega))
            have HSB : Hid (∀ W, W = w4 → Calls Try.prog 56 #[.slice (some ⟨gb, 0, none⟩) nx cb] W fun e w' => e = .returned (.int .i64 SB) ∧ w' = W) := Lib.hid (by
              intro W hW
              rw [hW, hSB]
              exact sumB_any Bl _ nx cb w4 hIb.out hBl.out (by omega) (fun z hz => by have := hBb.out z hz; omega))
            rw [← hSA, ← hSB] at hfit
            clear hSA hSB
            by_cases z4 : SA = SB
            · have hFit := Lib.hid (hfit.out.2 ⟨rfl, z4⟩)
              go_wp2_with fail
              refine (HSA.out _ rfl).mono ?_
              rintro e w5 ⟨rfl, hw5⟩
              rw [hw5]
              clear hw5 w5
              go_wp2_with fail
              refine (HSB.out _ rfl).mono ?_
              rintro e w5 ⟨rfl, hw5⟩
              rw [hw5]
              clear hw5 w5 HSA HSB
              go_wp2_with fail
              refine (sortOwn_any A w.heap.size ga nx ca w4 hoa.out hAl.out (by omega) g1.1).mono ?_
              rintro e w5 ⟨rfl, hoa5, hPa, hg5⟩
              have hob5 := hob.out.kept hg5 (.inr (by intro e; cases e; exact hne rfl))
              replace hB := gb_below hB hg5 hga hB.size
              clear hg5 hoa hob hIa hIb
              go_wp2_with fail
              refine (sortOwn_any Bl w.heap.size gb nx cb w5 hob5 hBl.out (by omega) g1.1).mono ?_
              rintro e w6 ⟨rfl, hob6, hPb, hg6⟩
              have hoa6 := hoa5.kept hg6 (.inr (by intro e; cases e; exact hne rfl))
              replace hB := gb_below hB hg6 hgbw hB.size
              clear hg6 hoa5 hob5
              have hAs : Hid (nx = (Cl.srt A).length) := Lib.hid (by rw [hPa.length_eq]; exact hAl.out)
              have hBs : Hid (nx = (Cl.srt Bl).length) := Lib.hid (by rw [hPb.length_eq]; exact hBl.out)
              have hAv : Hid (∀ z ∈ Cl.srt A, 0 ≤ z ∧ z ≤ 1000000000000000) := Lib.hid (fun z hz => hAb.out z (hPa.mem_iff.1 hz))
              have hBv : Hid (∀ z ∈ Cl.srt Bl, 0 ≤ z ∧ z ≤ 1000000000000000) := Lib.hid (fun z hz => hBb.out z (hPb.mem_iff.1 hz))
              have hIa : Hid (Ints w6 (some ⟨ga, 0, none⟩) (Cl.srt A)) := Lib.hid (by
                obtain ⟨ao, cap, e, -, h⟩ := own_ints hoa6 hAs.out
                cases e
                exact h)
              have hIb : Hid (Ints w6 (some ⟨gb, 0, none⟩) (Cl.srt Bl)) := Lib.hid (by
                obtain ⟨ao, cap, e, -, h⟩ := own_ints hob6 hBs.out
                cases e
                exact h)
              have hca : nx ≤ ca := own_cap hoa6
              have hcb : nx ≤ cb := own_cap hob6
              clear hoa6 hob6 hPa hPb hAb hBb hAl hBl
              generalize Cl.srt A = SAl at hle hAs hAv hIa
              generalize Cl.srt Bl = SBl at hle hBs hBv hIb
              clear A Bl F2
              have HSA : Hid (∀ W (k : Nat) c, k ≤ nx → Below w6.heap.size w6 W → Calls Try.prog 56 #[.slice (some ⟨ga, 0, none⟩) k c] W fun e w' => e = .returned (.int .i64 (Fl.sumI (SAl.take k))) ∧ w' = W) := Lib.hid (by
                intro W k c hk hW
                exact sumB_any (SAl.take k) _ k c W ((hIa.out.below hW).take k) (by rw [List.length_take]; have := hAs.out; omega) (by omega) (fun z hz => by have := hAv.out z (List.mem_of_mem_take hz); omega))
              have HSB : Hid (∀ W (k : Nat) c, k ≤ nx → Below w6.heap.size w6 W → Calls Try.prog 56 #[.slice (some ⟨gb, 0, none⟩) k c] W fun e w' => e = .returned (.int .i64 (Fl.sumI (SBl.take k))) ∧ w' = W) := Lib.hid (by
                intro W k c hk hW
                exact sumB_any (SBl.take k) _ k c W ((hIb.out.below hW).take k) (by rw [List.length_take]; have := hBs.out; omega) (by omega) (fun z hz => by have := hBv.out z (List.mem_of_mem_take hz); omega))
              clear hAs hBs hAv hBv hIa hIb
              go_wp2_with fail
              go_loopw [12, 75] (fun _ i wr => ∃ k : Nat, k ≤ nx ∧ i = .int .i64 k ∧ Hid (∀ j, j < k → Fl.sumI (SBl.take j) ≤ Fl.sumI (SAl.take j)) ∧ Below w6.heap.size w6 wr) (fun _ i _ => nx - (intOf i).toNat)
              case atStart => exact ⟨0, Nat.zero_le _, rfl, Lib.hid (fun j hj => by omega), Below.refl _ _⟩
              case round =>
                obtain ⟨k, hk, rfl, hAll, hBw⟩ := hrel
                by_cases hlt : k < nx
                · have i1 : (k : Int) < (nx : Int) := by omega
                  have i2 : k ≤ ca := by omega
                  have i3 : k ≤ cb := by omega
                  have i4 : (k : Int) ≤ (ca : Int) := by omega
                  have i5 : (k : Int) ≤ (cb : Int) := by omega
                  have HA' : Hid (∀ m c, Calls Try.prog 56 #[.slice (some ⟨ga, 0, none⟩) k c] (wr.drewN m) fun e w' => e = .returned (.int .i64 (Fl.sumI (SAl.take k))) ∧ w' = wr.drewN m) := Lib.hid (fun m c => HSA.out _ k c hk (below_drewN hBw m))
                  have HB' : Hid (∀ m c, Calls Try.prog 56 #[.slice (some ⟨gb, 0, none⟩) k c] (wr.drewN m) fun e w' => e = .returned (.int .i64 (Fl.sumI (SBl.take k))) ∧ w' = wr.drewN m) := Lib.hid (fun m c => HSB.out _ k c hk (below_drewN hBw m))
                  obtain ⟨sa, hsa⟩ : ∃ S, S = Fl.sumI (SAl.take k) := ⟨_, rfl⟩
                  obtain ⟨sb, hsb⟩ : ∃ S, S = Fl.sumI (SBl.take k) := ⟨_, rfl⟩
                  rw [← hsa] at HA'
                  rw [← hsb] at HB'
                  have hsa' := Lib.hid hsa
                  have hsb' := Lib.hid hsb
                  clear hsa hsb
                  go_wp2_with fail
                  by_cases z5 : sa < sb
                  · go_quiet ((go_at_call 56; first | (with_reducible exact Calls.quiet_of_same (HA'.out _ _)) | (with_reducible exact Calls.quiet_of_same (HB'.out _ _))))
                    have hR := Lib.hid (F3.out HOK.out hFit.out (fun h => by have := hle.out.1 h k hlt; rw [← hsa'.out, ← hsb'.out] at this; omega))
                    have hB1 := hB.trans ((below_drewN hBw nq).mono hB.size)
                    clear HA' HB' HSA HSB
                    go_wp2_with fail
                    go_ret2
                    exact hEnd.out _ _ _ hB1 hR.out
                  · have z6 : decide (sa < sb) = false := by simp; omega
                    have hAl2 := Lib.hid (fun j (hj : j < k + 1) => show Fl.sumI (SBl.take j) ≤ Fl.sumI (SAl.take j) by
                      by_cases h : j < k
                      · exact hAll.out j h
                      · rw [show j = k by omega, ← hsa'.out, ← hsb'.out]; omega)
                    go_quiet ((go_at_call 56; first | (with_reducible exact Calls.quiet_of_same (HA'.out _ _)) | (with_reducible exact Calls.quiet_of_same (HB'.out _ _))))
                    have hB1 := below_drewN hBw nq
                    clear HA' HB'
                    go_wp2_with fail
                    go_roundw
                    case rel => exact ⟨k + 1, by omega, by go_num, hAl2, hB1⟩
                    case measure => simp [intOf]; omega
                · have hR := Lib.hid (F4.out HOK.out hFit.out (hle.out.2 (fun j hj => hAll.out j (by omega))))
                  go_wp2_with fail
                  go_ret2
                  exact hEnd.out _ _ _ (hB.trans (hBw.mono hB.size)) hR.out
            · have hR := Lib.hid (F2.out HOK.out (fun h => z4 (hfit.out.1 h).2))
              go_wp2_with fail
              refine (HSA.out _ rfl).mono ?_
              rintro e w5 ⟨rfl, hw5⟩
              rw [hw5]
              clear hw5 w5
              go_wp2_with fail
              refine (HSB.out _ rfl).mono ?_
              rintro e w5 ⟨rfl, hw5⟩
              rw [hw5]
              clear hw5 w5
              go_wp2_with fail
              go_ret2
              exact hEnd.out _ _ _ hB hR.out
          · have hR := Lib.hid (F2.out HOK.out (fun h => z3 (hfit.out.1 h).1))
            have z5 : ¬ (nx : Int) = (ny : Int) := by omega
            go_wp2_with fail
            go_ret2
            exact hEnd.out _ _ _ hB hR.out
    · have hR := Lib.hid (F1.out (fun h => g2 h.2.1))
      by_cases g3 : ny < 1
      · go_wp2_with fail
        go_ret2
        exact hEnd.out _ _ _ hB hR.out
      · have g4 : 8 < ny := by omega
        go_wp2_with fail
        go_ret2
        exact hEnd.out _ _ _ hB hR.out
  · have hR := Lib.hid (F1.out (fun h => g1 h.1))
    by_cases g3 : nx < 1
    · go_wp2_with fail
      go_ret2
      exact hEnd.out _ _ _ hB hR.out
    · have g4 : 8 < nx := by omega
      go_wp2_with fail
      go_ret2
      exact hEnd.out _ _ _ hB hR.out
end Go.Proofs.Ytifhkagngjinfaa
