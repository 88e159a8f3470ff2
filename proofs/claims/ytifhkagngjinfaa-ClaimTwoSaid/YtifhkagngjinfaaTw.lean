import Derived.Test.YtifhkagngjinfaaSa
namespace Go.Proofs.Ytifhkagngjinfaa
open Go.RowKit
namespace Cl
theorem lvl_int {L : List Int} {X l : Int} (h : LevS L X l 1) : lvl L X = (l : Rat) := by
  rw [← lvl_eq h]
  exact Rat.mkRat_one l
def twF (L : List Int) (E : Int) : Int := max 0 (E - L.getD 1 0)
def twS (L : List Int) (E : Int) : Int := max 0 (E - L.getD 0 0)
def twL (L : List Int) (E : Int) : List Rat := [mkRat (2 * twF L E + (E - twF L E - twS L E)) 2, mkRat (2 * twS L E + (E - twF L E - twS L E)) 2]
def twC (L : List Int) (E : Int) : Int := if caseC L E = 0 then (if L.length = 2 then 0 else 5) else 1
def twR (L : List Int) (E : Int) : List Rat := if twC L E = 0 then twL L E else []
theorem twR_ok {L : List Int} {E : Int} (h : twC L E = 0) : twR L E = twL L E := if_pos h
theorem twR_no {L : List Int} {E : Int} (h : twC L E ≠ 0) : twR L E = [] := if_neg h
theorem twC_case {L : List Int} {E : Int} (h : caseC L E ≠ 0) : twC L E = 1 := if_neg h
theorem twC_fit {L : List Int} {E : Int} (h : caseC L E = 0) (h2 : L.length ≠ 2) : twC L E = 5 := by unfold twC; rw [if_pos h, if_neg h2]
theorem twC_ok {L : List Int} {E : Int} (h : caseC L E = 0) (h2 : L.length = 2) : twC L E = 0 := by unfold twC; rw [if_pos h, if_pos h2]
theorem tw_zero {L : List Int} {E : Int} (h : twC L E = 0) : caseC L E = 0 ∧ L.length = 2 := by
  by_cases h1 : caseC L E = 0
  · by_cases h2 : L.length = 2
    · exact ⟨h1, h2⟩
    · rw [twC_fit h1 h2] at h; cases h
  · rw [twC_case h1] at h; cases h
theorem tw_court {L : List Int} {E : Int} (h : twC L E = 0) : coL L E = twL L E := by
  obtain ⟨h0, h2⟩ := tw_zero h
  obtain ⟨a1, a2, a3⟩ := caseC_ok.1 h0
  have hC := (okC_iff.1 a1).2.2
  match L, h2 with
  | [a, b], _ =>
    have ha := hC a (by simp)
    have hb := hC b (by simp)
    have hs : Fl.sumI [a, b] = a + b := by rw [Fl.sumI_cons, Fl.sumI_cons]; simp [Fl.sumI]
    rw [hs] at a3
    have hbel : ∀ l, below [a, b] l 1 = min a l + min b l := fun l => by rw [below_cons, below_cons]; simp [below, Fl.sumI]
    have f1 : twF [a, b] E = max 0 (E - b) := rfl
    have f2 : twS [a, b] E = max 0 (E - a) := rfl
    have hden : ∀ l : Int, ((l : Rat)).den = 1 := fun l => rfl
    have hnum : ∀ l : Int, ((l : Rat)).num = l := fun l => rfl
    unfold coL twL
    rw [hs, f1, f2]
    by_cases hc : 2 * E ≤ a + b
    · rw [if_pos hc]
      obtain ⟨l, hl⟩ : ∃ l, l = if E ≤ min a b then E else 2 * E - min a b := ⟨_, rfl⟩
      have hL : LevS [a, b] (2 * E) l 1 := by
        refine ⟨⟨by split at hl <;> omega, by omega, by rw [hbel]; split at hl <;> omega, if a ≤ b then b else a, by split <;> simp, by split at hl <;> split <;> omega⟩, by split at hl <;> omega, by omega⟩
      unfold coLo
      rw [lvl_int hL, hden, hnum]
      simp only [List.map_cons, List.map_nil]
      congr 2
      · split at hl <;> omega
      · congr 1
        split at hl <;> omega
    · rw [if_neg hc]
      obtain ⟨l, hl⟩ : ∃ l, l = if a + b - E ≤ min a b then a + b - E else 2 * (a + b - E) - min a b := ⟨_, rfl⟩
      have hL : LevS [a, b] (2 * (a + b) - 2 * E) l 1 := by
        refine ⟨⟨by split at hl <;> omega, by omega, by rw [hbel]; split at hl <;> omega, if a ≤ b then b else a, by split <;> simp, by split at hl <;> split <;> omega⟩, by split at hl <;> omega, by omega⟩
      unfold coHi
      rw [hs, lvl_int hL, hden, hnum]
      simp only [List.map_cons, List.map_nil]
      congr 2
      · split at hl <;> omega
      · congr 1
        split at hl <;> omega
end Cl
set_option maxRecDepth 100000 in
set_option maxHeartbeats 2000000 in
theorem twoU (L : List Int) (E : Int) (ao : Option Addr) (n cap : Nat) (w : World) (hI : Ints w ao L) (hln : n = L.length) (hn : n ≤ 100000) :
    Calls Try.prog 38 #[.slice ao n cap, .int .i64 E] w fun e w' => ∃ ao2 cap2, e = .returned (.tuple #[.slice ao2 (Cl.twR L E).length cap2, .int .i64 (Cl.twC L E)]) ∧ Pts w' ao2 ((Cl.twR L E).map pr) ∧ Below w.heap.size w w' := by
  have HI := Lib.hid hI
  have Hn := Lib.hid hln
  clear hln hI
  go_enter Try.func38, Try.ntmps38
  go_wp2_with fail
  refine (validate_any L E ao n cap w HI.out Hn.out hn).mono ?_
  rintro e w1 ⟨rfl, hB⟩
  rcases Cl.case_01 L E with hc | hc
  · have Hc := Lib.hid hc
    rw [hc]
    clear hc
    by_cases h2 : n = 2
    · have htc : Hid (Cl.twC L E = 0) := Lib.hid (Cl.twC_ok Hc.out (by rw [← Hn.out]; exact h2))
      have htr : Hid (Cl.twR L E = Cl.twL L E) := Lib.hid (Cl.twR_ok htc.out)
      obtain ⟨a1, a2, a3⟩ := Cl.caseC_ok.1 Hc.out
      have HC := Lib.hid (Cl.okC_iff.1 a1)
      have hE : 0 ≤ E ∧ E ≤ 8000 := by
        have h := Cl.sum_small (B := 1000) (by omega) (l := L) (fun x hx => by have := HC.out.2.2 x hx; omega)
        have := HC.out; omega
      have hsum : Fl.sumI L = L.getD 0 0 + L.getD 1 0 := by
        have hl := Hn.out
        rw [h2] at hl
        match L, hl with
        | [a, b], _ => rw [Fl.sumI_cons, Fl.sumI_cons]; simp [Fl.sumI]
      rw [hsum] at a3
      subst h2
      have hk0 : 0 < L.length := by have := Hn.out; omega
      have hk1 : 1 < L.length := by have := Hn.out; omega
      have hx0 : 0 ≤ L.getD 0 0 ∧ L.getD 0 0 ≤ 1000 := Cl.getD_bound (by omega) HC.out.2.2 0
      have hx1 : 0 ≤ L.getD 1 0 ∧ L.getD 1 0 ≤ 1000 := Cl.getD_bound (by omega) HC.out.2.2 1
      have hF : Hid (Cl.twF L E = max 0 (E - L.getD 1 0) ∧ Cl.twS L E = max 0 (E - L.getD 0 0)) := Lib.hid ⟨rfl, rfl⟩
      have htl : Hid (Cl.twL L E = [mkRat (2 * Cl.twF L E + (E - Cl.twF L E - Cl.twS L E)) 2, mkRat (2 * Cl.twS L E + (E - Cl.twF L E - Cl.twS L E)) 2]) := Lib.hid rfl
      clear a1 a2 hsum
      obtain ⟨b, off, rfl, hbs, hc0⟩ := (HI.out.below hB).at hk0
      obtain ⟨b', off', he, -, hc1⟩ := (HI.out.below hB).at hk1
      cases he
      rw [Nat.add_zero] at hc0
      generalize L.getD 0 0 = x at hc0 hx0 a3 hF
      generalize L.getD 1 0 = y at hc1 hx1 a3 hF
      generalize Cl.twF L E = F at hF htl
      generalize Cl.twS L E = S at hF htl
      have e1 : IntKind.i64.wrap (E - y) = E - y := IntWalk.i64_in _ (by omega)
      have e2 : IntKind.i64.wrap (E - x) = E - x := IntWalk.i64_in _ (by omega)
      go_upto_region 6 with fail
      go_cut [7, 8] from 19 to 30 (fun s7 s8 wx => s7 = .int .i64 F ∧ s8 = .int .i64 S ∧ Below w1.heap.size w1 wx)
      case first =>
        by_cases ha : 0 < E - y
        · by_cases hb : 0 < E - x
          · go_region
            all_goals go_wp2_with fail
            all_goals go_meet
            all_goals exact ⟨congrArg _ (by have := hF.out; omega), congrArg _ (by have := hF.out; omega), below_drewN (Below.refl _ _) 1⟩
          · go_region
            all_goals go_wp2_with fail
            all_goals go_meet
            all_goals exact ⟨congrArg _ (by have := hF.out; omega), congrArg _ (by have := hF.out; omega), below_drewN (Below.refl _ _) 1⟩
        · by_cases hb : 0 < E - x
          · go_region
            all_goals go_wp2_with fail
            all_goals go_meet
            all_goals exact ⟨congrArg _ (by have := hF.out; omega), congrArg _ (by have := hF.out; omega), below_drewN (Below.refl _ _) 1⟩
          · go_region
            all_goals go_wp2_with fail
            all_goals go_meet
            all_goals exact ⟨congrArg _ (by have := hF.out; omega), congrArg _ (by have := hF.out; omega), below_drewN (Below.refl _ _) 1⟩
      case rest =>
        obtain ⟨rfl, rfl, hbx⟩ := hcut
        replace hB := hB.trans (hbx.mono hB.size)
        have hFb : 0 ≤ F ∧ F ≤ 8000 ∧ 0 ≤ S ∧ S ≤ 8000 ∧ 0 ≤ E - F - S := by have := hF.out; omega
        clear hbx hc0 hc1 e1 e2
        have e1 : IntKind.i64.wrap (E - F) = E - F := IntWalk.i64_in _ (by omega)
        have e2 : IntKind.i64.wrap (E - F - S) = E - F - S := IntWalk.i64_in _ (by omega)
        have e3 : IntKind.i64.wrap (2 * F) = 2 * F := IntWalk.i64_in _ (by omega)
        have e4 : IntKind.i64.wrap (2 * S) = 2 * S := IntWalk.i64_in _ (by omega)
        obtain ⟨V1, hV1⟩ : ∃ V : Nat, (V : Int) = 2 * F + (E - F - S) := ⟨(2 * F + (E - F - S)).toNat, by omega⟩
        obtain ⟨V2, hV2⟩ : ∃ V : Nat, (V : Int) = 2 * S + (E - F - S) := ⟨(2 * S + (E - F - S)).toNat, by omega⟩
        have e5 : IntKind.i64.wrap (2 * F + (E - F - S)) = (V1 : Int) := by rw [hV1]; exact IntWalk.i64_in _ (by omega)
        have e6 : IntKind.i64.wrap (2 * S + (E - F - S)) = (V2 : Int) := by rw [hV2]; exact IntWalk.i64_in _ (by omega)
        have hVb : V1 ≤ 100000 ∧ V2 ≤ 100000 := by omega
        rw [← hV1, ← hV2] at htl
        clear hV1 hV2
        have HR : Hid (∀ (V : Nat) w', V ≤ 100000 → Calls Try.prog 70 #[.int .i64 V, .int .i64 2] w' fun e w'' => e = .returned (.agg #[.int .i64 (mkRat V 2).num, .int .i64 (mkRat V 2).den]) ∧ Below w'.heap.size w' w'') := Lib.hid (fun V w' hV => lowest_any V 2 w' (by omega) (by omega) (by omega))
        go_wp2_with fail
        refine (HR.out V1 wc hVb.1).mono ?_
        rintro e w3 ⟨rfl, hb3⟩
        replace hB := hB.trans (hb3.mono hB.size)
        clear hb3
        go_wp2_with fail
        refine (HR.out V2 w3 hVb.2).mono ?_
        rintro e w4 ⟨rfl, hb4⟩
        replace hB := hB.trans (hb4.mono hB.size)
        clear hb4
        generalize mkRat (V1 : Int) 2 = q1 at htl ⊢
        generalize mkRat (V2 : Int) 2 = q2 at htl ⊢
        have r9 := heap_alloc_new w4 (.cells #[.int .i64 q1.num, .int .i64 q1.den, .int .i64 q2.num, .int .i64 q2.den] 35)
        have hB9 : Below w.heap.size w (w4.alloc (.cells #[.int .i64 q1.num, .int .i64 q1.den, .int .i64 q2.num, .int .i64 q2.den] 35)) := hB.alloc hB.size _
        have hP := pts_lit ([q1, q2].map pr) r9 rfl
        go_wp2_with fail
        go_ret2
        exact ⟨some ⟨w4.heap.size, 0, none⟩, 2, by rw [htr.out, htc.out, htl.out]; rfl, by rw [htr.out, htl.out]; exact hP, hB9⟩
    · have htc : Hid (Cl.twC L E = 5) := Lib.hid (Cl.twC_fit Hc.out (by rw [← Hn.out]; exact h2))
      have htr : Hid (Cl.twR L E = []) := Lib.hid (Cl.twR_no (by rw [htc.out]; decide))
      have e1 : ((n : Int) != 2) = true := by simp; omega
      go_wp2_with fail
      go_ret2
      exact ⟨none, 0, by rw [htr.out, htc.out]; rfl, by rw [htr.out]; exact ⟨fun h => by cases h⟩, hB⟩
  · have htc : Hid (Cl.twC L E = 1) := Lib.hid (Cl.twC_case (by rw [hc]; decide))
    have htr : Hid (Cl.twR L E = []) := Lib.hid (Cl.twR_no (by rw [htc.out]; decide))
    rw [hc]
    go_wp2_with fail
    go_ret2
    exact ⟨none, 0, by rw [htr.out, htc.out]; rfl, by rw [htr.out]; exact ⟨fun h => by cases h⟩, hB⟩
set_option maxRecDepth 100000 in
set_option maxHeartbeats 2000000 in
theorem rtwoU (L : List Int) (E : Int) (ao : Option Addr) (n cap : Nat) (w : World) (hI : Ints w ao L) (hln : n = L.length) (hn : n ≤ 100000) :
    Calls Try.prog 39 #[.slice ao n cap, .int .i64 E] w fun e w' => ∃ ao2 cap2, e = .returned (.tuple #[.slice ao2 (Cl.twR L E).length cap2, .int .i64 (Cl.twC L E)]) ∧ Pts w' ao2 ((Cl.twR L E).map pr) ∧ Below w.heap.size w w' := by
  have HI := Lib.hid hI
  have Hn := Lib.hid hln
  have hB := Below.refl w.heap.size w
  clear hln hI
  go_enter Try.func39, Try.ntmps39
  go_wp2_with fail
  refine (rvalidate_any L E ao n cap w HI.out Hn.out hn).mono ?_
  rintro e w1 ⟨rfl, hw0⟩; obtain rfl := hw0.symm
  clear hw0
  rcases Cl.case_01 L E with hc | hc
  · have Hc := Lib.hid hc
    rw [hc]
    clear hc
    by_cases h2 : n = 2
    · have htc : Hid (Cl.twC L E = 0) := Lib.hid (Cl.twC_ok Hc.out (by rw [← Hn.out]; exact h2))
      have htr : Hid (Cl.twR L E = Cl.twL L E) := Lib.hid (Cl.twR_ok htc.out)
      obtain ⟨a1, a2, a3⟩ := Cl.caseC_ok.1 Hc.out
      have HC := Lib.hid (Cl.okC_iff.1 a1)
      have hE : 0 ≤ E ∧ E ≤ 8000 := by
        have h := Cl.sum_small (B := 1000) (by omega) (l := L) (fun x hx => by have := HC.out.2.2 x hx; omega)
        have := HC.out; omega
      have hsum : Fl.sumI L = L.getD 0 0 + L.getD 1 0 := by
        have hl := Hn.out
        rw [h2] at hl
        match L, hl with
        | [a, b], _ => rw [Fl.sumI_cons, Fl.sumI_cons]; simp [Fl.sumI]
      rw [hsum] at a3
      subst h2
      have hk0 : 0 < L.length := by have := Hn.out; omega
      have hk1 : 1 < L.length := by have := Hn.out; omega
      have hx0 : 0 ≤ L.getD 0 0 ∧ L.getD 0 0 ≤ 1000 := Cl.getD_bound (by omega) HC.out.2.2 0
      have hx1 : 0 ≤ L.getD 1 0 ∧ L.getD 1 0 ≤ 1000 := Cl.getD_bound (by omega) HC.out.2.2 1
      have hF : Hid (Cl.twF L E = max 0 (E - L.getD 1 0) ∧ Cl.twS L E = max 0 (E - L.getD 0 0)) := Lib.hid ⟨rfl, rfl⟩
      have htl : Hid (Cl.twL L E = [mkRat (2 * Cl.twF L E + (E - Cl.twF L E - Cl.twS L E)) 2, mkRat (2 * Cl.twS L E + (E - Cl.twF L E - Cl.twS L E)) 2]) := Lib.hid rfl
      clear a1 a2 hsum
      obtain ⟨b, off, rfl, hbs, hc0⟩ := (HI.out.below hB).at hk0
      obtain ⟨b', off', he, -, hc1⟩ := (HI.out.below hB).at hk1
      cases he
      rw [Nat.add_zero] at hc0
      generalize L.getD 0 0 = x at hc0 hx0 a3 hF
      generalize L.getD 1 0 = y at hc1 hx1 a3 hF
      generalize Cl.twF L E = F at hF htl
      generalize Cl.twS L E = S at hF htl
      have e1 : IntKind.i64.wrap (E - y) = E - y := IntWalk.i64_in _ (by omega)
      have e2 : IntKind.i64.wrap (E - x) = E - x := IntWalk.i64_in _ (by omega)
      go_upto_region 6 with fail
      go_cut [7, 8] from 19 to 30 (fun s7 s8 wx => s7 = .int .i64 F ∧ s8 = .int .i64 S ∧ Below w.heap.size w wx)
      case first =>
        by_cases ha : 0 < E - y
        · by_cases hb : 0 < E - x
          · go_region
            all_goals go_wp2_with fail
            all_goals go_meet
            all_goals exact ⟨congrArg _ (by have := hF.out; omega), congrArg _ (by have := hF.out; omega), below_drewN (Below.refl _ _) 1⟩
          · go_region
            all_goals go_wp2_with fail
            all_goals go_meet
            all_goals exact ⟨congrArg _ (by have := hF.out; omega), congrArg _ (by have := hF.out; omega), below_drewN (Below.refl _ _) 1⟩
        · by_cases hb : 0 < E - x
          · go_region
            all_goals go_wp2_with fail
            all_goals go_meet
            all_goals exact ⟨congrArg _ (by have := hF.out; omega), congrArg _ (by have := hF.out; omega), below_drewN (Below.refl _ _) 1⟩
          · go_region
            all_goals go_wp2_with fail
            all_goals go_meet
            all_goals exact ⟨congrArg _ (by have := hF.out; omega), congrArg _ (by have := hF.out; omega), below_drewN (Below.refl _ _) 1⟩
      case rest =>
        obtain ⟨rfl, rfl, hbx⟩ := hcut
        replace hB := hB.trans (hbx.mono hB.size)
        have hFb : 0 ≤ F ∧ F ≤ 8000 ∧ 0 ≤ S ∧ S ≤ 8000 ∧ 0 ≤ E - F - S := by have := hF.out; omega
        clear hbx hc0 hc1 e1 e2
        have e1 : IntKind.i64.wrap (E - F) = E - F := IntWalk.i64_in _ (by omega)
        have e2 : IntKind.i64.wrap (E - F - S) = E - F - S := IntWalk.i64_in _ (by omega)
        have e3 : IntKind.i64.wrap (2 * F) = 2 * F := IntWalk.i64_in _ (by omega)
        have e4 : IntKind.i64.wrap (2 * S) = 2 * S := IntWalk.i64_in _ (by omega)
        obtain ⟨V1, hV1⟩ : ∃ V : Nat, (V : Int) = 2 * F + (E - F - S) := ⟨(2 * F + (E - F - S)).toNat, by omega⟩
        obtain ⟨V2, hV2⟩ : ∃ V : Nat, (V : Int) = 2 * S + (E - F - S) := ⟨(2 * S + (E - F - S)).toNat, by omega⟩
        have e5 : IntKind.i64.wrap (2 * F + (E - F - S)) = (V1 : Int) := by rw [hV1]; exact IntWalk.i64_in _ (by omega)
        have e6 : IntKind.i64.wrap (2 * S + (E - F - S)) = (V2 : Int) := by rw [hV2]; exact IntWalk.i64_in _ (by omega)
        have hVb : V1 ≤ 100000 ∧ V2 ≤ 100000 := by omega
        rw [← hV1, ← hV2] at htl
        clear hV1 hV2
        have HR : Hid (∀ (V : Nat) w', V ≤ 100000 → Calls Try.prog 54 #[.int .i64 V, .int .i64 2] w' fun e w'' => e = .returned (.agg #[.int .i64 (mkRat V 2).num, .int .i64 (mkRat V 2).den]) ∧ Below w'.heap.size w' w'') := Lib.hid (fun V w' hV => ratio_any V 2 w' (by omega) (by omega) (by omega))
        go_wp2_with fail
        refine (HR.out V1 wc hVb.1).mono ?_
        rintro e w3 ⟨rfl, hb3⟩
        replace hB := hB.trans (hb3.mono hB.size)
        clear hb3
        go_wp2_with fail
        refine (HR.out V2 w3 hVb.2).mono ?_
        rintro e w4 ⟨rfl, hb4⟩
        replace hB := hB.trans (hb4.mono hB.size)
        clear hb4
        generalize mkRat (V1 : Int) 2 = q1 at htl ⊢
        generalize mkRat (V2 : Int) 2 = q2 at htl ⊢
        have r9 := heap_alloc_new w4 (.cells #[.int .i64 q1.num, .int .i64 q1.den, .int .i64 q2.num, .int .i64 q2.den] 35)
        have hB9 : Below w.heap.size w (w4.alloc (.cells #[.int .i64 q1.num, .int .i64 q1.den, .int .i64 q2.num, .int .i64 q2.den] 35)) := hB.alloc hB.size _
        have hP := pts_lit ([q1, q2].map pr) r9 rfl
        go_wp2_with fail
        go_ret2
        exact ⟨some ⟨w4.heap.size, 0, none⟩, 2, by rw [htr.out, htc.out, htl.out]; rfl, by rw [htr.out, htl.out]; exact hP, hB9⟩
    · have htc : Hid (Cl.twC L E = 5) := Lib.hid (Cl.twC_fit Hc.out (by rw [← Hn.out]; exact h2))
      have htr : Hid (Cl.twR L E = []) := Lib.hid (Cl.twR_no (by rw [htc.out]; decide))
      have e1 : ((n : Int) != 2) = true := by simp; omega
      go_wp2_with fail
      go_ret2
      exact ⟨none, 0, by rw [htr.out, htc.out]; rfl, by rw [htr.out]; exact ⟨fun h => by cases h⟩, hB⟩
  · have htc : Hid (Cl.twC L E = 1) := Lib.hid (Cl.twC_case (by rw [hc]; decide))
    have htr : Hid (Cl.twR L E = []) := Lib.hid (Cl.twR_no (by rw [htc.out]; decide))
    rw [hc]
    go_wp2_with fail
    go_ret2
    exact ⟨none, 0, by rw [htr.out, htc.out]; rfl, by rw [htr.out]; exact ⟨fun h => by cases h⟩, hB⟩
end Go.Proofs.Ytifhkagngjinfaa
