import Derived.Test.YtmdkdkiejcjmaaaRa
/- Package selionref08: asked. -/
namespace Go.Proofs.Ytmdkdkiejcjmaaa
open Go.RowKit
theorem all_drop1 (p : Int → Bool) {l : List Int} {k : Nat} (hk : k < l.length) : (l.drop k).all p = (p (l.getD k 0) && (l.drop (k + 1)).all p) := by
  rw [List.drop_eq_getElem_cons hk, List.getD_eq_getElem?_getD, List.getElem?_eq_getElem hk]; rfl
namespace Tm
/-- Why a calendar, days and terms are none. -/
def acode (f : Int) (F : List Int) (S : List (Int × Int)) (ds ts : List Int) : Int := if vcode f F S ≠ 0 then vcode f F S else if upTo 10000 ds && upTo 400 ts then 0 else 1
theorem acode_days (f : Int) (F : List Int) (S : List (Int × Int)) (ds : List Int) : acode f F S ds [] = dcode f F S ds := by
  unfold acode dcode
  simp [upTo]
theorem acode_terms (f : Int) (F : List Int) (S : List (Int × Int)) (d : Int) (ts : List Int) : acode f F S [d] ts = tcode f F S d ts := by
  unfold acode tcode dcode
  by_cases h : vcode f F S = 0
  · simp only [h, ne_eq, not_true_eq_false, if_false]
    cases upTo 10000 [d] <;> simp
  · simp [h]
end Tm

set_option maxRecDepth 100000 in
set_option maxHeartbeats 8000000 in
theorem asked_any (f : Int) (F : List Int) (S : List (Int × Int)) (aoF : Option Addr) (nF cF : Nat) (aoS : Option Addr) (nS cS : Nat) (ds : List Int) (aoD : Option Addr) (nD cD : Nat) (ts : List Int) (aoT : Option Addr) (nT cT : Nat) (w : World) (hcl : Cl w aoF nF aoS nS F S) (h9 : nF ≤ 100000) (h8 : nS ≤ 100000)
    (hId : Ints w aoD ds) (hd : nD = ds.length) (hd9 : nD ≤ 100000) (hIt : Ints w aoT ts) (ht : nT = ts.length) (ht9 : nT ≤ 100000) :
    Calls Try.prog 57 #[.agg #[.int .i64 f, .slice aoF nF cF, .slice aoS nS cS], .slice aoD nD cD, .slice aoT nT cT] w fun e w' => e = .returned (.int .i64 (Tm.acode f F S ds ts)) ∧ Below w.heap.size w w' := by
  have Hd := Lib.hid hd
  have Ht := Lib.hid ht
  clear hd ht
  obtain ⟨C, hC⟩ : ∃ c, c = Tm.acode f F S ds ts := ⟨_, rfl⟩
  rw [← hC]
  have HC := Lib.hid hC
  clear hC
  have hA := (Below.refl _ w).alloc (Nat.le_refl _) (.cells #[.int .i64 f, .slice aoF nF cF, .slice aoS nS cS] 25)
  have rc := heap_alloc_new w (.cells #[.int .i64 f, .slice aoF nF cF, .slice aoS nS cS] 25)
  replace hcl := hcl.below hA
  replace hId := hId.below hA
  replace hIt := hIt.below hA
  go_enter Try.func57, Try.ntmps57
  go_upto_region 1 with fail
  generalize w.alloc (.cells #[.int .i64 f, .slice aoF nF cF, .slice aoS nS cS] 25) = W0 at hA rc hcl hId hIt ⊢
  obtain ⟨G, hG⟩ : ∃ g, g = w.heap.size := ⟨_, rfl⟩
  rw [← hG] at rc ⊢
  have HG := Lib.hid hG
  clear hG
  have c0 := cell_of_row W0 G 0 _ _ _ rc
  have c1 := cell_of_row W0 G 1 _ _ _ rc
  have c2 := cell_of_row W0 G 2 _ _ _ rc
  simp at c0 c1 c2
  clear rc
  have hX := rValidate_any f F S aoF nF cF aoS nS cS W0 hcl h9 h8
  clear hcl
  go_wp2_with fail
  refine hX.mono ?_
  clear hX c0 c1 c2
  rintro e w1 ⟨rfl, hbb⟩
  replace hId := hId.below hbb
  replace hIt := hIt.below hbb
  replace hA := hA.trans (hbb.mono hA.size)
  clear hbb
  by_cases hz : Tm.vcode f F S = 0
  · have hc2 : Hid (C = if (ds.drop 0).all (fun x => decide (0 ≤ x) && decide (x ≤ 10000)) && ts.all (fun x => decide (0 ≤ x) && decide (x ≤ 400)) then 0 else 1) := Lib.hid (by rw [HC.out]; unfold Tm.acode Tm.upTo; rw [if_neg (by simpa using hz)]; rfl)
    rw [hz]
    clear HC hz
    go_wp2_with fail
    go_loopw [8] (fun i wr => ∃ k : Nat, k ≤ nD ∧ i = .int .i64 k ∧ Hid (C = if (ds.drop k).all (fun x => decide (0 ≤ x) && decide (x ≤ 10000)) && ts.all (fun x => decide (0 ≤ x) && decide (x ≤ 400)) then 0 else 1) ∧ wr = w1) (fun i _ => nD - (intOf i).toNat)
    case atStart => exact ⟨0, Nat.zero_le _, rfl, hc2, rfl⟩
    case round =>
      obtain ⟨k, hk, rfl, HK, hwr⟩ := hrel
      subst hwr
      by_cases hlt : k < nD
      · have hkl : k < ds.length := by have := Hd.out; omega
        obtain ⟨b, off, hao, hbs, z0⟩ := hId.at hkl
        have hst := Lib.hid (all_drop1 (fun x => decide (0 ≤ x) && decide (x ≤ 10000)) hkl)
        obtain ⟨x, hx⟩ : ∃ x, x = ds.getD k 0 := ⟨_, rfl⟩
        rw [← hx] at z0 hst
        subst hao
        clear hx
        have i1 : (k : Int) < (nD : Int) := by omega
        by_cases hw : 0 ≤ x ∧ x ≤ 10000
        · have hX := Lib.hid (fun w9 => withinT w9 hw.1 hw.2)
          have hr : Hid (C = if (ds.drop (k + 1)).all (fun x => decide (0 ≤ x) && decide (x ≤ 10000)) && ts.all (fun x => decide (0 ≤ x) && decide (x ≤ 400)) then 0 else 1) := Lib.hid (by rw [HK.out, hst.out, decide_eq_true hw.1, decide_eq_true hw.2]; rfl)
          clear HK hst hw
          go_wp2_with fail
          refine (hX.out _).mono ?_
          rintro e w2 ⟨rfl, rfl⟩
          go_wp2_with fail
          go_roundw
          case rel => exact ⟨k + 1, by omega, by go_num, hr, trivial⟩
          case measure => simp [intOf]; omega
        · have hX := Lib.hid (fun w9 => withinF w9 hw)
          have hr : Hid (C = 1) := Lib.hid (by rw [HK.out, hst.out, show (decide (0 ≤ x) && decide (x ≤ 10000)) = false by rw [← Bool.decide_and]; exact decide_eq_false hw, Bool.false_and]; rfl)
          clear HK hst hw
          go_wp2_with fail
          refine (hX.out _).mono ?_
          rintro e w2 ⟨rfl, rfl⟩
          go_wp2_with fail
          go_ret
          exact ⟨ret_int hr.out.symm, hA⟩
      · have hc3 : Hid (C = if (ts.drop 0).all (fun x => decide (0 ≤ x) && decide (x ≤ 400)) then 0 else 1) := Lib.hid (by rw [HK.out, List.drop_eq_nil_of_le (by have := Hd.out; omega)]; rfl)
        clear HK
        go_wp2_with fail
        go_loopw [9] (fun i W2 => ∃ k : Nat, k ≤ nT ∧ i = .int .i64 k ∧ Hid (C = if (ts.drop k).all (fun x => decide (0 ≤ x) && decide (x ≤ 400)) then 0 else 1) ∧ W2 = wr) (fun i _ => nT - (intOf i).toNat)
        case atStart => exact ⟨0, Nat.zero_le _, rfl, hc3, rfl⟩
        case round =>
          obtain ⟨k, hk, rfl, HK, hwr⟩ := hrel
          subst hwr
          by_cases hlt : k < nT
          · have hkl : k < ts.length := by have := Ht.out; omega
            obtain ⟨b, off, hao, hbs, z0⟩ := hIt.at hkl
            have hst := Lib.hid (all_drop1 (fun x => decide (0 ≤ x) && decide (x ≤ 400)) hkl)
            obtain ⟨x, hx⟩ : ∃ x, x = ts.getD k 0 := ⟨_, rfl⟩
            rw [← hx] at z0 hst
            subst hao
            clear hx
            have i1 : (k : Int) < (nT : Int) := by omega
            by_cases hw : 0 ≤ x ∧ x ≤ 400
            · have hX := Lib.hid (fun w9 => withinT w9 hw.1 hw.2)
              have hr : Hid (C = if (ts.drop (k + 1)).all (fun x => decide (0 ≤ x) && decide (x ≤ 400)) then 0 else 1) := Lib.hid (by rw [HK.out, hst.out, decide_eq_true hw.1, decide_eq_true hw.2]; rfl)
              clear HK hst hw
              go_wp2_with fail
              refine (hX.out _).mono ?_
              rintro e w2 ⟨rfl, rfl⟩
              go_wp2_with fail
              go_roundw
              case rel => exact ⟨k + 1, by omega, by go_num, hr, trivial⟩
              case measure => simp [intOf]; omega
            · have hX := Lib.hid (fun w9 => withinF w9 hw)
              have hr : Hid (C = 1) := Lib.hid (by rw [HK.out, hst.out, show (decide (0 ≤ x) && decide (x ≤ 400)) = false by rw [← Bool.decide_and]; exact decide_eq_false hw, Bool.false_and]; rfl)
              clear HK hst hw
              go_wp2_with fail
              refine (hX.out _).mono ?_
              rintro e w2 ⟨rfl, rfl⟩
              go_wp2_with fail
              go_ret
              exact ⟨ret_int hr.out.symm, hA⟩
          · have hr : Hid (C = 0) := Lib.hid (by rw [HK.out, List.drop_eq_nil_of_le (by have := Ht.out; omega)]; rfl)
            go_wp2_with fail
            go_ret
            exact ⟨ret_int hr.out.symm, hA⟩
  · have hc : Hid (C = Tm.vcode f F S) := Lib.hid (by rw [HC.out]; unfold Tm.acode; rw [if_pos hz])
    have hne : (Tm.vcode f F S != 0) = true := by simp [hz]
    generalize Tm.vcode f F S = D at hz hne hc ⊢
    go_wp2_with fail
    go_ret
    exact ⟨ret_int hc.out.symm, hA⟩
end Go.Proofs.Ytmdkdkiejcjmaaa
