import Derived.Test.YtkpabehjehbidaaEqp
namespace Go.Proofs.Ytkpabehjehbidaa
open Go.RowKit

theorem eqL_snoc {l : List (Int × Int)} {P k : Nat} (hk : k < P - 1) : flat2 (((Fl.eqL l P).take (k + 1)).map pr) = flat2 (((Fl.eqL l P).take k).map pr) ++ [.int .i64 ((Fl.eqL l P).getD k 0).num, .int .i64 ((Fl.eqL l P).getD k 0).den] := by
  have hl : k < (Fl.eqL l P).length := by unfold Fl.eqL; simpa using hk
  rw [List.take_succ_eq_append_getElem hl, List.map_append, flat2_app, List.getD_eq_getElem?_getD, List.getElem?_eq_getElem hl]
  rfl
theorem eqL_reach {l : List (Int × Int)} (hok : Fl.Ok l) (h6 : l.length ≤ 6) {P : Nat} (hp : 1 ≤ P) (hp8 : P ≤ 8) {k : Nat} (hk : k < P - 1) :
    Fl.reachR (Fl.units l) 0 (mkRat (((k : Int) + 1) * Fl.tot l) P) = some ((Fl.eqL l P).getD k 0) ∧ WantU (mkRat (((k : Int) + 1) * Fl.tot l) P) := by
  have hT := Fl.tot_bound hok
  have hlb := Fl.len_bound hok
  obtain ⟨e, he⟩ : ∃ e, e = (Fl.tot l : Rat) / ((P : Int) : Rat) := ⟨_, rfl⟩
  have hpr : (1 : Rat) ≤ ((P : Int) : Rat) := by exact_mod_cast hp
  have hpi := Rat.mul_inv_cancel ((P : Int) : Rat) (by grind)
  have hpp : 0 < (((P : Int) : Rat))⁻¹ := Rat.inv_pos.2 (by grind)
  have hW : mkRat (((k : Int) + 1) * Fl.tot l) P = ((k + 1 : Nat) : Rat) * e := by
    rw [Rat.mkRat_eq_div, he, Rat.div_def, Rat.div_def, ← Rat.mul_assoc]
    have h1 : ((((k : Int) + 1) * Fl.tot l : Int) : Rat) = ((k + 1 : Nat) : Rat) * (Fl.tot l : Rat) := by rw [Rat.intCast_mul]; rfl
    rw [h1]; rfl
  have h0 := Fl.eqAt_all hok h6 hp hp8 he (k + 1) (by omega)
  have hT0 : (0 : Rat) ≤ (Fl.tot l : Rat) := by exact_mod_cast hT.1
  have he0 : 0 ≤ e := by rw [he, Rat.div_def]; exact Rat.mul_nonneg hT0 (by grind)
  have he2 : ((P : Int) : Rat) * e = (Fl.tot l : Rat) := by
    rw [he, Rat.div_def, ← Rat.mul_assoc, Rat.mul_comm ((P : Int) : Rat), Rat.mul_assoc, hpi, Rat.mul_one]
  have hkp : ((k + 1 : Nat) : Rat) ≤ ((P : Int) : Rat) := by exact_mod_cast (show k + 1 ≤ P by omega)
  have hk0 : (0 : Rat) ≤ ((k + 1 : Nat) : Rat) := by exact_mod_cast Nat.zero_le _
  have hw0 : 0 ≤ ((k + 1 : Nat) : Rat) * e := Rat.mul_nonneg hk0 he0
  have hke : ((k + 1 : Nat) : Rat) * e ≤ (Fl.tot l : Rat) := by rw [← he2]; exact Rat.mul_le_mul_of_nonneg_right hkp he0
  have hl0 : (0 : Rat) ≤ (Fl.len l : Rat) := by exact_mod_cast (show (0 : Int) ≤ Fl.len l by omega)
  have hr0 := Fl.worth_rest hok (a := 0) Rat.le_refl hl0
  rw [(Fl.cutAt_zero hok).b] at hr0
  have hz : ((0 : Int) : Rat) = 0 := rfl
  rw [hz] at hr0
  have hre := reachR_eq hok (a := 0) Rat.le_refl hl0 hw0
  rw [if_neg (by rw [hr0]; grind)] at hre
  have hg : (Fl.eqL l P).getD k 0 = Fl.place l 0 (((k + 1 : Nat) : Rat) * e) := by
    unfold Fl.eqL
    rw [List.getD_eq_getElem?_getD, List.getElem?_map, List.getElem?_range hk, he]
    rfl
  rw [hW, hg]
  refine ⟨hre, hw0, Rat.le_trans hke (Rat.intCast_le_intCast.2 (by omega)), ?_⟩
  rw [← hW, Rat.den_mkRat]
  split
  · omega
  · exact Nat.le_trans (Nat.div_le_self _ _) (by omega)

set_option maxRecDepth 100000 in
set_option maxHeartbeats 4000000 in
theorem rEqual_any (l : List (Int × Int)) (p : Int) (ao : Option Addr) (n cap : Nat) (w : World) (hp : Pts w ao l) (hln : n = l.length) (hn : n ≤ 100000) :
    Calls Try.prog 40 #[.slice ao n cap, .int .i64 p] w fun e w' => (∃ v, e = .returned (.tuple #[v, .int .i64 (Fl.eqC l p)]) ∧ CutMade w' w.heap.size v (Fl.eqC l p) ((Fl.eqL l p.toNat).map pr)) ∧ Below w.heap.size w w' := by
  have Hn := Lib.hid hln
  clear hln
  obtain ⟨C, hC⟩ : ∃ c, Fl.eqC l p = c := ⟨_, rfl⟩
  rw [hC]
  have HC := Lib.hid hC
  clear hC
  obtain ⟨v, hv⟩ : ∃ v, v = Fl.validate l := ⟨_, rfl⟩
  have hv0 : v = 0 ∨ (v != 0) = true := by by_cases h : v = 0 <;> simp [h]
  have Hv := Lib.hid hv
  clear hv
  obtain ⟨i0, hi0, hz0, hz1, hz2⟩ := info_rt
  have HP0 := Lib.hid hp
  go_enter Try.func40, Try.ntmps40
  go_wp2_with fail
  refine (rvalidate_any l _ _ _ _ hp Hn.out hn).mono ?_
  rintro e w1 ⟨rfl, hw⟩
  subst hw
  rw [← Hv.out]
  rcases hv0 with rfl | hv0
  · have hok := Fl.validate_ok.1 Hv.out.symm
    have hl6 := hok.1.2
    go_wp2_with fail
    refine (rwithin_any p 1 8 _).mono ?_
    rintro e w2 ⟨rfl, hw⟩
    subst hw
    cases hin : (decide (1 ≤ p) && decide (p ≤ 8)) with
    | false =>
      have hc3 : Hid (C = 3) := Lib.hid (by
        have := HC.out
        unfold Fl.eqC at this
        rw [if_neg (by rw [← Hv.out]; simp), if_pos (by simp at hin; omega)] at this
        exact this.symm)
      clear hin
      go_wp2
      go_ret2
      rw [hc3.out]
      exact ⟨⟨_, rfl, .inr ⟨by omega, rfl⟩⟩, Below.refl _ _⟩
    | true =>
      have hin2 : 1 ≤ p ∧ p ≤ 8 := by simpa using hin
      obtain ⟨P, rfl⟩ := Int.eq_ofNat_of_zero_le (show 0 ≤ p by omega)
      have hc0 : Hid (C = 0) := Lib.hid (by
        have := HC.out
        unfold Fl.eqC at this
        rw [if_neg (by rw [← Hv.out]; simp), if_neg (by omega)] at this
        exact this.symm)
      have hP1 : 1 ≤ P := by omega
      have hP8 : P ≤ 8 := by omega
      have htb := Fl.tot_bound hok.2
      have hu := unitsOk_of hok.2 hl6
      clear hin hin2
      go_wp2
      go_loopw [7, 8] (fun v i wr => ∃ (k : Nat) (z : Int), k ≤ P - 1 ∧ Hid (z = (k : Int) + 1) ∧ 1 ≤ z ∧ z ≤ 8 ∧ i = .int .i64 z ∧ Hid (wr.ownsRow w.heap.size 29 2 v k (flat2 (((Fl.eqL l P).take k).map pr))) ∧ Below w.heap.size w wr) (fun _ i _ => P - (intOf i).toNat)
      case atStart => exact ⟨0, 1, Nat.zero_le _, Lib.hid (by omega), by omega, by omega, rfl, Lib.hid ⟨rfl, .inl ⟨rfl, rfl⟩⟩, Below.refl _ _⟩
      case round =>
        obtain ⟨k, z, hk, Hz, hz1', hz8, rfl, hown, hB⟩ := hrel
        by_cases hlt : k < P - 1
        · have hz := Hz.out
          have i1 : z < (P : Int) := by omega
          obtain ⟨hre, hwu⟩ := eqL_reach hok.2 hl6 hP1 hP8 hlt
          have hsn := eqL_snoc (l := l) hlt
          have hfa := (Fl.eqL_facts hok.2 hl6 hP1 hP8).1 k hlt
          rw [← hz] at hre hwu
          obtain ⟨V, hV⟩ : ∃ V, V = (Fl.eqL l P).getD k 0 := ⟨_, rfl⟩
          rw [← hV] at hre hsn
          have Hsn := Lib.hid hsn
          have htz : 0 ≤ z * Fl.tot l ∧ z * Fl.tot l ≤ 8 * 3000 := ⟨Int.mul_nonneg (by omega) htb.1, Int.mul_le_mul hz8 (by omega) htb.1 (by omega)⟩
          have y1 : IntKind.i64.wrap (z * Fl.tot l) = z * Fl.tot l := IntWalk.i64_in _ (by omega)
          obtain ⟨T, hT⟩ : ∃ T, T = Fl.tot l := ⟨_, rfl⟩
          rw [← hT] at hre hwu htz y1
          obtain ⟨X, hX⟩ : ∃ X, X = mkRat (z * T) P := ⟨_, rfl⟩
          rw [← hX] at hre hwu
          have HX := Lib.hid hX
          have Hre := Lib.hid hre
          have Hwu := Lib.hid hwu
          have HT := Lib.hid hT
          have Hz2 : Hid (z + 1 = ((k + 1 : Nat) : Int) + 1) := Lib.hid (by omega)
          have hk2 : k + 1 ≤ P - 1 := by omega
          have hz9 : z + 1 ≤ 8 := by omega
          have hl0 := placeU_of hok.2 (a := 0) Rat.le_refl (by exact_mod_cast (show (0 : Int) ≤ Fl.len l by have := (Fl.len_bound hok.2).1; omega)) (by decide)
          have Hl0 := Lib.hid hl0
          have hp := HP0.out.below hB
          clear hsn hre hwu hfa hV hz hT hX hl0
          go_wp2_with fail
          refine (units_any l _ _ _ _ hp Hn.out hok.2 hl6).mono ?_
          rintro e w4 ⟨ao3, cap3, rfl, hIu, hbb⟩
          replace hp := hp.below hbb
          replace hown := Lib.hid (own_below hown.out hbb)
          replace hB := hB.trans (hbb.mono hB.size)
          clear hbb
          go_wp2_with fail
          refine (rwhole0_any _).mono ?_
          rintro e w1 ⟨rfl, hbb⟩
          replace hp := hp.below hbb
          replace hIu := hIu.below hbb
          replace hown := Lib.hid (own_below hown.out hbb)
          replace hB := hB.trans (hbb.mono hB.size)
          clear hbb
          go_wp2_with fail
          refine (rtotal_any l _ _ _ _ hp Hn.out hok.2 hl6).mono ?_
          rintro e w2 ⟨rfl, hbb⟩
          replace hp := hp.below hbb
          replace hIu := hIu.below hbb
          replace hown := Lib.hid (own_below hown.out hbb)
          replace hB := hB.trans (hbb.mono hB.size)
          clear hbb
          rw [← HT.out]
          go_wp2_with fail
          refine (ratio_any (z * T) P _ (by omega) (by omega) (by omega) (by omega)).mono ?_
          rintro e w3 ⟨rfl, hbb⟩
          replace hp := hp.below hbb
          replace hIu := hIu.below hbb
          replace hown := Lib.hid (own_below hown.out hbb)
          replace hB := hB.trans (hbb.mono hB.size)
          clear hbb
          rw [← HX.out]
          go_wp2_with fail
          refine (rreach_any _ 0 X _ _ _ hIu hu Hl0.out (by decide) Hwu.out).mono ?_
          rintro e w4 ⟨rfl, hbb⟩
          replace hp := hp.below hbb
          replace hIu := hIu.below hbb
          replace hown := Lib.hid (own_below hown.out hbb)
          replace hB := hB.trans (hbb.mono hB.size)
          clear hbb
          rw [Hre.out, optFr_some]
          have hA := (Below.refl _ w4).alloc (Nat.le_refl _) (.cells #[.int .i64 V.num, .int .i64 V.den] 29)
          have r9 := heap_alloc_new w4 (.cells #[.int .i64 V.num, .int .i64 V.den] 29)
          replace hown := Lib.hid (own_below hown.out hA)
          replace hB := hB.trans (hA.mono hB.size)
          clear hA hIu
          go_upto_region 11 with fail
          generalize w4.alloc (.cells #[.int .i64 V.num, .int .i64 V.den] 29) = W5 at hown hB r9 ⊢
          obtain ⟨⟨c0, c1⟩, -, -⟩ := row_fr r9
          have hs5 := hB.size
          go_wp2_with (first | (at_builtin; refine wpList_append_own _ rfl _ _ 39 rfl w.heap.size 29 i0 (.agg #[.int .i64 0, .int .i64 0]) 2 16 Try.underlying39 hi0 hz0 hz1 hz2 rfl (by decide) _ k _ rfl (hown.out.alloc _) ⟨W5.heap.size, 0, none⟩ 1 1 [.int .i64 V.num, .int .i64 V.den] rfl rfl (World.news_of_block (cs := #[.int .i64 V.num, .int .i64 V.den]) (t := 29) (fr := (0, 0)) (heap_alloc_new W5 _)) (by simp [Value.oneCell']) (by unfold maxLen; omega) (by omega) (by simp; omega) ?_; intro v' w6 hown6 hgrow6 hnil6; have hb6 : Below w.heap.size w w6 := (hB.alloc hs5 _).grown hgrow6 (by simp; omega) (fun q hq => (hown.out.lt _ hq).1); clear hgrow6 hnil6))
          go_roundw
          case rel => exact ⟨k + 1, z + 1, hk2, Hz2, by omega, hz9, by go_num, Lib.hid (by rw [Hsn.out]; exact hown6), hb6⟩
          case measure => simp [intOf]; omega
        · have hkP : k = P - 1 := by omega
          have i1 : ¬ z < (P : Int) := by have := Hz.out; omega
          have ho := hown.out
          have e2 : (Fl.eqL l P).length = P - 1 := by unfold Fl.eqL; simp
          rw [hkP, ← e2, List.take_length] at ho
          have Ho := Lib.hid ho
          clear ho hkP hown e2
          go_wp2
          go_ret2
          rw [hc0.out]
          refine ⟨⟨_, rfl, .inl ⟨rfl, ?_⟩⟩, hB⟩
          rw [List.length_map]
          exact Ho.out
  · have hcv : Hid (C = v) := Lib.hid (by
      have := HC.out
      unfold Fl.eqC at this
      rw [if_pos (by rw [← Hv.out]; exact code_ne hv0), ← Hv.out] at this
      exact this.symm)
    go_wp2
    go_ret2
    rw [hcv.out]
    exact ⟨⟨_, rfl, .inr ⟨code_ne hv0, rfl⟩⟩, Below.refl _ _⟩
end Go.Proofs.Ytkpabehjehbidaa
