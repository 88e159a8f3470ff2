import Derived.Test.YtmajcccdbhbkfaaTrn
import Derived.Lib.AppendZeros
namespace Go.Proofs.Ytmajcccdbhbkfaa
open Go.RowKit
namespace Fl
/-- The errors of two fields. -/
def bothC (l m : List (Int × Int)) : Int := if validate l ≠ 0 then validate l else validate m
def joinC (l m : List (Int × Int)) : Int := if bothC l m ≠ 0 then bothC l m else if 6 < l.length + m.length then 3 else 0
theorem bothC_ok {l m : List (Int × Int)} (h : bothC l m = 0) : validate l = 0 ∧ validate m = 0 := by
  unfold bothC at h
  by_cases h0 : validate l = 0
  · rw [if_neg (by simp [h0])] at h; exact ⟨h0, h⟩
  · rw [if_pos h0] at h; exact absurd h h0
theorem joinC_ok {l m : List (Int × Int)} (h : joinC l m = 0) : validate l = 0 ∧ validate m = 0 ∧ l.length + m.length ≤ 6 := by
  unfold joinC at h
  by_cases h0 : bothC l m = 0
  · rw [if_neg (by simp [h0])] at h
    have := bothC_ok h0
    by_cases h1 : 6 < l.length + m.length
    · rw [if_pos h1] at h; omega
    · exact ⟨this.1, this.2, by omega⟩
  · rw [if_pos h0] at h; exact absurd h h0
end Fl

set_option maxRecDepth 100000 in
set_option maxHeartbeats 1000000 in
theorem validateBoth_any (l l2 : List (Int × Int)) (ao : Option Addr) (n cap : Nat) (ao2 : Option Addr) (m cap2 : Nat) (w : World) (hp : Pts w ao l) (hln : n = l.length) (hn : n ≤ 100000) (hp2 : Pts w ao2 l2) (hlm : m = l2.length) (hm : m ≤ 100000) :
    Calls Try.prog 88 #[.slice ao n cap, .slice ao2 m cap2] w fun e w' => e = .returned (.int .i64 (Fl.bothC l l2)) ∧ Below w.heap.size w w' := by
  have Hn := Lib.hid hln
  have Hm := Lib.hid hlm
  clear hln hlm
  have hB := Below.refl w.heap.size w
  obtain ⟨v, hv⟩ : ∃ v, v = Fl.validate l := ⟨_, rfl⟩
  have hv0 : v = 0 ∨ (v != 0) = true := by by_cases h : v = 0 <;> simp [h]
  have Hv := Lib.hid hv
  clear hv
  go_enter Try.func88, Try.ntmps88
  go_wp2_with fail
  refine (validate_any l _ _ _ _ hp Hn.out hn).mono ?_
  rintro e w1 ⟨rfl, hbb⟩
  replace hp2 := hp2.below hbb
  replace hB := hB.trans (hbb.mono hB.size)
  clear hbb
  rw [← Hv.out]
  rcases hv0 with rfl | hv0
  · have hc : Hid (Fl.bothC l l2 = Fl.validate l2) := Lib.hid (by unfold Fl.bothC; rw [if_neg (by rw [← Hv.out]; simp)])
    go_wp2_with fail
    refine (validate_any l2 _ _ _ _ hp2 Hm.out hm).mono ?_
    rintro e w2 ⟨rfl, hbb⟩
    replace hp2 := hp2.below hbb
    replace hB := hB.trans (hbb.mono hB.size)
    clear hbb
    go_wp2
    go_ret
    exact ⟨ret_int hc.out.symm, hB⟩
  · have hc : Hid (Fl.bothC l l2 = v) := Lib.hid (by unfold Fl.bothC; rw [if_pos (by rw [← Hv.out]; exact code_ne hv0), Hv.out])
    go_wp2
    go_ret
    exact ⟨ret_int hc.out.symm, hB⟩
set_option maxRecDepth 100000 in
set_option maxHeartbeats 1000000 in
theorem rtwo_any (l l2 : List (Int × Int)) (ao : Option Addr) (n cap : Nat) (ao2 : Option Addr) (m cap2 : Nat) (w : World) (hp : Pts w ao l) (hln : n = l.length) (hn : n ≤ 100000) (hp2 : Pts w ao2 l2) (hlm : m = l2.length) (hm : m ≤ 100000) :
    Calls Try.prog 90 #[.slice ao n cap, .slice ao2 m cap2] w fun e w' => e = .returned (.int .i64 (Fl.bothC l l2)) ∧ w = w' := by
  have Hn := Lib.hid hln
  have Hm := Lib.hid hlm
  clear hln hlm
  obtain ⟨v, hv⟩ : ∃ v, v = Fl.validate l := ⟨_, rfl⟩
  have hv0 : v = 0 ∨ (v != 0) = true := by by_cases h : v = 0 <;> simp [h]
  have Hv := Lib.hid hv
  clear hv
  go_enter Try.func90, Try.ntmps90
  go_wp2_with fail
  refine (rvalidate_any l _ _ _ _ hp Hn.out hn).mono ?_
  rintro e w1 ⟨rfl, hw⟩
  subst hw
  rw [← Hv.out]
  rcases hv0 with rfl | hv0
  · have hc : Hid (Fl.bothC l l2 = Fl.validate l2) := Lib.hid (by unfold Fl.bothC; rw [if_neg (by rw [← Hv.out]; simp)])
    go_wp2_with fail
    refine (rvalidate_any l2 _ _ _ _ hp2 Hm.out hm).mono ?_
    rintro e w1 ⟨rfl, hw⟩
    subst hw
    go_wp2
    go_ret
    exact ⟨ret_int hc.out.symm, rfl⟩
  · have hc : Hid (Fl.bothC l l2 = v) := Lib.hid (by unfold Fl.bothC; rw [if_pos (by rw [← Hv.out]; exact code_ne hv0), Hv.out])
    go_wp2
    go_ret
    exact ⟨ret_int hc.out.symm, rfl⟩

theorem zone_snoc {l : List (Int × Int)} {k : Nat} (hk : k < l.length) : flat2 (l.reverse.take (k + 1)) = flat2 (l.reverse.take k) ++ [.int .i64 (l.getD (l.length - 1 - k) (0, 0)).1, .int .i64 (l.getD (l.length - 1 - k) (0, 0)).2] := by
  have hk2 : k < l.reverse.length := by rw [List.length_reverse]; exact hk
  rw [List.take_succ_eq_append_getElem hk2, flat2_app, List.getElem_reverse, List.getD_eq_getElem?_getD, List.getElem?_eq_getElem (by omega)]
  rfl

set_option maxRecDepth 100000 in
set_option maxHeartbeats 4000000 in
theorem rTurn_any (l : List (Int × Int)) (ao : Option Addr) (n cap : Nat) (w : World) (hp : Pts w ao l) (hln : n = l.length) (hn : n ≤ 100000) :
    Calls Try.prog 56 #[.slice ao n cap] w fun e w' => (∃ v, e = .returned (.tuple #[v, .int .i64 (Fl.validate l)]) ∧ FieldMade w' v (Fl.validate l) l.reverse) ∧ Below w.heap.size w w' := by
  have Hn := Lib.hid hln
  clear hln
  obtain ⟨C, hC⟩ : ∃ c, Fl.validate l = c := ⟨_, rfl⟩
  rw [hC]
  have hC0 : C = 0 ∨ (C != 0) = true := by by_cases h : C = 0 <;> simp [h]
  have HC := Lib.hid hC
  clear hC
  obtain ⟨i0, hi0, hz0, hz1, hz2⟩ := info_zn
  go_enter Try.func56, Try.ntmps56
  go_wp2_with fail
  refine (rvalidate_any l _ _ _ _ hp Hn.out hn).mono ?_
  rintro e w1 ⟨rfl, hw⟩
  subst hw
  rw [HC.out]
  rcases hC0 with rfl | hC0
  · have hv := Fl.validate_ok.1 HC.out
    have hm8 : n ≤ 6 := by have := Hn.out; omega
    have hm1 : 1 ≤ n := by have := Hn.out; omega
    have e1 : IntKind.i64.wrap ((n : Int) - 1) = (n : Int) - 1 := IntWalk.i64_in _ (by omega)
    have HP := Lib.hid hp
    clear hv hp
    go_wp2
    clear e1
    go_loopw [5, 6] (fun v i wr => ∃ (k : Nat) (z : Int), k ≤ n ∧ Hid (z = (n : Int) - 1 - k) ∧ -1 ≤ z ∧ z ≤ 8 ∧ i = .int .i64 z ∧ Hid (wr.ownsRow w.heap.size 52 2 v k (flat2 (l.reverse.take k))) ∧ Below w.heap.size w wr) (fun _ i _ => (intOf i + 1).toNat)
    case atStart => exact ⟨0, (n : Int) - 1, Nat.zero_le _, Lib.hid (by omega), by omega, by omega, rfl, Lib.hid ⟨rfl, .inl ⟨rfl, rfl⟩⟩, Below.refl _ _⟩
    case round =>
      obtain ⟨k, z, hk, Hz, hz1', hz2', rfl, hown, hb⟩ := hrel
      by_cases hlt : 0 ≤ z
      · obtain ⟨j, rfl⟩ := Int.eq_ofNat_of_zero_le hlt
        have hz := Hz.out
        have hkl : k < l.length := by have := Hn.out; omega
        obtain ⟨b, off, rfl, hbs, hc⟩ := HP.out.cells (by have := Hn.out; omega)
        obtain ⟨c0, c1⟩ := hc j (by have := Hn.out; omega)
        replace c0 := keep_cell hb c0
        replace c1 := keep_cell hb c1
        have hsn := zone_snoc hkl
        rw [show l.length - 1 - k = j by have := Hn.out; omega] at hsn
        obtain ⟨x, hx⟩ : ∃ x, x = l.getD j (0, 0) := ⟨_, rfl⟩
        rw [← hx] at c0 c1 hsn
        have Hsn := Lib.hid hsn
        have i1 : (j : Int) < (n : Int) := by omega
        have hk8 : k < 8 := by omega
        have hkm : k + 1 ≤ n := by omega
        have Hz2 : Hid ((j : Int) - 1 = (n : Int) - 1 - ((k + 1 : Nat) : Int)) := Lib.hid (by omega)
        have hj8 : (j : Int) ≤ 8 := by omega
        have e1 : IntKind.i64.wrap ((j : Int) - 1) = (j : Int) - 1 := IntWalk.i64_in _ (by omega)
        clear hx hsn hz Hz hc
        have hs := hb.size
        go_wp2_with (first | (at_builtin; refine wpList_append_own _ rfl _ _ 22 rfl w.heap.size 52 i0 (.agg #[.int .i64 0, .int .i64 0]) 2 16 Try.underlying22 hi0 hz0 hz1 hz2 rfl (by decide) _ k _ rfl (hown.out.alloc _) ⟨wr.heap.size, 0, none⟩ 1 1 [.int .i64 x.1, .int .i64 x.2] rfl rfl (World.news_of_block (cs := #[.int .i64 x.1, .int .i64 x.2]) (t := 52) (fr := (0, 0)) (heap_alloc_new wr _)) (by simp [Value.oneCell']) (by unfold maxLen; omega) (by omega) (by simp; omega) ?_; intro v' w4 hown4 hgrow4 hnil4; have hb5 : Below w.heap.size w w4 := (hb.alloc hs _).grown hgrow4 (by simp; omega) (fun q hq => (hown.out.lt _ hq).1); clear hgrow4 hnil4))
        go_roundw
        case rel => exact ⟨k + 1, (j : Int) - 1, hkm, Hz2, by omega, by omega, by go_num, Lib.hid (by rw [Hsn.out]; exact hown4), hb5⟩
        case measure => simp [intOf]
      · have hz := Hz.out
        have hkm : k = n := by omega
        have ho := hown.out
        have he : l.reverse.take n = l.reverse := List.take_of_length_le (by rw [List.length_reverse]; have := Hn.out; omega)
        rw [hkm, he] at ho
        have hrl : n = l.reverse.length := by rw [List.length_reverse]; exact Hn.out
        obtain ⟨ao4, cap4, rfl, hcap4, hp4⟩ := own_pts2 ho hrl
        have Hp4 := Lib.hid (fieldMade_ok hrl hcap4 hp4)
        clear he hrl
        clear ho hown hkm hz hp4
        go_wp2
        go_ret2
        exact ⟨⟨_, rfl, Hp4.out⟩, hb⟩
  · go_wp2
    go_ret2
    exact ⟨⟨_, rfl, fieldMade_no (code_ne hC0)⟩, Below.refl _ _⟩

set_option maxRecDepth 100000 in
set_option maxHeartbeats 4000000 in
theorem rJoin_any (l l2 : List (Int × Int)) (ao : Option Addr) (n cap : Nat) (ao2 : Option Addr) (m cap2 : Nat) (w : World) (hp : Pts w ao l) (hln : n = l.length) (hn : n ≤ 100000) (hp2 : Pts w ao2 l2) (hlm : m = l2.length) (hm : m ≤ 100000) :
    Calls Try.prog 55 #[.slice ao n cap, .slice ao2 m cap2] w fun e w' => (∃ v, e = .returned (.tuple #[v, .int .i64 (Fl.joinC l l2)]) ∧ FieldMade w' v (Fl.joinC l l2) (l ++ l2)) ∧ Below w.heap.size w w' := by
  have Hn := Lib.hid hln
  have Hm := Lib.hid hlm
  clear hln hlm
  obtain ⟨C, hC⟩ : ∃ c, Fl.joinC l l2 = c := ⟨_, rfl⟩
  rw [hC]
  have HC := Lib.hid hC
  clear hC
  obtain ⟨v, hv⟩ : ∃ v, v = Fl.bothC l l2 := ⟨_, rfl⟩
  have hv0 : v = 0 ∨ (v != 0) = true := by by_cases h : v = 0 <;> simp [h]
  have Hv := Lib.hid hv
  clear hv
  obtain ⟨i0, hi0, hz0, hz1, hz2⟩ := info_zn
  go_enter Try.func55, Try.ntmps55
  go_wp2_with fail
  refine (rtwo_any l l2 _ _ _ _ _ _ _ hp Hn.out hn hp2 Hm.out hm).mono ?_
  rintro e w1 ⟨rfl, hw⟩
  subst hw
  rw [← Hv.out]
  rcases hv0 with rfl | hv0
  · obtain ⟨h1, h2⟩ := Fl.bothC_ok Hv.out.symm
    have q1 := (Fl.validate_ok.1 h1).1
    have q2 := (Fl.validate_ok.1 h2).1
    obtain ⟨b, off, rfl, hbs, -⟩ := hp.cells (by omega)
    obtain ⟨b2, off2, rfl, hbs2, -⟩ := hp2.cells (by omega)
    have hn6 : n ≤ 6 ∧ 1 ≤ n := by have := Hn.out; omega
    have hm6 : m ≤ 6 ∧ 1 ≤ m := by have := Hm.out; omega
    have hA := (Below.refl _ w).alloc (Nat.le_refl _) (.cells #[] 52)
    have Hs := Lib.hid (pts_flat (hp.below hA))
    have Hp2 := Lib.hid hp2
    clear h1 h2 q1 q2 hp hp2 hA
    obtain ⟨N, hN⟩ : ∃ N, N = n + m := ⟨_, rfl⟩
    have HNl : Hid (N = (l ++ l2).length) := Lib.hid (by rw [List.length_append, hN, Hn.out, Hm.out])
    have HN := Lib.hid hN
    have hCv := HC.out
    unfold Fl.joinC at hCv
    rw [if_neg (by rw [← Hv.out]; simp)] at hCv
    by_cases h6 : 6 < N
    · have hc3 : Hid (C = 3) := Lib.hid (by rw [if_pos (by have := Hn.out; have := Hm.out; omega)] at hCv; exact hCv.symm)
      have h6' : (6 : Int) < (N : Int) := by omega
      clear hCv hN
      go_wp2_with (first
        | (at_builtin; refine wpList_append_own _ rfl _ _ 22 rfl w.heap.size 52 i0 (.agg #[.int .i64 0, .int .i64 0]) 2 16 Try.underlying22 hi0 hz0 hz1 hz2 rfl (by decide) _ 0 [] rfl (own_new2 w _) ⟨b, off, none⟩ n cap (flat2 l) rfl (by rw [flat2_length, Hn.out]) Hs.out (flat2_one l) (by unfold maxLen; omega) (by omega) (by simp) ?_; intro v1 w1 hown1 hgrow1 hnil1; have hb1 : Below w.heap.size w w1 := ((Below.refl _ w).alloc (Nat.le_refl _) _).grown hgrow1 (by simp) (fun k hk => by cases hk; exact Nat.le_refl _); rw [Nat.zero_add, List.nil_append] at hown1; have Hs2 := Lib.hid (pts_flat (Hp2.out.below hb1)); have hs1 := hb1.size; clear hgrow1 hnil1)
        | (at_builtin; refine wpList_append_own _ rfl _ _ 22 rfl w.heap.size 52 i0 (.agg #[.int .i64 0, .int .i64 0]) 2 16 Try.underlying22 hi0 hz0 hz1 hz2 rfl (by decide) _ n (flat2 l) rfl hown1 ⟨b2, off2, none⟩ m cap2 (flat2 l2) rfl (by rw [flat2_length, Hm.out]) Hs2.out (flat2_one l2) (by unfold maxLen; omega) (by omega) (by omega) ?_; intro v2 w2 hown2 hgrow2 hnil2; have hb2 : Below w.heap.size w w2 := hb1.grown hgrow2 (by omega) (fun q hq => (hown1.lt _ hq).1); rw [← HN.out, ← flat2_app] at hown2; obtain ⟨ao5, cap5, rfl, hc5, hp5⟩ := own_pts2 hown2 HNl.out; have HM5 := Lib.hid (fieldMade_ok HNl.out hc5 hp5); clear hgrow2 hnil2 hown2 hp5 hc5))
      go_ret2
      rw [hc3.out]
      exact ⟨⟨_, rfl, fieldMade_no (by decide)⟩, hb2⟩
    · have hc0 : Hid (C = 0) := Lib.hid (by rw [if_neg (by have := Hn.out; have := Hm.out; omega)] at hCv; exact hCv.symm)
      have h6' : ¬ (6 : Int) < (N : Int) := by omega
      clear hCv hN
      go_wp2_with (first
        | (at_builtin; refine wpList_append_own _ rfl _ _ 22 rfl w.heap.size 52 i0 (.agg #[.int .i64 0, .int .i64 0]) 2 16 Try.underlying22 hi0 hz0 hz1 hz2 rfl (by decide) _ 0 [] rfl (own_new2 w _) ⟨b, off, none⟩ n cap (flat2 l) rfl (by rw [flat2_length, Hn.out]) Hs.out (flat2_one l) (by unfold maxLen; omega) (by omega) (by simp) ?_; intro v1 w1 hown1 hgrow1 hnil1; have hb1 : Below w.heap.size w w1 := ((Below.refl _ w).alloc (Nat.le_refl _) _).grown hgrow1 (by simp) (fun k hk => by cases hk; exact Nat.le_refl _); rw [Nat.zero_add, List.nil_append] at hown1; have Hs2 := Lib.hid (pts_flat (Hp2.out.below hb1)); have hs1 := hb1.size; clear hgrow1 hnil1)
        | (at_builtin; refine wpList_append_own _ rfl _ _ 22 rfl w.heap.size 52 i0 (.agg #[.int .i64 0, .int .i64 0]) 2 16 Try.underlying22 hi0 hz0 hz1 hz2 rfl (by decide) _ n (flat2 l) rfl hown1 ⟨b2, off2, none⟩ m cap2 (flat2 l2) rfl (by rw [flat2_length, Hm.out]) Hs2.out (flat2_one l2) (by unfold maxLen; omega) (by omega) (by omega) ?_; intro v2 w2 hown2 hgrow2 hnil2; have hb2 : Below w.heap.size w w2 := hb1.grown hgrow2 (by omega) (fun q hq => (hown1.lt _ hq).1); rw [← HN.out, ← flat2_app] at hown2; obtain ⟨ao5, cap5, rfl, hc5, hp5⟩ := own_pts2 hown2 HNl.out; have HM5 := Lib.hid (fieldMade_ok HNl.out hc5 hp5); clear hgrow2 hnil2 hown2 hp5 hc5))
      go_ret2
      rw [hc0.out]
      exact ⟨⟨_, rfl, HM5.out⟩, hb2⟩
  · have hcv : Hid (C = v) := Lib.hid (by
      have := HC.out
      unfold Fl.joinC at this
      rw [if_pos (by rw [← Hv.out]; exact code_ne hv0), ← Hv.out] at this
      exact this.symm)
    go_wp2
    go_ret2
    rw [hcv.out]
    exact ⟨⟨_, rfl, fieldMade_no (code_ne hv0)⟩, Below.refl _ _⟩
end Go.Proofs.Ytmajcccdbhbkfaa
