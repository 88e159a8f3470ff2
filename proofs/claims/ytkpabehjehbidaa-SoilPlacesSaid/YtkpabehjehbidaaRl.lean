import Derived.Test.YtkpabehjehbidaaRu
import Derived.Test.YtkpabehjehbidaaLtm
namespace Go.Proofs.Ytkpabehjehbidaa
open Go.RowKit

theorem sumI_units_bound {l : List (Int × Int)} (hok : Fl.Ok l) (k : Nat) : 0 ≤ Fl.sumI ((Fl.units l).take k) ∧ Fl.sumI ((Fl.units l).take k) ≤ 20 * k := Fl.units_pre hok k

set_option maxRecDepth 100000 in
set_option maxHeartbeats 2000000 in
theorem rtotal_any (l : List (Int × Int)) (ao : Option Addr) (n cap : Nat) (w : World) (hp : Pts w ao l) (hln : n = l.length) (hok : Fl.Ok l) (h6 : l.length ≤ 6) :
    Calls Try.prog 57 #[.slice ao n cap] w fun e w' => e = .returned (.int .i64 (Fl.tot l)) ∧ Below w.heap.size w w' := by
  have Hn := Lib.hid hln
  clear hln
  have HT := Lib.hid (Fl.units_sum hok)
  have hul := units_take_len hok h6 l.length
  rw [List.take_length] at hul
  go_enter Try.func57, Try.ntmps57
  go_wp2_with fail
  refine (units_any l _ _ _ _ hp Hn.out hok h6).mono ?_
  rintro e w1 ⟨ao2, cap2, rfl, hI, hb1⟩
  obtain ⟨U, hU⟩ : ∃ u, u = Fl.units l := ⟨_, rfl⟩
  have hUb := fun k => Fl.units_pre hok k
  have hUa := fun k => Fl.units_at hok k
  rw [← hU] at hI HT hul hUb hUa ⊢
  have HUb := Lib.hid (And.intro hUb hUa)
  clear hU hUb hUa hp
  go_wp2
  go_loopw [3, 5] (fun s i wr => ∃ k : Nat, k ≤ U.length ∧ i = .int .i64 k ∧ s = .int .i64 (Fl.sumI (U.take k)) ∧ Below w.heap.size w wr ∧ Ints wr ao2 U) (fun _ i _ => U.length - (intOf i).toNat)
  case atStart => exact ⟨0, Nat.zero_le _, rfl, rfl, hb1, hI⟩
  case round =>
    clear hb1 hI
    obtain ⟨k, hk, rfl, rfl, hb, hI⟩ := hrel
    by_cases hlt : k < U.length
    · obtain ⟨b, off, rfl, hbs, hc⟩ := hI.at hlt
      have h1 := HUb.out.1 k
      have h2 := HUb.out.2 k
      have hst := Lib.hid (Fl.sumI_take hlt)
      obtain ⟨x, hx⟩ : ∃ x, x = U.getD k 0 := ⟨_, rfl⟩
      obtain ⟨s, hs⟩ : ∃ x, x = Fl.sumI (U.take k) := ⟨_, rfl⟩
      rw [← hx] at hc h2 hst
      rw [← hs] at h1 hst ⊢
      clear hx hs
      have i1 : (k : Int) < (U.length : Int) := by omega
      have HI := Lib.hid hI
      clear hI
      go_wp2
      go_roundw
      case rel => exact ⟨k + 1, by omega, by go_num, by rw [hst.out], hb, HI.out⟩
      case measure => simp [intOf]; omega
    · have hk2 : k = U.length := by omega
      have Hk := Lib.hid hk2
      clear hk2
      go_wp2
      go_ret
      exact ⟨ret_int (by rw [Hk.out, List.take_length, HT.out]), hb⟩

theorem okZ_split (x y : Int) : Fl.okZ (x, y) = ((decide (1 ≤ x) && decide (x ≤ 20)) && (decide (0 ≤ y) && decide (y ≤ 20))) := by
  rw [Bool.eq_iff_iff, Fl.okZ_iff]; simp; omega

set_option maxRecDepth 100000 in
set_option maxHeartbeats 4000000 in
theorem rvalidate_any (l : List (Int × Int)) (ao : Option Addr) (n cap : Nat) (w : World) (hp : Pts w ao l) (hln : n = l.length) (hn : n ≤ 100000) :
    Calls Try.prog 24 #[.slice ao n cap] w fun e w' => e = .returned (.int .i64 (Fl.validate l)) ∧ w = w' := by
  have Hn := Lib.hid hln
  clear hln
  by_cases hlen : n < 1 ∨ 6 < n
  · have hv : Hid (Fl.validate l = 3) := Lib.hid (by unfold Fl.validate; rw [if_pos (by rw [← Hn.out]; exact hlen)])
    have ho' : (decide ((1 : Int) ≤ n) && decide ((n : Int) ≤ 6)) = false := by
      rw [Bool.eq_false_iff]; simp; omega
    go_enter Try.func24, Try.ntmps24
    go_wp2_with fail
    refine (rwithin_any _ _ _ _).mono ?_
    rintro e w' ⟨rfl, rfl⟩
    rw [ho']
    go_wp2
    go_ret
    exact ⟨ret_int hv.out.symm, rfl⟩
  · have h16 : 1 ≤ n ∧ n ≤ 6 := by omega
    obtain ⟨hh1, hh2⟩ := h16
    have ho' : (decide ((1 : Int) ≤ n) && decide ((n : Int) ≤ 6)) = true := by simp; omega
    clear hlen
    go_enter Try.func24, Try.ntmps24
    go_wp2_with fail
    refine (rwithin_any _ _ _ _).mono ?_
    rintro e w' ⟨rfl, rfl⟩
    rw [ho']
    clear ho'
    go_wp2
    go_loop [3] (fun i => ∃ k : Nat, k ≤ n ∧ i = .int .i64 k ∧ Hid (∀ j, j < k → Fl.okZ (l.getD j (0, 0)) = true)) (fun i => n - (intOf i).toNat)
    case atStart => exact ⟨0, Nat.zero_le _, rfl, Lib.hid fun j hj => by omega⟩
    case round =>
      obtain ⟨k, hk, rfl, hall⟩ := hrel
      by_cases hlt : k < n
      · obtain ⟨b, off, rfl, hbs, hc⟩ := hp.cells (by have := Hn.out; omega)
        have hkl : k < l.length := by have := Hn.out; omega
        obtain ⟨hc1, hc2⟩ := hc k hkl
        clear hc hp
        have i1 : (k : Int) < (n : Int) := by omega
        obtain ⟨z, hz⟩ : ∃ x, x = l.getD k (0, 0) := ⟨_, rfl⟩
        rw [← hz] at hc1 hc2
        obtain ⟨x, y⟩ := z
        simp only at hc1 hc2
        have Hz := Lib.hid hz
        clear hz
        have hq := okZ_split x y
        obtain ⟨b1, hb1⟩ : ∃ v, (decide (1 ≤ x) && decide (x ≤ 20)) = v := ⟨_, rfl⟩
        obtain ⟨b2, hb2⟩ : ∃ v, (decide (0 ≤ y) && decide (y ≤ 20)) = v := ⟨_, rfl⟩
        rw [hb1, hb2] at hq
        have Hq := Lib.hid hq
        have Hb1 := Lib.hid hb1
        have Hb2 := Lib.hid hb2
        clear hq hb1 hb2
        go_wp2_with fail
        refine (rwithin_any _ _ _ _).mono ?_
        rintro e w' ⟨rfl, rfl⟩
        rw [Hb1.out]
        cases b1 with
        | false =>
          have hv : Hid (Fl.validate l = 1) := Lib.hid (bad_zone hkl (by rw [← Hz.out]; exact Hq.out) (by have := Hn.out; omega))
          go_wp2
          go_ret
          exact ⟨ret_int hv.out.symm, rfl⟩
        | true =>
          go_wp2_with fail
          refine (rwithin_any _ _ _ _).mono ?_
          rintro e w' ⟨rfl, rfl⟩
          rw [Hb2.out]
          cases b2 with
          | false =>
            have hv : Hid (Fl.validate l = 1) := Lib.hid (bad_zone hkl (by rw [← Hz.out]; exact Hq.out) (by have := Hn.out; omega))
            go_wp2
            go_ret
            exact ⟨ret_int hv.out.symm, rfl⟩
          | true =>
            go_wp2
            go_round
            case rel =>
              refine ⟨k + 1, by omega, by go_num, Lib.hid fun j hj => ?_⟩
              by_cases e : j = k
              · subst e; rw [← Hz.out]; exact Hq.out
              · exact hall.out j (by omega)
            case measure => simp [intOf]; omega
      · have hk2 : k = n := by omega
        have Hk := Lib.hid hk2
        clear hk2
        have hv : Hid (Fl.validate l = 0) := Lib.hid (good_zones (fun j hj => hall.out j (by rw [Hk.out, Hn.out]; exact hj)) (by have := Hn.out; omega))
        go_wp2
        go_ret
        exact ⟨ret_int hv.out.symm, rfl⟩

set_option maxRecDepth 100000 in
set_option maxHeartbeats 1000000 in
theorem rLength_any (l : List (Int × Int)) (ao : Option Addr) (n cap : Nat) (w : World) (hp : Pts w ao l) (hln : n = l.length) (hn : n ≤ 100000) :
    Calls Try.prog 18 #[.slice ao n cap] w fun e w' => e = .returned (.tuple #[.int .i64 (if Fl.validate l = 0 then Fl.len l else 0), .int .i64 (Fl.validate l)]) ∧ Below w.heap.size w w' := by
  have Hn := Lib.hid hln
  clear hln
  obtain ⟨c, hc⟩ : ∃ c, c = Fl.validate l := ⟨_, rfl⟩
  have Hc := Lib.hid hc
  have hc0 := code_cases l
  rw [← hc] at hc0 ⊢
  clear hc
  obtain ⟨R, hR0⟩ : ∃ r, r = (if c = 0 then Fl.len l else 0) := ⟨_, rfl⟩
  rw [← hR0]
  have hR := Lib.hid hR0
  clear hR0
  go_enter Try.func18, Try.ntmps18
  go_wp2_with fail
  refine (rvalidate_any l _ _ _ _ hp Hn.out hn).mono ?_
  rintro e w1 ⟨rfl, rfl⟩
  rw [← Hc.out]
  rcases hc0 with rfl | hc0
  · have hv := Fl.validate_ok.1 Hc.out.symm
    have hR1 := Lib.hid (hR.out.trans (if_pos rfl))
    have hul := Lib.hid (Fl.units_length hv.2)
    go_wp2_with fail
    refine (units_any l _ _ _ _ hp Hn.out hv.2 hv.1.2).mono ?_
    rintro e w2 ⟨ao2, cap2, rfl, hI, hb2⟩
    clear hI
    go_wp2
    go_ret2
    exact ⟨by rw [hR1.out]; first | rfl | (rw [← hul.out]; rfl), hb2⟩
  · have hR0 := Lib.hid (hR.out.trans (if_neg (code_ne hc0)))
    go_wp2
    go_ret2
    exact ⟨by rw [hR0.out]; rfl, Below.refl _ _⟩

set_option maxRecDepth 100000 in
set_option maxHeartbeats 1000000 in
theorem rTotal_any (l : List (Int × Int)) (ao : Option Addr) (n cap : Nat) (w : World) (hp : Pts w ao l) (hln : n = l.length) (hn : n ≤ 100000) :
    Calls Try.prog 20 #[.slice ao n cap] w fun e w' => e = .returned (.tuple #[.int .i64 (if Fl.validate l = 0 then Fl.tot l else 0), .int .i64 (Fl.validate l)]) ∧ Below w.heap.size w w' := by
  have Hn := Lib.hid hln
  clear hln
  obtain ⟨c, hc⟩ : ∃ c, c = Fl.validate l := ⟨_, rfl⟩
  have Hc := Lib.hid hc
  have hc0 := code_cases l
  rw [← hc] at hc0 ⊢
  clear hc
  obtain ⟨R, hR0⟩ : ∃ r, r = (if c = 0 then Fl.tot l else 0) := ⟨_, rfl⟩
  rw [← hR0]
  have hR := Lib.hid hR0
  clear hR0
  go_enter Try.func20, Try.ntmps20
  go_wp2_with fail
  refine (rvalidate_any l _ _ _ _ hp Hn.out hn).mono ?_
  rintro e w1 ⟨rfl, rfl⟩
  rw [← Hc.out]
  rcases hc0 with rfl | hc0
  · have hv := Fl.validate_ok.1 Hc.out.symm
    have hR1 := Lib.hid (hR.out.trans (if_pos rfl))
    go_wp2_with fail
    refine (rtotal_any l _ _ _ _ hp Hn.out hv.2 hv.1.2).mono ?_
    rintro e w2 ⟨rfl, hb2⟩
    go_wp2
    go_ret2
    exact ⟨by rw [hR1.out]; rfl, hb2⟩
  · have hR0 := Lib.hid (hR.out.trans (if_neg (code_ne hc0)))
    go_wp2
    go_ret2
    exact ⟨by rw [hR0.out]; rfl, Below.refl _ _⟩

theorem mean_eq {l : List (Int × Int)} (hok : Fl.Ok l) : mkRat (Fl.tot l) (Fl.units l).length = (Fl.tot l : Rat) / (Fl.len l : Rat) := by
  rw [← Fl.units_length hok, Rat.mkRat_eq_div]
  rfl

set_option maxRecDepth 100000 in
set_option maxHeartbeats 1000000 in
theorem rMean_any (l : List (Int × Int)) (ao : Option Addr) (n cap : Nat) (w : World) (hp : Pts w ao l) (hln : n = l.length) (hn : n ≤ 100000) :
    Calls Try.prog 22 #[.slice ao n cap] w fun e w' => e = .returned (.tuple #[frOr (Fl.validate l) ((Fl.tot l : Rat) / (Fl.len l : Rat)), .int .i64 (Fl.validate l)]) ∧ Below w.heap.size w w' := by
  have Hn := Lib.hid hln
  clear hln
  obtain ⟨c, hc⟩ : ∃ c, c = Fl.validate l := ⟨_, rfl⟩
  have Hc := Lib.hid hc
  have hc0 := code_cases l
  rw [← hc] at hc0 ⊢
  clear hc
  obtain ⟨q, hq⟩ : ∃ q, (Fl.tot l : Rat) / (Fl.len l : Rat) = q := ⟨_, rfl⟩
  rw [hq]
  have HQ := Lib.hid hq
  clear hq
  have hB : Below w.heap.size w (w.alloc (.cells #[.int .i64 0, .int .i64 0] 29)) := (Below.refl _ w).alloc (Nat.le_refl _) _
  have r0 := heap_alloc_new w (.cells #[.int .i64 0, .int .i64 0] 29)
  replace hp := hp.below hB
  have HA := Lib.hid (And.intro hB r0)
  clear hB r0
  go_enter Try.func22, Try.ntmps22
  go_wp2_with fail
  refine (rvalidate_any l _ _ _ _ hp Hn.out hn).mono ?_
  rintro e w1 ⟨rfl, hw1⟩
  have r0 := HA.out.2
  have hB := HA.out.1
  clear HA
  rw [hw1] at r0 hp hB
  clear hw1
  rw [← Hc.out]
  rcases hc0 with rfl | hc0
  · have hv := Fl.validate_ok.1 Hc.out.symm
    have hlb := Fl.len_bound hv.2
    have htb := Fl.tot_bound hv.2
    have hul := Fl.units_length hv.2
    have HM := mean_eq hv.2
    have hl1 := hv.1.1
    have hl2 := hv.1.2
    rw [HQ.out] at HM
    replace HM := Lib.hid HM
    go_wp2_with fail
    refine (rtotal_any l _ _ _ _ hp Hn.out hv.2 hv.1.2).mono ?_
    rintro e w1 ⟨rfl, hbb⟩
    replace hp := hp.below hbb
    replace r0 := heap_keep hbb r0
    replace hB := hB.trans (hbb.mono hB.size)
    clear hbb
    go_wp2_with fail
    refine (units_any l _ _ _ _ hp Hn.out hv.2 hv.1.2).mono ?_
    rintro e w2 ⟨ao2, cap2, rfl, hI, hbb⟩
    replace hp := hp.below hbb
    replace r0 := heap_keep hbb r0
    replace hB := hB.trans (hbb.mono hB.size)
    clear hbb
    clear hI
    obtain ⟨m, hm⟩ : ∃ m, m = (Fl.units l).length := ⟨_, rfl⟩
    rw [← hm] at hul HM ⊢
    have Hul := Lib.hid hul
    clear hm hul
    go_wp2_with fail
    refine (ratio_any (Fl.tot l) m _ (by have := Hul.out; omega) (by omega) (by omega) (by have := Hul.out; omega)).mono ?_
    rintro e w3 ⟨rfl, hbb⟩
    replace hp := hp.below hbb
    replace r0 := heap_keep hbb r0
    replace hB := hB.trans (hbb.mono hB.size)
    clear hbb
    rw [HM.out]
    obtain ⟨⟨d0, d1⟩, f0, f1⟩ := row_fr r0
    go_wp2
    exact bodyPost_ret (results_cell_tmp rfl _ _ _ _ _ _ _ rfl (two_cells r0 (.int .i64 q.num) (.int .i64 q.den)) Try.underlying29 rfl infoRat2) rfl ⟨rfl, below_setCell (below_setCell hB (by omega) _) (by omega) _⟩
  · obtain ⟨⟨d0, d1⟩, f0, f1⟩ := row_fr r0
    go_wp2
    rw [frOr_no hc0]
    exact bodyPost_ret (results_cell_tmp rfl _ _ _ _ _ _ _ rfl (two_cells r0 (.int .i64 0) (.int .i64 0)) Try.underlying29 rfl infoRat2) rfl ⟨rfl, below_setCell (below_setCell hB (by omega) _) (by omega) _⟩
end Go.Proofs.Ytkpabehjehbidaa
