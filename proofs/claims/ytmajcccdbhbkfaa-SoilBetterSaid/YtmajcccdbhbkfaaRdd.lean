import Derived.Test.YtmajcccdbhbkfaaDrm
namespace Go.Proofs.Ytmajcccdbhbkfaa
open Go.RowKit
namespace Fl
/-- The code of a question for the dearest piece. -/
def dcode (l : List (Int × Int)) (s : Int) : Int := if validate l ≠ 0 then validate l else if 0 ≤ s ∧ s ≤ len l then 0 else 1
theorem dcode_bad {l : List (Int × Int)} {s : Int} (h : validate l ≠ 0) : dcode l s = validate l := if_pos h
theorem dcode_arg {l : List (Int × Int)} {s : Int} (h : validate l = 0) (h2 : ¬ (0 ≤ s ∧ s ≤ len l)) : dcode l s = 1 := by
  unfold dcode; rw [if_neg (by simp [h]), if_neg h2]
theorem dcode_ok {l : List (Int × Int)} {s : Int} (h : validate l = 0) (h2 : 0 ≤ s ∧ s ≤ len l) : dcode l s = 0 := by
  unfold dcode; rw [if_neg (by simp [h]), if_pos h2]
theorem dcode_inv {l : List (Int × Int)} {s : Int} (h : dcode l s = 0) : validate l = 0 ∧ 0 ≤ s ∧ s ≤ len l := by
  unfold dcode at h
  by_cases hv : validate l = 0
  · rw [if_neg (by simp [hv])] at h
    by_cases h2 : 0 ≤ s ∧ s ≤ len l
    · exact ⟨hv, h2⟩
    · rw [if_neg h2] at h; cases h
  · rw [if_pos hv] at h; exact absurd h hv
/-- The place and the worth that the reference keeps. -/
def dearS (u : List Int) (s : Nat) : Nat → Int × Int
  | 0 => (0, -1)
  | k + 1 => (((dearI u s k).1 : Int), (dearI u s k).2)
theorem dearS_next {u : List Int} {s : Nat} (h : ∀ k, 0 ≤ win u k s) (k : Nat) : dearS u s (k + 1) = if (dearS u s k).2 < win u k s then ((k : Int), win u k s) else dearS u s k := by
  match k with
  | 0 =>
    have h0 := h 0
    have e : (dearS u s 0).2 < win u 0 s := by show -1 < win u 0 s; omega
    rw [if_pos e]
    rfl
  | k + 1 =>
    by_cases e : (dearI u s k).2 < win u (k + 1) s
    · have e2 : (dearS u s (k + 1)).2 < win u (k + 1) s := e
      rw [if_pos e2]
      show (((dearI u s (k + 1)).1 : Int), (dearI u s (k + 1)).2) = _
      simp only [dearI]
      rw [if_pos e]
    · have e2 : ¬ (dearS u s (k + 1)).2 < win u (k + 1) s := e
      rw [if_neg e2]
      show (((dearI u s (k + 1)).1 : Int), (dearI u s (k + 1)).2) = _
      simp only [dearI]
      rw [if_neg e]
      rfl
end Fl
theorem dwhole (n : Int) (w : World) : Calls Try.prog 41 #[.int .i64 n] w fun e w' => e = .returned (.agg #[.int .i64 n, .int .i64 1]) ∧ Below w.heap.size w w' := rwhole_any n w

set_option maxRecDepth 100000 in
set_option maxHeartbeats 800000 in
theorem rDearest_any (l : List (Int × Int)) (size : Int) (ao : Option Addr) (n cap : Nat) (w : World) (hp : Pts w ao l) (hln : n = l.length) (hn : n ≤ 100000) :
    Calls Try.prog 46 #[.slice ao n cap, .int .i64 size] w fun e w' => e = .returned (.tuple #[frOr (Fl.dcode l size) ((Fl.dear l size).1 : Rat), frOr (Fl.dcode l size) (Fl.dear l size).2, .int .i64 (Fl.dcode l size)]) ∧ Below w.heap.size w w' := by
  have Hn := Lib.hid hln
  clear hln
  obtain ⟨V, hV⟩ : ∃ V, Fl.validate l = V := ⟨_, rfl⟩
  have hV0 : V = 0 ∨ (V != 0) = true := by by_cases h : V = 0 <;> simp [h]
  have HV := Lib.hid hV
  clear hV
  obtain ⟨R, hR⟩ : ∃ R, R = (Value.tuple #[frOr (Fl.dcode l size) ((Fl.dear l size).1 : Rat), frOr (Fl.dcode l size) (Fl.dear l size).2, .int .i64 (Fl.dcode l size)]) := ⟨_, rfl⟩
  rw [← hR]
  have HR := Lib.hid hR
  clear hR
  have hB := below_alloc2 w (.cells #[.int .i64 0, .int .i64 0] 29) (.cells #[.int .i64 0, .int .i64 0] 29)
  have r4 := heap_alloc2_old w (.cells #[.int .i64 0, .int .i64 0] 29) (.cells #[.int .i64 0, .int .i64 0] 29)
  have r5 := heap_alloc2_new w (.cells #[.int .i64 0, .int .i64 0] 29) (.cells #[.int .i64 0, .int .i64 0] 29)
  replace hp := hp.below hB
  have HA := Lib.hid (And.intro hp (And.intro r4 (And.intro r5 hB)))
  clear hp hB r4 r5
  go_enter Try.func46, Try.ntmps46
  go_wp2_with fail
  refine (rvalidate_any l _ _ _ _ HA.out.1 Hn.out hn).mono ?_
  rintro e w1 ⟨rfl, hw1⟩
  obtain ⟨hp, r4, r5, hB⟩ := HA.out
  clear HA
  rw [hw1] at hp r4 r5 hB
  clear hw1
  rw [HV.out]
  rcases hV0 with rfl | hV0
  · have hok := (Fl.validate_ok.1 HV.out).2
    have hl6 := (Fl.validate_ok.1 HV.out).1.2
    have hul := Fl.units_length hok
    have hlb := Fl.len_bound hok
    go_wp2_with fail
    refine (units_any l _ _ _ _ hp Hn.out hok hl6).mono ?_
    rintro e w2 ⟨ao4, cap4, rfl, hI, hbb⟩
    replace hp := hp.below hbb
    replace r4 := heap_keep hbb r4
    replace r5 := heap_keep hbb r5
    replace hB := hB.trans (hbb.mono hB.size)
    clear hbb hp
    obtain ⟨N, hN⟩ : ∃ N, N = (Fl.units l).length := ⟨_, rfl⟩
    rw [← hN] at hul ⊢
    have HN := Lib.hid hN
    have HUL := Lib.hid hul
    have hN120 : N ≤ 120 := by omega
    clear hN hul hlb
    go_wp2_with fail
    refine (rwithin_any size 0 (N : Int) _).mono ?_
    rintro e w3 ⟨rfl, rfl⟩
    by_cases hin : 0 ≤ size ∧ size ≤ (N : Int)
    · rw [decide_eq_true hin.1, decide_eq_true hin.2]
      obtain ⟨s, rfl⟩ := Int.eq_ofNat_of_zero_le hin.1
      have HC := Lib.hid (Fl.dcode_ok HV.out (show 0 ≤ (s : Int) ∧ (s : Int) ≤ Fl.len l by have := HUL.out; omega))
      have hDI := Fl.dear_int hok (s := s) (by have := HUL.out; omega)
      rw [← HN.out] at hDI
      have hwb := Fl.win_bound hok
      have hub := Fl.units_at hok
      obtain ⟨u, hu⟩ : ∃ u, u = Fl.units l := ⟨_, rfl⟩
      rw [← hu] at hDI hI hwb hub
      have HNu : Hid (N = u.length) := Lib.hid (by rw [hu]; exact HN.out)
      have HDI := Lib.hid hDI
      have HWB := Lib.hid hwb
      have HUB := Lib.hid hub
      have HI := Lib.hid hI
      obtain ⟨M, hM⟩ : ∃ M, M = N - s := ⟨_, rfl⟩
      have hMs : (M : Int) = (N : Int) - (s : Int) := by omega
      have HM := Lib.hid (And.intro hM hMs)
      have hs120 : s ≤ 120 := by omega
      have hM120 : M ≤ 120 := by omega
      clear hu hI hDI hwb hub hM hMs hok hl6 hin HN HUL
      go_wp2
      go_loopw [9, 10, 11] (fun pl be a wr => ∃ (k : Nat) (P B : Int), k ≤ M + 1 ∧ a = .int .i64 k ∧ pl = .int .i64 P ∧ be = .int .i64 B ∧ Hid ((P, B) = Fl.dearS u s k) ∧ -1 ≤ B ∧ B ≤ 2400 ∧ wr = w2) (fun _ _ a _ => M + 1 - (intOf a).toNat)
      case atStart => exact ⟨0, 0, -1, Nat.zero_le _, rfl, rfl, rfl, Lib.hid rfl, by omega, by omega, rfl⟩
      case round =>
        obtain ⟨k, P, B, hk, rfl, rfl, rfl, HP, hB0, hB1, hw⟩ := hrel
        rw [hw]
        clear hw wr
        have hk121 : (k : Int) ≤ 121 := by omega
        have hs2 : (s : Int) ≤ 120 := by omega
        by_cases hlt : k ≤ M
        · have i1 : (k : Int) + (s : Int) ≤ (N : Int) := by have := HM.out.2; omega
          go_wp2
          go_loopw [12, 13] (fun sm i wr => ∃ (p j : Nat) (S : Int), j ≤ s ∧ Hid (p = k + j) ∧ p ≤ 241 ∧ i = .int .i64 p ∧ sm = .int .i64 S ∧ Hid (S = Fl.win u k j) ∧ 0 ≤ S ∧ S ≤ 2400 ∧ wr = w2) (fun _ i _ => k + s - (intOf i).toNat)
          case atStart => exact ⟨k, 0, 0, Nat.zero_le _, Lib.hid rfl, by omega, rfl, rfl, Lib.hid (Fl.win_zero u k).symm, by omega, by omega, rfl⟩
          case round =>
            clear i1
            obtain ⟨p, j, S, hj, Hp, hp241, rfl, rfl, HS, hS0, hS1, hw⟩ := hrel
            rw [hw]
            clear hw wr
            by_cases hlj : j < s
            · have hpu : p < u.length := by have := HNu.out; have := Hp.out; have := HM.out.2; omega
              obtain ⟨b, off, rfl, hbs, hc⟩ := HI.out.at hpu
              have hx := HUB.out p
              have hwm := Fl.win_more u k j
              rw [← Hp.out, ← HS.out] at hwm
              obtain ⟨x, hxx⟩ : ∃ x, x = u.getD p 0 := ⟨_, rfl⟩
              rw [← hxx] at hx hc hwm
              have hb2 := (HWB.out k (j + 1)).2
              have hb1 := (HWB.out k (j + 1)).1
              rw [hwm] at hb1 hb2
              have hb3 : S + x ≤ 2400 := by omega
              have Hwm := Lib.hid hwm
              have i2 : (p : Int) < (k : Int) + (s : Int) := by have := Hp.out; omega
              have i3 : (p : Int) < (N : Int) := by have := HNu.out; omega
              clear hxx hwm hb2 hpu
              go_wp2
              go_roundw
              case rel => exact ⟨p + 1, j + 1, S + x, by omega, Lib.hid (by have := Hp.out; omega), by have := Hp.out; omega, by go_num, rfl, Lib.hid Hwm.out.symm, by omega, hb3, trivial⟩
              case measure => have := Hp.out; simp [intOf]; omega
            · have hjs : j = s := by omega
              have i2 : ¬ (p : Int) < (k : Int) + (s : Int) := by have := Hp.out; omega
              have hnx := Fl.dearS_next (fun k => (HWB.out k s).1) k
              rw [← HP.out, ← hjs, ← HS.out] at hnx
              simp only at hnx
              have Hnx := Lib.hid hnx
              have Hjs := Lib.hid hjs
              clear hnx hjs
              by_cases hbs : B < S
              · have hst : Hid (((k : Int), S) = Fl.dearS u s (k + 1)) := Lib.hid (by rw [← Hjs.out, Hnx.out, if_pos hbs])
                go_wp2
                go_roundw
                case rel => exact ⟨k + 1, k, S, by omega, by go_num, rfl, rfl, hst, by omega, hS1, trivial⟩
                case measure => simp [intOf]; omega
              · have hst : Hid ((P, B) = Fl.dearS u s (k + 1)) := Lib.hid (by rw [← Hjs.out, Hnx.out, if_neg hbs])
                go_wp2
                go_roundw
                case rel => exact ⟨k + 1, P, B, by omega, by go_num, rfl, rfl, hst, hB0, hB1, trivial⟩
                case measure => simp [intOf]; omega
        · have i1 : ¬ (k : Int) + (s : Int) ≤ (N : Int) := by have := HM.out.2; omega
          have hk1 : k = M + 1 := by omega
          have hfin : Hid (R = Value.tuple #[.agg #[.int .i64 P, .int .i64 1], .agg #[.int .i64 B, .int .i64 1], .int .i64 0]) := Lib.hid (by
            have h1 := HP.out
            rw [hk1] at h1
            simp only [Fl.dearS, Prod.mk.injEq] at h1
            rw [HR.out, HC.out, frOr_ok, frOr_ok, HDI.out, ← HM.out.1, ← h1.1, ← h1.2]
            rfl)
          go_wp2_with fail
          refine (dwhole P _).mono ?_
          rintro e w1 ⟨rfl, hbb⟩
          replace r4 := heap_keep hbb r4
          replace r5 := heap_keep hbb r5
          replace hB := hB.trans (hbb.mono hB.size)
          clear hbb
          go_wp2_with fail
          refine (dwhole B _).mono ?_
          rintro e w2 ⟨rfl, hbb⟩
          replace r4 := heap_keep hbb r4
          replace r5 := heap_keep hbb r5
          replace hB := hB.trans (hbb.mono hB.size)
          clear hbb
          obtain ⟨⟨d0, d1⟩, df0, df1⟩ := row_fr r4
          obtain ⟨⟨e0, e1⟩, ef0, ef1⟩ := row_fr r5
          go_wp2
          rw [hfin.out]
          exact bodyPost_ret (results_cells3 rfl _ _ _ _ _ _ _ _ _ _ _ _ rfl (heap_two_other _ _ (by omega) (two_cells r4 _ _)) Try.underlying29 rfl infoRat2 rfl (two_cells (heap_two_other _ _ (by omega) r5) _ _) Try.underlying29 rfl infoRat2) rfl ⟨rfl, below_setCell (below_setCell (below_setCell (below_setCell hB (by omega) _) (by omega) _) (by omega) _) (by omega) _⟩
    · have hd : (decide (0 ≤ size) && decide (size ≤ (N : Int))) = false := by simp; omega
      rw [hd]
      have hfin : Hid (R = Value.tuple #[.agg #[.int .i64 0, .int .i64 0], .agg #[.int .i64 0, .int .i64 0], .int .i64 1]) := Lib.hid (by
        rw [HR.out, Fl.dcode_arg HV.out (by have := HUL.out; omega)]
        rfl)
      clear hd hin
      obtain ⟨⟨d0, d1⟩, df0, df1⟩ := row_fr r4
      obtain ⟨⟨e0, e1⟩, ef0, ef1⟩ := row_fr r5
      go_wp2
      rw [hfin.out]
      exact bodyPost_ret (results_cells3 rfl _ _ _ _ _ _ _ _ _ _ _ _ rfl (heap_two_other _ _ (by omega) (two_cells r4 _ _)) Try.underlying29 rfl infoRat2 rfl (two_cells (heap_two_other _ _ (by omega) r5) _ _) Try.underlying29 rfl infoRat2) rfl ⟨rfl, below_setCell (below_setCell (below_setCell (below_setCell hB (by omega) _) (by omega) _) (by omega) _) (by omega) _⟩
  · have hfin : Hid (R = Value.tuple #[.agg #[.int .i64 0, .int .i64 0], .agg #[.int .i64 0, .int .i64 0], .int .i64 V]) := Lib.hid (by
      have hne := code_ne hV0
      rw [HR.out, Fl.dcode_bad (by rw [HV.out]; exact hne), HV.out, frOr_no hV0, frOr_no hV0])
    obtain ⟨⟨d0, d1⟩, df0, df1⟩ := row_fr r4
    obtain ⟨⟨e0, e1⟩, ef0, ef1⟩ := row_fr r5
    go_wp2
    rw [hfin.out]
    exact bodyPost_ret (results_cells3 rfl _ _ _ _ _ _ _ _ _ _ _ _ rfl (heap_two_other _ _ (by omega) (two_cells r4 _ _)) Try.underlying29 rfl infoRat2 rfl (two_cells (heap_two_other _ _ (by omega) r5) _ _) Try.underlying29 rfl infoRat2) rfl ⟨rfl, below_setCell (below_setCell (below_setCell (below_setCell hB (by omega) _) (by omega) _) (by omega) _) (by omega) _⟩
end Go.Proofs.Ytmajcccdbhbkfaa
