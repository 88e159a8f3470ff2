import Derived.Test.YtmajcccdbhbkfaaRpl
import Derived.Test.YtmajcccdbhbkfaaSfd
namespace Go.Proofs.Ytmajcccdbhbkfaa
open Go.RowKit

theorem ZMade.pts {w : World} {base : Nat} {v : Value} {c : Int} {L : List (Int × Int)} (h : ZMade w base v c L) : ∃ ao cap, v = .slice ao (if c = 0 then L else []).length cap ∧ (if c = 0 then L else []).length ≤ cap ∧ Pts w ao (if c = 0 then L else []) := by
  rcases h with ⟨rfl, h⟩ | ⟨hc, rfl⟩
  · rw [if_pos rfl]
    obtain ⟨ao, cap, e, h1, h2⟩ := own_pts2 h rfl
    exact ⟨ao, cap, e, h1, h2⟩
  · rw [if_neg hc]
    exact ⟨none, 0, rfl, Nat.le_refl _, ⟨fun h => absurd h (by simp)⟩⟩
theorem ZMade.row {w : World} {base : Nat} {v : Value} {L : List (Int × Int)} (h : ZMade w base v 0 L) (h1 : 1 ≤ L.length) : ∃ g cap cur, v = .slice (some ⟨g, 0, none⟩) L.length cap ∧ base ≤ g ∧ w.heap[g]? = some (.cells cur 52 (0, 0)) ∧ L.length * 2 ≤ cur.size := by
  rcases h with ⟨-, -, ⟨_, h0⟩ | ⟨g, cap, cur, rfl, hb, hg, hnc, hcm, hcs, htk⟩⟩ | ⟨hc, -⟩
  · omega
  · exact ⟨g, cap, cur, rfl, hb, hg, by omega⟩
  · exact absurd rfl hc

set_option maxRecDepth 100000 in
set_option maxHeartbeats 1000000 in
theorem soilPlains_any (f : List (Int × Int)) (ao : Option Addr) (n cap : Nat) (g : List (Int × Int)) (ao2 : Option Addr) (m cap2 : Nat) (w : World) (hp : Pts w ao f) (hln : n = f.length) (hp2 : Pts w ao2 g) (hlm : m = g.length) :
    Calls Try.prog 12 #[.slice ao n cap, .slice ao2 m cap2] w fun e w' => e = .returned (.bool true) ∧ Below w.heap.size w w' := by
  have Hn := Lib.hid hln
  have Hm := Lib.hid hlm
  clear hln hlm
  by_cases hlong : 100 < n ∨ 100 < m
  · have hd : (decide (100 < n) || decide (100 < m)) = true := by simpa using hlong
    clear hlong
    go_enter Try.func12, Try.ntmps12
    go_wp2_with fail
    refine (long_any n m cap cap2 ao ao2 _).mono ?_
    rintro e w1 ⟨rfl, rfl⟩
    rw [hd]
    go_wp2_with fail
    refine (known_any _).mono ?_
    rintro e w1 ⟨rfl, hb⟩
    go_wp2
    go_ret
    exact ⟨rfl, hb⟩
  have hd : (decide (100 < n) || decide (100 < m)) = false := by simp; omega
  have hn : n ≤ 100000 := by omega
  have hm : m ≤ 100000 := by omega
  clear hlong
  obtain ⟨BB, hBB⟩ : ∃ b, Fl.sameB f g = b := ⟨_, rfl⟩
  obtain ⟨C, hC⟩ : ∃ b, Fl.bothC f g = b := ⟨_, rfl⟩
  have HBC := Lib.hid (And.intro hBB hC)
  clear hBB hC
  obtain ⟨V, hV⟩ : ∃ c, Fl.validate f = c := ⟨_, rfl⟩
  have hV0 : V = 0 ∨ (V != 0) = true := by by_cases h : V = 0 <;> simp [h]
  have HV := Lib.hid hV
  clear hV
  obtain ⟨i0, hi0, hz0, hz1, hz2⟩ := info_zn
  go_enter Try.func12, Try.ntmps12
  go_wp2_with fail
  refine (long_any n m cap cap2 ao ao2 _).mono ?_
  rintro e w1 ⟨rfl, rfl⟩
  rw [hd]
  clear hd
  go_upto_region 3 with fail
  go_cut [5] from 21 to 23 (fun v wx => ∃ ao5 cap5, v = .slice ao5 n cap5 ∧ n ≤ cap5 ∧ Pts wx ao5 f ∧ Below w.heap.size w wx)
  case first =>
    cases ao with
    | none =>
      have h0 : f = [] := by
        cases f with
        | nil => rfl
        | cons z r => obtain ⟨b, off, e, -⟩ := hp.cells (by simp); cases e
      subst h0
      have h1 : n = 0 := by rw [Hn.out]; rfl
      subst h1
      go_wp2_with fail
      go_meet
      case rel => exact ⟨_, _, rfl, Nat.le_refl _, ⟨fun h => absurd h (by simp)⟩, (Below.refl _ w).alloc (Nat.le_refl _) _⟩
    | some ad =>
      have hA := (Below.refl _ w).alloc (Nat.le_refl _) (.cells #[] 52)
      have Hs := Lib.hid (pts_flat (hp.below hA))
      clear hA
      go_wp2_with (first | (at_builtin; refine wpList_append_own _ rfl _ _ 22 rfl w.heap.size 52 i0 (.agg #[.int .i64 0, .int .i64 0]) 2 16 Try.underlying22 hi0 hz0 hz1 hz2 rfl (by decide) _ 0 [] rfl (own_new2 w _) ad n cap (flat2 f) rfl (by rw [flat2_length, Hn.out]) Hs.out (flat2_one f) (by unfold maxLen; omega) (by omega) (by simp) ?_; intro v' w3 hown' hgrow3 hnil3))
      have hgb : Below w.heap.size w w3 := ((Below.refl _ w).alloc (Nat.le_refl _) _).grown hgrow3 (by simp) (fun k hk => by cases hk; exact Nat.le_refl _)
      have hown2 : w3.ownsRow w.heap.size 52 2 v' n (flat2 f) := by
        have h := hown'
        rw [Nat.zero_add, List.nil_append] at h
        exact h
      clear hown' hgrow3 hnil3
      obtain ⟨ao5, cap5, rfl, h1, h2⟩ := own_pts2 hown2 Hn.out
      go_meet
      case rel => exact ⟨ao5, cap5, rfl, h1, h2, hgb⟩
  case rest =>
    obtain ⟨ao5, cap5, rfl, hc5, hp5, hB⟩ := hcut
    have hpf := hp.below hB
    have hpg := hp2.below hB
    have hsB := hB.size
    clear hp hp2
    have HF := Lib.hid (And.intro hp5 hpf)
    have HB0 := Lib.hid hB
    have hb := Below.refl wc.heap.size wc
    clear hB
    go_wp2_with fail
    refine (Plain_any f _ _ _ _ hp5 Hn.out hn hc5).mono ?_
    rintro e y1 ⟨⟨va, rfl, M1⟩, hbb⟩
    replace hp5 := hp5.below hbb
    replace hpf := hpf.below hbb
    replace hpg := hpg.below hbb
    replace hb := hb.trans (hbb.mono hb.size)
    clear hbb
    rw [HV.out] at M1 ⊢
    go_wp2_with fail
    refine (rPlain_any f _ _ _ _ hpf Hn.out hn).mono ?_
    rintro e y2 ⟨⟨vb, rfl, M2⟩, hbb⟩
    replace hp5 := hp5.below hbb
    replace hpf := hpf.below hbb
    replace hpg := hpg.below hbb
    replace M1 := M1.below hbb
    replace hb := hb.trans (hbb.mono hb.size)
    clear hbb
    rw [HV.out] at M2 ⊢
    go_wp2_with fail
    refine (Same_any f g _ _ _ _ _ _ _ hpf Hn.out hn hpg Hm.out hm).mono ?_
    rintro e w1 ⟨rfl, hbb⟩
    replace hp5 := hp5.below hbb
    replace hpf := hpf.below hbb
    replace hpg := hpg.below hbb
    replace M1 := M1.below hbb
    replace M2 := M2.below hbb
    replace hb := hb.trans (hbb.mono hb.size)
    clear hbb
    rw [HBC.out.1, HBC.out.2]
    go_wp2_with fail
    refine (rSame_any f g _ _ _ _ _ _ _ hpf Hn.out hn hpg Hm.out hm).mono ?_
    rintro e w2 ⟨rfl, hbb⟩
    replace hp5 := hp5.below hbb
    replace hpf := hpf.below hbb
    replace hpg := hpg.below hbb
    replace M1 := M1.below hbb
    replace M2 := M2.below hbb
    replace hb := hb.trans (hbb.mono hb.size)
    clear hbb
    rw [HBC.out.1, HBC.out.2]
    obtain ⟨aoB, capB, rfl, -, PB⟩ := M2.pts
    clear M2
    rcases hV0 with rfl | hV0
    · have hpo := Fl.plain_ok HV.out
      have hv1 := (Fl.validate_ok.1 hpo.1).1
      obtain ⟨ga, capA, cur, rfl, hgb, hrow, hcs⟩ := M1.row hv1.1
      obtain ⟨aoA, capA2, hvA, -, PA⟩ := M1.pts
      simp only [if_true] at hvA PA PB ⊢
      rw [Value.slice.injEq] at hvA
      obtain ⟨rfl, -, -⟩ := hvA
      obtain ⟨L, hL⟩ : ∃ L, L = Fl.plainF f := ⟨_, rfl⟩
      rw [← hL] at hcs PA PB hv1 ⊢
      obtain ⟨N, hN⟩ : ∃ N, N = L.length := ⟨_, rfl⟩
      rw [← hN] at hcs hv1 ⊢
      have HN := Lib.hid hN
      have hsp := Fl.same_plain HV.out
      rw [← hL] at hsp
      have HSP := Lib.hid hsp
      have hN6 : N ≤ 100000 := by omega
      clear M1 hpo hL hN hsp
      go_wp2_with fail
      refine (sameField_any L L _ _ _ _ _ _ _ PA PB HN.out HN.out hN6 hN6).mono ?_
      rintro e w3 ⟨rfl, hbb⟩
      replace hp5 := hp5.below hbb
      replace hpf := hpf.below hbb
      replace PA := PA.below hbb
      replace PB := PB.below hbb
      replace hrow := heap_keep hbb hrow
      replace hb := hb.trans (hbb.mono hb.size)
      clear hbb
      rw [decide_eq_true rfl]
      go_wp2_with fail
      refine (Same_any L f _ _ _ _ _ _ _ PA HN.out hN6 hpf Hn.out hn).mono ?_
      rintro e w4 ⟨rfl, hbb⟩
      replace hp5 := hp5.below hbb
      replace hpf := hpf.below hbb
      replace PA := PA.below hbb
      replace PB := PB.below hbb
      replace hrow := heap_keep hbb hrow
      replace hb := hb.trans (hbb.mono hb.size)
      clear hbb
      rw [HSP.out.1, HSP.out.2]
      clear PA PB hpg hp5 hpf
      have hs4 := hb.size
      go_wp2_with fail
      go_loopw [16] (fun i wr => ∃ (k : Nat) (cu : Array Value), k ≤ N ∧ i = .int .i64 k ∧ Hid (N * 2 ≤ cu.size) ∧ wr.heap[ga]? = some (.cells cu 52 (0, 0)) ∧ Below wc.heap.size wc wr) (fun i _ => N - (intOf i).toNat)
      case atStart => exact ⟨0, cur, Nat.zero_le _, rfl, Lib.hid hcs, hrow, hb⟩
      case round =>
        clear hcs hrow hb hs4
        obtain ⟨k, cu, hk, rfl, hcs, hrow, hb⟩ := hrel
        by_cases hlt : k < N
        · obtain ⟨x, hx⟩ : ∃ x, cu[k * 2]? = some x := ⟨_, Array.getElem?_eq_getElem (by have := hcs.out; omega)⟩
          have c0 := (cell_of_row wr ga (k * 2) cu _ _ hrow).trans hx
          have f0 := frozen_of_row wr ga (k * 2) cu _ hrow
          have i1 : (k : Int) < (N : Int) := by omega
          have hg2 := heap_setCell_same wr ga (k * 2) cu 52 (.int .i64 (-1)) hrow
          have HG2 := Lib.hid hg2
          clear hg2 hx
          go_wp2
          go_roundw
          case rel => exact ⟨k + 1, _, by omega, by go_num, Lib.hid (by rw [Array.size_setIfInBounds]; exact hcs.out), HG2.out, below_setCell hb hgb _⟩
          case measure => simp [intOf]; omega
        · have i1 : ¬ (k : Int) < (N : Int) := by omega
          have P1 := HF.out.1.below hb
          have P2 := HF.out.2.below hb
          clear hrow
          go_wp2_with fail
          refine (sameField_any f f _ _ _ _ _ _ _ P1 P2 Hn.out Hn.out hn hn).mono ?_
          rintro e y9 ⟨rfl, hbb⟩
          rw [decide_eq_true rfl]
          replace hb := hb.trans (hbb.mono hb.size)
          clear P1 P2 hbb
          go_wp2_with fail
          refine (known_any _).mono ?_
          rintro e y10 ⟨rfl, hbb⟩
          go_wp2
          go_ret
          exact ⟨rfl, HB0.out.trans ((hb.trans (hbb.mono hb.size)).mono hsB)⟩
    · have hne := code_ne hV0
      simp only [if_neg hne, List.length_nil] at PB ⊢
      rcases M1 with ⟨h0, -⟩ | ⟨-, rfl⟩
      · exact absurd h0 hne
      have PA : Pts w2 none [] := ⟨fun h => absurd h (by simp)⟩
      have hV1 : (V == 0) = false := by simpa using hne
      have hE : Hid (Fl.bothC [] f = 3 ∧ Fl.sameB [] f = false) := Lib.hid ⟨rfl, Fl.sameB_no (by rw [show Fl.bothC [] f = 3 from rfl]; decide)⟩
      clear hne
      go_wp2_with fail
      refine (sameField_any [] [] _ 0 _ _ 0 _ _ PA PB rfl rfl (Nat.zero_le _) (Nat.zero_le _)).mono ?_
      rintro e w5 ⟨rfl, hbb⟩
      replace hp5 := hp5.below hbb
      replace hpf := hpf.below hbb
      replace PA := PA.below hbb
      replace PB := PB.below hbb
      replace hb := hb.trans (hbb.mono hb.size)
      clear hbb
      rw [decide_eq_true rfl]
      go_wp2_with fail
      refine (Same_any [] f _ 0 _ _ _ _ _ PA rfl (Nat.zero_le _) hpf Hn.out hn).mono ?_
      rintro e w6 ⟨rfl, hbb⟩
      replace hp5 := hp5.below hbb
      replace hpf := hpf.below hbb
      replace PA := PA.below hbb
      replace PB := PB.below hbb
      replace hb := hb.trans (hbb.mono hb.size)
      clear hbb
      rw [hE.out.1, hE.out.2]
      clear PA PB hpg
      go_wp2_with fail
      go_loopw [16] (fun i wr => i = .int .i64 0 ∧ Below wc.heap.size wc wr) (fun i _ => 0)
      case atStart => exact ⟨rfl, hb⟩
      case round =>
        clear hb hp5 hpf
        obtain ⟨rfl, hb⟩ := hrel
        have P1 := HF.out.1.below hb
        have P2 := HF.out.2.below hb
        go_wp2_with fail
        refine (sameField_any f f _ _ _ _ _ _ _ P1 P2 Hn.out Hn.out hn hn).mono ?_
        rintro e y9 ⟨rfl, hbb⟩
        rw [decide_eq_true rfl]
        replace hb := hb.trans (hbb.mono hb.size)
        clear P1 P2 hbb
        go_wp2_with fail
        refine (known_any _).mono ?_
        rintro e y10 ⟨rfl, hbb⟩
        go_wp2
        go_ret
        exact ⟨rfl, HB0.out.trans ((hb.trans (hbb.mono hb.size)).mono hsB)⟩
end Go.Proofs.Ytmajcccdbhbkfaa
