import Derived.Test.YtkpabehjehbidaaJnc
import Derived.Test.YtkpabehjehbidaaPam
namespace Go.Proofs.Ytkpabehjehbidaa
open Go.RowKit

theorem FieldMade.pts' {w : World} {v : Value} {c : Int} {L : List (Int × Int)} (h : FieldMade w v c L) : ∃ ao cap, v = .slice ao (if c = 0 then L else []).length cap ∧ Pts w ao (if c = 0 then L else []) := by
  obtain ⟨ao, cap, e, -, hp⟩ := h
  exact ⟨ao, cap, e, hp⟩
namespace Fl
theorem tot_rev (l : List (Int × Int)) : tot l.reverse = tot l := by
  induction l with
  | nil => rfl
  | cons z r ih => rw [List.reverse_cons, tot_app, ih]; simp only [tot]; omega
theorem validate_rev (l : List (Int × Int)) : validate l.reverse = validate l := by
  unfold validate
  rw [List.length_reverse, List.all_reverse]
theorem join_valid {l m : List (Int × Int)} (h : joinC l m = 0) : validate l = 0 ∧ validate m = 0 ∧ validate (l ++ m) = 0 ∧ tot (l ++ m) = tot l + tot m := by
  obtain ⟨h1, h2, h3⟩ := joinC_ok h
  obtain ⟨⟨a1, a2⟩, a3⟩ := validate_ok.1 h1
  obtain ⟨⟨b1, b2⟩, b3⟩ := validate_ok.1 h2
  refine ⟨h1, h2, validate_ok.2 ⟨⟨by rw [List.length_append]; omega, by rw [List.length_append]; omega⟩, ?_⟩, tot_app l m⟩
  intro z hz
  rcases List.mem_append.1 hz with hz | hz
  · exact a3 z hz
  · exact b3 z hz
/-- The worth of a whole field, or 0. -/
def totOr (l : List (Int × Int)) : Int := if validate l = 0 then tot l else 0
theorem totOr_bound (l : List (Int × Int)) : 0 ≤ totOr l ∧ totOr l ≤ 2400 := by
  unfold totOr
  split
  · rename_i h
    obtain ⟨⟨-, h6⟩, hok⟩ := validate_ok.1 h
    have := tot_bound hok
    omega
  · omega
end Fl

theorem Total_or (l : List (Int × Int)) (ao : Option Addr) (n cap : Nat) (w : World) (hp : Pts w ao l) (hln : n = l.length) (hn : n ≤ 100000) :
    Calls Try.prog 19 #[.slice ao n cap] w fun e w' => e = .returned (.tuple #[.int .i64 (Fl.totOr l), .int .i64 (Fl.validate l)]) ∧ Below w.heap.size w w' := Total_any l ao n cap w hp hln hn

set_option maxRecDepth 100000 in
set_option maxHeartbeats 8000000 in
theorem soilJoins_any (l : List (Int × Int)) (ao : Option Addr) (n cap : Nat) (l2 : List (Int × Int)) (ao2 : Option Addr) (m cap2 : Nat) (w : World) (hp : Pts w ao l) (hln : n = l.length) (hp2 : Pts w ao2 l2) (hlm : m = l2.length) :
    Calls Try.prog 14 #[.slice ao n cap, .slice ao2 m cap2] w fun e w' => e = .returned (.bool true) ∧ Below w.heap.size w w' := by
  have Hn := Lib.hid hln
  have Hm := Lib.hid hlm
  clear hln hlm
  have hB := Below.refl w.heap.size w
  by_cases hlong : 100 < n ∨ 100 < m
  · have hd : (decide (100 < n) || decide (100 < m)) = true := by simpa using hlong
    go_enter Try.func14, Try.ntmps14
    go_wp2_with fail
    refine (long_any n m cap cap2 ao ao2 _).mono ?_
    rintro e w1 ⟨rfl, rfl⟩
    rw [hd]
    go_wp2_with fail
    refine (known_any _).mono ?_
    rintro e w1 ⟨rfl, hb⟩
    go_wp2
    go_ret
    exact ⟨rfl, hb⟩
  · have hd : (decide (100 < n) || decide (100 < m)) = false := by simp; omega
    have hn : n ≤ 100000 := by omega
    have hm : m ≤ 100000 := by omega
    clear hlong
    obtain ⟨C, hC⟩ : ∃ c, Fl.joinC l l2 = c := ⟨_, rfl⟩
    have hC0 : C = 0 ∨ (C != 0) = true := by by_cases h : C = 0 <;> simp [h]
    obtain ⟨V, hV⟩ : ∃ c, Fl.validate l = c := ⟨_, rfl⟩
    have hV0 : V = 0 ∨ (V != 0) = true := by by_cases h : V = 0 <;> simp [h]
    have HC := Lib.hid hC
    have HV := Lib.hid hV
    clear hC hV
    go_enter Try.func14, Try.ntmps14
    go_wp2_with fail
    refine (long_any n m cap cap2 ao ao2 _).mono ?_
    rintro e w1 ⟨rfl, rfl⟩
    rw [hd]
    clear hd
    go_wp2_with fail
    refine (Join_any l l2 _ _ _ _ _ _ _ hp Hn.out hn hp2 Hm.out hm).mono ?_
    rintro e w1 ⟨⟨v1, rfl, M1⟩, hbb⟩
    replace hp := hp.below hbb
    replace hp2 := hp2.below hbb
    replace hB := hB.trans (hbb.mono hB.size)
    clear hbb
    rw [HC.out] at M1 ⊢
    go_wp2_with fail
    refine (rJoin_any l l2 _ _ _ _ _ _ _ hp Hn.out hn hp2 Hm.out hm).mono ?_
    rintro e w2 ⟨⟨v2, rfl, M2⟩, hbb⟩
    replace hp := hp.below hbb
    replace hp2 := hp2.below hbb
    replace M1 := M1.below hbb
    replace hB := hB.trans (hbb.mono hB.size)
    clear hbb
    rw [HC.out] at M2 ⊢
    go_wp2_with fail
    refine (Turn_any l _ _ _ _ hp Hn.out hn).mono ?_
    rintro e w3 ⟨⟨v3, rfl, M3⟩, hbb⟩
    replace hp := hp.below hbb
    replace hp2 := hp2.below hbb
    replace M1 := M1.below hbb
    replace M2 := M2.below hbb
    replace hB := hB.trans (hbb.mono hB.size)
    clear hbb
    rw [HV.out] at M3 ⊢
    go_wp2_with fail
    refine (rTurn_any l _ _ _ _ hp Hn.out hn).mono ?_
    rintro e w4 ⟨⟨v4, rfl, M4⟩, hbb⟩
    replace hp := hp.below hbb
    replace hp2 := hp2.below hbb
    replace M1 := M1.below hbb
    replace M2 := M2.below hbb
    replace M3 := M3.below hbb
    replace hB := hB.trans (hbb.mono hB.size)
    clear hbb
    rw [HV.out] at M4 ⊢
    obtain ⟨a1, c1, rfl, P1⟩ := M1.pts'
    obtain ⟨a2, c2, rfl, P2⟩ := M2.pts'
    obtain ⟨a3, c3, rfl, P3⟩ := M3.pts'
    obtain ⟨a4, c4, rfl, P4⟩ := M4.pts'
    clear M1 M2 M3 M4
    obtain ⟨L, hL⟩ : ∃ x, x = (if C = 0 then l ++ l2 else []) := ⟨_, rfl⟩
    obtain ⟨R, hR⟩ : ∃ x, x = (if V = 0 then l.reverse else []) := ⟨_, rfl⟩
    rw [← hL] at P1 P2 ⊢
    rw [← hR] at P3 P4 ⊢
    have hLl : L.length ≤ 100000 := by
      rw [hL]; split
      · rename_i h0
        have := Fl.joinC_ok (HC.out.trans h0)
        rw [List.length_append]; omega
      · simp
    have hRl : R.length ≤ 100000 := by
      rw [hR]; split
      · rw [List.length_reverse, ← Hn.out]; exact hn
      · simp
    obtain ⟨r, hr⟩ : ∃ r, r = L.length := ⟨_, rfl⟩
    obtain ⟨q, hq⟩ : ∃ r, r = R.length := ⟨_, rfl⟩
    rw [← hr] at hLl ⊢
    rw [← hq] at hRl ⊢
    have Hr := Lib.hid hr
    have Hq := Lib.hid hq
    have HL := Lib.hid hL
    have HR := Lib.hid hR
    clear hL hR hr hq
    go_wp2_with fail
    refine (sameField_any L L _ _ _ _ _ _ _ P1 P2 Hr.out Hr.out hLl hLl).mono ?_
    rintro e w1 ⟨rfl, hbb⟩
    replace hp := hp.below hbb
    replace hp2 := hp2.below hbb
    replace P1 := P1.below hbb
    replace P3 := P3.below hbb
    replace P4 := P4.below hbb
    replace hB := hB.trans (hbb.mono hB.size)
    clear hbb
    rw [decide_eq_true rfl]
    clear P2
    go_wp2_with fail
    refine (sameField_any R R _ _ _ _ _ _ _ P3 P4 Hq.out Hq.out hRl hRl).mono ?_
    rintro e w2 ⟨rfl, hbb⟩
    replace hp := hp.below hbb
    replace hp2 := hp2.below hbb
    replace P1 := P1.below hbb
    replace P3 := P3.below hbb
    replace hB := hB.trans (hbb.mono hB.size)
    clear hbb
    rw [decide_eq_true rfl]
    clear P4
    go_wp2_with fail
    refine (Total_or l _ _ _ _ hp Hn.out hn).mono ?_
    rintro e w3 ⟨rfl, hbb⟩
    replace hp := hp.below hbb
    replace hp2 := hp2.below hbb
    replace P1 := P1.below hbb
    replace P3 := P3.below hbb
    replace hB := hB.trans (hbb.mono hB.size)
    clear hbb
    rw [HV.out]
    have b1 := Fl.totOr_bound l
    obtain ⟨T1, h1⟩ : ∃ x, x = Fl.totOr l := ⟨_, rfl⟩
    rw [← h1] at b1 ⊢
    have HT1 := Lib.hid h1
    clear h1
    go_wp2_with fail
    refine (Total_or R _ _ _ _ P3 Hq.out hRl).mono ?_
    rintro e w4 ⟨rfl, hbb⟩
    replace hp := hp.below hbb
    replace hp2 := hp2.below hbb
    replace P1 := P1.below hbb
    replace P3 := P3.below hbb
    replace hB := hB.trans (hbb.mono hB.size)
    clear hbb
    obtain ⟨T2, h2⟩ : ∃ x, x = Fl.totOr R := ⟨_, rfl⟩
    obtain ⟨V2, h3⟩ : ∃ x, x = Fl.validate R := ⟨_, rfl⟩
    rw [← h2, ← h3]
    have hR0 : Hid (V = 0 → V2 = 0 ∧ T1 = T2) := Lib.hid fun h0 => by
      rw [h3, h2, HT1.out, HR.out, if_pos h0]
      have hv := Fl.validate_rev l
      rw [HV.out, h0] at hv
      refine ⟨hv, ?_⟩
      unfold Fl.totOr
      rw [if_pos hv, if_pos (HV.out.trans h0), Fl.tot_rev]
    clear h2 h3
    have hVd : V = 0 ∨ (V != 0) = true := hV0
    clear hV0
    rcases hVd with rfl | hV0
    · obtain ⟨rfl, rfl⟩ := hR0.out rfl
      go_wp2_with fail
      refine (Total_or l2 _ _ _ _ hp2 Hm.out hm).mono ?_
      rintro e wa ⟨rfl, hbb⟩
      replace hp2 := hp2.below hbb
      replace P1 := P1.below hbb
      replace hB := hB.trans (hbb.mono hB.size)
      clear hbb
      go_wp2_with fail
      refine (Total_or L _ _ _ _ P1 Hr.out hLl).mono ?_
      rintro e wb ⟨rfl, hbb⟩
      replace P1 := P1.below hbb
      replace hB := hB.trans (hbb.mono hB.size)
      clear hbb P1
      obtain ⟨T3, h1⟩ : ∃ x, x = Fl.totOr l2 := ⟨_, rfl⟩
      obtain ⟨T4, h2⟩ : ∃ x, x = Fl.totOr L := ⟨_, rfl⟩
      obtain ⟨V3, h3⟩ : ∃ x, x = Fl.validate l2 := ⟨_, rfl⟩
      obtain ⟨V4, h4⟩ : ∃ x, x = Fl.validate L := ⟨_, rfl⟩
      rw [← h1, ← h2, ← h3, ← h4]
      have b3 := Fl.totOr_bound l2
      rw [← h1] at b3
      have hJ : Hid (C = 0 → V3 = 0 ∧ V4 = 0 ∧ T4 = T1 + T3) := Lib.hid fun h0 => by
        obtain ⟨j1, j2, j3, j4⟩ := Fl.join_valid (HC.out.trans h0)
        rw [h3, h4, h2, h1, HT1.out, HL.out, if_pos h0]
        refine ⟨j2, j3, ?_⟩
        unfold Fl.totOr
        rw [if_pos j1, if_pos j2, if_pos j3, j4]
      clear h1 h2 h3 h4
      have y1 : IntKind.i64.wrap (T1 + T3) = T1 + T3 := IntWalk.i64_in _ (by omega)
      rcases hC0 with rfl | hC0
      · obtain ⟨rfl, rfl, rfl⟩ := hJ.out rfl
        go_wp2_with fail
        refine (known_any _).mono ?_
        rintro e wc ⟨rfl, hbc⟩
        go_wp2
        go_ret
        exact ⟨rfl, hB.trans (hbc.mono hB.size)⟩
      · go_wp2_with fail
        refine (known_any _).mono ?_
        rintro e wc ⟨rfl, hbc⟩
        go_wp2
        go_ret
        exact ⟨rfl, hB.trans (hbc.mono hB.size)⟩
    · have hV1 : (V == 0) = false := by simpa using hV0
      go_wp2_with fail
      refine (Total_or l2 _ _ _ _ hp2 Hm.out hm).mono ?_
      rintro e wa ⟨rfl, hbb⟩
      replace hp2 := hp2.below hbb
      replace P1 := P1.below hbb
      replace hB := hB.trans (hbb.mono hB.size)
      clear hbb
      go_wp2_with fail
      refine (Total_or L _ _ _ _ P1 Hr.out hLl).mono ?_
      rintro e wb ⟨rfl, hbb⟩
      replace P1 := P1.below hbb
      replace hB := hB.trans (hbb.mono hB.size)
      clear hbb P1
      obtain ⟨T3, h1⟩ : ∃ x, x = Fl.totOr l2 := ⟨_, rfl⟩
      obtain ⟨T4, h2⟩ : ∃ x, x = Fl.totOr L := ⟨_, rfl⟩
      obtain ⟨V3, h3⟩ : ∃ x, x = Fl.validate l2 := ⟨_, rfl⟩
      obtain ⟨V4, h4⟩ : ∃ x, x = Fl.validate L := ⟨_, rfl⟩
      rw [← h1, ← h2, ← h3, ← h4]
      have b3 := Fl.totOr_bound l2
      rw [← h1] at b3
      have hJ : Hid (C = 0 → V3 = 0 ∧ V4 = 0 ∧ T4 = T1 + T3) := Lib.hid fun h0 => by
        obtain ⟨j1, j2, j3, j4⟩ := Fl.join_valid (HC.out.trans h0)
        rw [h3, h4, h2, h1, HT1.out, HL.out, if_pos h0]
        refine ⟨j2, j3, ?_⟩
        unfold Fl.totOr
        rw [if_pos j1, if_pos j2, if_pos j3, j4]
      clear h1 h2 h3 h4
      have y1 : IntKind.i64.wrap (T1 + T3) = T1 + T3 := IntWalk.i64_in _ (by omega)
      rcases hC0 with rfl | hC0
      · obtain ⟨rfl, rfl, rfl⟩ := hJ.out rfl
        go_wp2_with fail
        refine (known_any _).mono ?_
        rintro e wc ⟨rfl, hbc⟩
        go_wp2
        go_ret
        exact ⟨rfl, hB.trans (hbc.mono hB.size)⟩
      · go_wp2_with fail
        refine (known_any _).mono ?_
        rintro e wc ⟨rfl, hbc⟩
        go_wp2
        go_ret
        exact ⟨rfl, hB.trans (hbc.mono hB.size)⟩
end Go.Proofs.Ytkpabehjehbidaa
