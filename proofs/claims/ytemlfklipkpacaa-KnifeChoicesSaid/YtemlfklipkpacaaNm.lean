import Derived.Test.YtemlfklipkpacaaNl
/- The law KnifeChoices: cut and choose; nobody envies the other one. -/
namespace Go.Proofs.Ytemlfklipkpacaa
open Go.RowKit

theorem calm_pair {L : List Int} {V : List (List Int)} {p q : Pc} {a b c d : Rat} (p1 : p.2.1 = pr a) (p2 : p.2.2 = pr b) (q1 : q.2.1 = pr c) (q2 : q.2.2 = pr d) (kab : KPl a b 20) (kcd : KPl c d 20)
    (c1 : CmpOk (Fl.worth (Kn.Z L V 0) a b) (Fl.worth (Kn.Z L V 0) a b)) (c2 : CmpOk (Fl.worth (Kn.Z L V 0) c d) (Fl.worth (Kn.Z L V 0) a b)) (c3 : CmpOk (Fl.worth (Kn.Z L V 1) a b) (Fl.worth (Kn.Z L V 1) c d)) (c4 : CmpOk (Fl.worth (Kn.Z L V 1) c d) (Fl.worth (Kn.Z L V 1) c d))
    (n0 : ¬ Fl.worth (Kn.Z L V 0) a b < Fl.worth (Kn.Z L V 0) c d) (n1 : ¬ Fl.worth (Kn.Z L V 1) c d < Fl.worth (Kn.Z L V 1) a b) : Kn.calm L V [p, q] := by
  intro i j hi hj
  simp only [List.length_cons, List.length_nil] at hi hj
  obtain rfl | rfl : i = 0 ∨ i = 1 := by omega
  · obtain rfl | rfl : j = 0 ∨ j = 1 := by omega
    · exact ⟨a, b, a, b, p1, p2, p1, p2, kab, kab, c1, by grind⟩
    · exact ⟨c, d, a, b, q1, q2, p1, p2, kcd, kab, c2, n0⟩
  · obtain rfl | rfl : j = 0 ∨ j = 1 := by omega
    · exact ⟨a, b, c, d, p1, p2, q1, q2, kab, kcd, c3, n1⟩
    · exact ⟨c, d, c, d, q1, q2, q1, q2, kcd, kcd, c4, by grind⟩
theorem pair_pcode {L : List Int} {V : List (List Int)} (hok : Kn.Ok L V) (h2 : V.length = 2) {h : Rat} (h0 : 0 ≤ h) (h1 : h ≤ (Kn.stop L : Rat)) (hd : h.den ≤ 40) {x y : Int} (hxy : (x = 0 ∧ y = 1) ∨ (x = 1 ∧ y = 0)) :
    Kn.pcode L V [(x, (0, 1), pr h), (y, pr h, (Kn.stop L, 1))] = 0 := by
  refine pcode_mk (D := h.den) hok ?_ h.den_pos (by omega) ?_
  · unfold Kn.okOwn Kn.isO
    rcases hxy with ⟨rfl, rfl⟩ | ⟨rfl, rfl⟩ <;> simp [h2]
  · exact ⟨rfl, Rat.le_refl, Nat.one_dvd _, h, rfl, h0, h1, Nat.dvd_refl _, rfl, h0, Nat.dvd_refl _, (Kn.stop L : Rat), rfl, h1, Rat.le_refl, Nat.one_dvd _, rfl⟩
/-- What KnifeChoices looks at. -/
theorem choices_facts {L : List Int} {V : List (List Int)} {C : Int} (hC : Kn.val2 L V = C) {E : List Pc} (hE : Kn.chL L V = E) :
    E.length ≤ 2 ∧ (∀ p ∈ E, p.2.1.1 ≤ 9223372036854775807 ∧ p.2.2.1 ≤ 9223372036854775807) ∧ (C = 0 → Kn.pcode L V E = 0 ∧ Kn.calm L V (Kn.hasL E)) := by
  by_cases h0 : C = 0
  · rw [h0] at hC
    obtain ⟨hok, h2⟩ := val2_ok hC
    obtain ⟨h, hh, g0, g1, hd, hw2⟩ := half_facts hok (o := 0) (by omega)
    have hst := hok.stopB
    have hEe : E = Kn.chP L V h := by rw [← hE]; unfold Kn.chL; rw [if_pos hC, hh]; rfl
    have hq2 : h ≤ ((120 : Nat) : Rat) := Rat.le_trans g1 (by
      have : (Kn.stop L : Rat) ≤ ((120 : Int) : Rat) := Rat.intCast_le_intCast.2 hst.2
      exact this)
    have hn := Fl.num_le hq2
    have hnum : h.num ≤ 9223372036854775807 := by omega
    have hsn : Kn.stop L ≤ 9223372036854775807 := by omega
    obtain ⟨a1, a2, a3, a4, a5, a6⟩ := ch_worths hok (o := 0) (by omega) g0 g1 hd
    obtain ⟨b1, b2, b3, b4, b5, b6⟩ := ch_worths hok (o := 1) (by omega) g0 g1 hd
    have z0 := hok.zOk (o := 0) (by omega)
    have e1 := worth_cum z0 Rat.le_refl g0
    have e2 := worth_cum z0 g0 g1
    rw [Fl.cum_zero z0] at e1
    rw [← hok.zStop (o := 0) (by omega), Fl.cum_all z0, hok.zStop (o := 0) (by omega)] at e2
    have heq : Fl.worth (Kn.Z L V 0) 0 h = Fl.worth (Kn.Z L V 0) h (Kn.stop L : Rat) := by grind
    rw [hEe]
    unfold Kn.chP
    by_cases hb : Kn.chB L V h = true
    · rw [if_pos hb]
      have hb' : Fl.worth (Kn.Z L V 1) 0 h < Fl.worth (Kn.Z L V 1) h (Kn.stop L : Rat) := of_decide_eq_true hb
      refine ⟨by simp, fun p hp => ?_, fun _ => ⟨pair_pcode hok h2 g0 g1 hd (.inl ⟨rfl, rfl⟩), ?_⟩⟩
      · simp only [List.mem_cons, List.not_mem_nil, or_false] at hp
        rcases hp with rfl | rfl
        · exact ⟨by simp, hnum⟩
        · exact ⟨hnum, hsn⟩
      · exact calm_pair (p := (0, (0, 1), pr h)) (q := (1, pr h, (Kn.stop L, 1))) (a := 0) (b := h) (c := h) (d := (Kn.stop L : Rat)) rfl rfl rfl rfl a1 a2 a5 a4 b3 b6 (by rw [heq]; grind) (by grind)
    · rw [if_neg hb]
      have hb' : ¬ Fl.worth (Kn.Z L V 1) 0 h < Fl.worth (Kn.Z L V 1) h (Kn.stop L : Rat) := fun h => hb (decide_eq_true h)
      refine ⟨by simp, fun p hp => ?_, fun _ => ⟨pair_pcode hok h2 g0 g1 hd (.inr ⟨rfl, rfl⟩), ?_⟩⟩
      · simp only [List.mem_cons, List.not_mem_nil, or_false] at hp
        rcases hp with rfl | rfl
        · exact ⟨by simp, hnum⟩
        · exact ⟨hnum, hsn⟩
      · exact calm_pair (p := (0, pr h, (Kn.stop L, 1))) (q := (1, (0, 1), pr h)) (a := h) (b := (Kn.stop L : Rat)) (c := 0) (d := h) rfl rfl rfl rfl a2 a1 a6 a3 b4 b5 (by rw [heq]; grind) hb'
  · have hEe : E = [] := by rw [← hE]; unfold Kn.chL; rw [if_neg (by rw [hC]; exact h0)]
    rw [hEe]
    exact ⟨by simp, fun p hp => (by cases hp), fun h => absurd h h0⟩

set_option maxRecDepth 100000 in
set_option maxHeartbeats 8000000 in
theorem knifeChoices_any (L : List Int) (aoL : Option Addr) (nL cL : Nat) (V : List (List Int)) (aoV : Option Addr) (nV cV : Nat) (w : World) (hf : Fld w aoL nL aoV nV L V) :
    Calls Try.prog 10 #[.agg #[.slice aoL nL cL, .slice aoV nV cV]] w fun e w' => e = .returned (.bool true) ∧ Below w.heap.size w w' := by
  have hA := (Below.refl _ w).alloc (Nat.le_refl _) (.cells #[.slice aoL nL cL, .slice aoV nV cV] 57)
  have rf := heap_alloc_new w (.cells #[.slice aoL nL cL, .slice aoV nV cV] 57)
  go_enter Try.func10, Try.ntmps10
  go_upto_region 1 with fail
  generalize w.alloc (.cells #[.slice aoL nL cL, .slice aoV nV cV] 57) = W0 at hA rf ⊢
  replace hf := hf.below hA
  obtain ⟨⟨x0, x1⟩, -, -⟩ := row_fr rf
  go_wp2_with fail
  refine ((klong_any L V _ _ _ _ _ _ W0 hf)).mono ?_
  rintro e w1 ⟨rfl, hbb⟩
  replace hf := hf.below hbb
  replace rf := heap_keep hbb rf
  replace hA := hA.trans (hbb.mono hA.size)
  clear hbb
  clear x0 x1
  cases hlg : Kn.lng nL nV V with
  | true =>
    go_wp2_with fail
    refine ((kknown_any w1)).mono ?_
    rintro e w2 ⟨rfl, hbb⟩
    replace hf := hf.below hbb
    replace rf := heap_keep hbb rf
    replace hA := hA.trans (hbb.mono hA.size)
    clear hbb
    go_wp2_with fail
    go_ret
    exact ⟨rfl, hA⟩
  | false =>
    obtain ⟨hl, hv, hr⟩ := lng_no hlg
    clear hlg
    obtain ⟨⟨x0, x1⟩, -, -⟩ := row_fr rf
    obtain ⟨C, hC⟩ : ∃ c, Kn.val2 L V = c := ⟨_, rfl⟩
    obtain ⟨E, hE⟩ : ∃ l, Kn.chL L V = l := ⟨_, rfl⟩
    have HF := Lib.hid (choices_facts hC hE)
    have hK1 := kChoose_any L V aoL nL cL aoV nV cV w1 hf hl hv hr
    have hK2 := fun w' (hf' : Fld w' aoL nL aoV nV L V) => sChoose_any L V aoL nL cL aoV nV cV w' hf' hl hv hr
    rw [hC, hE] at hK1 hK2
    have HK2 := Lib.hid hK2
    clear hC hE hK2
    go_wp2_with fail
    refine hK1.mono ?_
    rintro e w2 ⟨v1, rfl, o1, hb1⟩
    obtain ⟨a1, c1, rfl, P1⟩ := own_pcs o1 rfl
    replace hf := hf.below hb1
    replace rf := heap_keep hb1 rf
    replace hA := hA.trans (hb1.mono hA.size)
    clear hb1 x0 x1 o1 hK1
    obtain ⟨⟨x0, x1⟩, -, -⟩ := row_fr rf
    go_wp2_with fail
    refine (HK2.out w2 hf).mono ?_
    rintro e w3 ⟨v2, rfl, o2, hb1⟩
    obtain ⟨a2, c2, rfl, P2⟩ := own_pcs o2 rfl
    replace P1 := P1.below hb1
    replace hf := hf.below hb1
    replace rf := heap_keep hb1 rf
    replace hA := hA.trans (hb1.mono hA.size)
    clear hb1 x0 x1 o2 HK2
    obtain ⟨r, hr5⟩ : ∃ r, r = E.length := ⟨_, rfl⟩
    rw [← hr5]
    have Hr := Lib.hid hr5
    have h5 : r ≤ 2 := by rw [hr5]; exact HF.out.1
    clear hr5
    have e9 : (C != C) = false := by simp
    go_wp2_with fail
    refine (samePieces_any E E _ _ _ _ _ _ _ P1 P2 Hr.out Hr.out (by omega) (by omega)).mono ?_
    rintro e w4 ⟨rfl, hb1⟩
    rw [decide_eq_true rfl]
    replace P1 := P1.below hb1
    replace hf := hf.below hb1
    replace rf := heap_keep hb1 rf
    replace hA := hA.trans (hb1.mono hA.size)
    clear hb1 P2
    by_cases hz : C = 0
    · subst hz
      obtain ⟨k1, k2⟩ := HF.out.2.2 rfl
      have hKE := kEnvy_none L V E aoL nL cL aoV nV cV a1 r c1 w4 hf hl hv hr P1 Hr.out HF.out.2.1 k1 k2
      clear k1 k2
      obtain ⟨⟨x0, x1⟩, -, -⟩ := row_fr rf
      go_wp2_with fail
      refine hKE.mono ?_
      rintro e w5 ⟨rfl, hb1⟩
      replace hf := hf.below hb1
      replace rf := heap_keep hb1 rf
      replace hA := hA.trans (hb1.mono hA.size)
      clear hb1 x0 x1 hKE P1
      go_wp2_with fail
      refine (kknown_any w5).mono ?_
      rintro e w7 ⟨rfl, hb1⟩
      go_wp2_with fail
      go_ret
      exact ⟨rfl, hA.trans (hb1.mono hA.size)⟩
    · have hne : (C != 0) = true := by simp [hz]
      go_wp2_with fail
      refine (kknown_any w4).mono ?_
      rintro e w5 ⟨rfl, hb1⟩
      go_wp2_with fail
      go_ret
      exact ⟨rfl, hA.trans (hb1.mono hA.size)⟩
end Go.Proofs.Ytemlfklipkpacaa
