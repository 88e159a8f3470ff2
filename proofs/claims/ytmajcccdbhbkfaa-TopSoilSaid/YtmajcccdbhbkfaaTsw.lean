import Derived.Test.YtmajcccdbhbkfaaTsl
namespace Go.Proofs.Ytmajcccdbhbkfaa
open Go.RowKit

theorem tnum {q : Rat} {X : Int} (h1 : q ≤ (X : Rat)) (h2 : X ≤ 120) (h3 : q.den ≤ 20) : q.num ≤ 9223372036854775807 := by
  have e : q ≤ ((1000 : Nat) : Rat) := Rat.le_trans h1 (Rat.intCast_le_intCast.2 (by omega))
  have := Fl.num_le e
  omega
theorem tmnum {D : List Rat} {X : Int} (h : ∀ q ∈ D, 0 ≤ q ∧ q.den ≤ 20) (hX : X ≤ 120) : ∀ c ∈ (D.reverse.map fun q => (X : Rat) - q).map pr, c.1 ≤ 9223372036854775807 := by
  intro c hc
  rw [List.mem_map] at hc
  obtain ⟨y, hy, rfl⟩ := hc
  rw [List.mem_map] at hy
  obtain ⟨q, hq, rfl⟩ := hy
  obtain ⟨q0, qd⟩ := h q (List.mem_reverse.1 hq)
  have hd := Fl.den_sub_le (X : Rat) q
  rw [Rat.den_intCast] at hd
  exact tnum (X := X) (by grind) hX (by omega)
theorem tplace_lo {c : List Rat} {X : Rat} {k : Nat} (hk : k < c.length) : (c ++ [X]).getD k 0 = c.getD k 0 := by
  rw [List.getD_eq_getElem?_getD, List.getElem?_append_left hk, List.getD_eq_getElem?_getD]
theorem tplace_hi {c : List Rat} {X : Rat} {k : Nat} (hk : k = c.length) : (c ++ [X]).getD k 0 = X := by
  rw [List.getD_eq_getElem?_getD, List.getElem?_append_right (by omega)]
  simp [hk]

set_option maxRecDepth 100000 in
set_option maxHeartbeats 800000 in
theorem topSoil_any (l : List (Int × Int)) (ao : Option Addr) (n cap : Nat) (ps : List Int) (ao2 : Option Addr) (m cap2 : Nat) (w : World) (hp : Pts w ao l) (hln : n = l.length) (hI : Ints w ao2 ps) (hlm : m = ps.length) (_ : ∀ x ∈ ps, Rng x) :
    Calls Try.prog 17 #[.slice ao n cap, .slice ao2 m cap2] w fun e w' => e = .returned (.bool true) ∧ Below w.heap.size w w' := by
  have Hn := Lib.hid hln
  have Hm := Lib.hid hlm
  clear hln hlm
  have hB : Below w.heap.size w (w.alloc (.cells #[.int .i64 4, .int .i64 3, .int .i64 2, .int .i64 6] 52)) := (Below.refl _ w).alloc (Nat.le_refl _) _
  have hF := fl_pts w
  replace hp := hp.below ((Below.refl _ w).alloc (Nat.le_refl _) (.cells #[.int .i64 4, .int .i64 3, .int .i64 2, .int .i64 6] 52))
  replace hI := hI.below ((Below.refl _ w).alloc (Nat.le_refl _) (.cells #[.int .i64 4, .int .i64 3, .int .i64 2, .int .i64 6] 52))
  have HH := Lib.hid (And.intro hp (And.intro hI (And.intro hF hB)))
  clear hp hI hF hB
  go_enter Try.func17, Try.ntmps17
  go_wp2_with fail
  obtain ⟨hp, hI, hF, hB⟩ := HH.out
  clear HH
  refine (twhole 0 _).mono ?_
  rintro e w1 ⟨rfl, hbb⟩
  replace hp := hp.below hbb
  replace hI := hI.below hbb
  replace hF := hF.below hbb
  replace hB := hB.trans (hbb.mono hB.size)
  clear hbb
  go_wp2_with fail
  refine (twhole 15 _).mono ?_
  rintro e w2 ⟨rfl, hbb⟩
  replace hp := hp.below hbb
  replace hI := hI.below hbb
  replace hF := hF.below hbb
  replace hB := hB.trans (hbb.mono hB.size)
  clear hbb
  go_wp2_with fail
  refine (Place_any fl _ _ _ 0 1 15 1 _ hF rfl (by decide) (by decide) (by decide)).mono ?_
  rintro e w3 ⟨rfl, hbb⟩
  replace hp := hp.below hbb
  replace hI := hI.below hbb
  replace hF := hF.below hbb
  replace hB := hB.trans (hbb.mono hB.size)
  clear hbb
  rw [tfl_place, tfl_code]
  have hA := (Below.refl _ w3).alloc (Nat.le_refl _) (.cells #[.int .i64 9, .int .i64 2] 29)
  have r5 := heap_alloc_new w3 (.cells #[.int .i64 9, .int .i64 2] 29)
  replace hp := hp.below hA
  replace hI := hI.below hA
  replace hF := hF.below hA
  replace hB := hB.trans (hA.mono hB.size)
  clear hA hF
  obtain ⟨⟨c0, c1⟩, -, -⟩ := row_fr r5
  have q1 := run_neq_rt 9 2 9 2
  simp only [decide_true, Bool.not_true] at q1
  go_wp2_with fail
  clear c0 c1 q1 r5
  refine (long_any n 0 cap 0 ao none _).mono ?_
  rintro e w4 ⟨rfl, rfl⟩
  generalize w3.alloc (.cells #[.int .i64 9, .int .i64 2] 29) = wx at hp hI hB ⊢
  by_cases hlong : 100 < n
  · have hd : (decide (100 < n) || decide (100 < 0)) = true := by simp [hlong]
    rw [hd]
    go_wp2
    go_ret
    exact ⟨rfl, hB⟩
  have hd : (decide (100 < n) || decide (100 < 0)) = false := by simp; omega
  rw [hd]
  have hn : n ≤ 100000 := by omega
  clear hlong hd
  by_cases hlong : 100 < m
  · have hm100 : (100 : Int) < (m : Int) := by omega
    go_wp2
    go_ret
    exact ⟨rfl, hB⟩
  have hm100 : ¬ (100 : Int) < (m : Int) := by omega
  have hm : m ≤ 100000 := by omega
  clear hlong
  obtain ⟨V, hV⟩ : ∃ V, Fl.validate l = V := ⟨_, rfl⟩
  have hV0 : V = 0 ∨ (V != 0) = true := by by_cases h : V = 0 <;> simp [h]
  have HV := Lib.hid hV
  clear hV
  obtain ⟨X, hX⟩ : ∃ x, x = (if V = 0 then Fl.len l else 0) := ⟨_, rfl⟩
  obtain ⟨Y, hY⟩ : ∃ x, x = (if V = 0 then Fl.tot l else 0) := ⟨_, rfl⟩
  have HX := Lib.hid (And.intro hX hY)
  clear hX hY
  go_wp2_with fail
  refine (Length_any l _ _ _ _ hp Hn.out hn).mono ?_
  rintro e w4 ⟨rfl, hbb⟩
  replace hp := hp.below hbb
  replace hI := hI.below hbb
  replace hB := hB.trans (hbb.mono hB.size)
  clear hbb
  rw [HV.out, ← HX.out.1]
  go_wp2_with fail
  refine (Total_any l _ _ _ _ hp Hn.out hn).mono ?_
  rintro e w5 ⟨rfl, hbb⟩
  replace hp := hp.below hbb
  replace hI := hI.below hbb
  replace hB := hB.trans (hbb.mono hB.size)
  clear hbb
  rw [HV.out, ← HX.out.2]
  rcases hV0 with rfl | hV0
  · have hok := (Fl.validate_ok.1 HV.out).2
    have hlb := Fl.len_bound hok
    have hl1 := (Fl.validate_ok.1 HV.out).1.1
    have hl6 := (Fl.validate_ok.1 HV.out).1.2
    have hXl := HX.out
    simp only [if_true] at hXl
    have HXl := Lib.hid hXl
    have hX1 : 1 ≤ X := by omega
    have hX2 : X ≤ 120 := by omega
    have hta := tall HV.out
    have htd := tdear HV.out
    rw [← hXl.1, ← hXl.2] at hta htd
    have HT := Lib.hid hta
    have HD := Lib.hid htd
    have HO := Lib.hid (And.intro hok (And.intro hl1 hl6))
    clear hXl HX hlb hl1 hl6 hta htd hok
    go_wp2_with fail
    refine (twhole 0 _).mono ?_
    rintro e w6 ⟨rfl, hbb⟩
    replace hp := hp.below hbb
    replace hI := hI.below hbb
    replace hB := hB.trans (hbb.mono hB.size)
    clear hbb
    go_wp2_with fail
    refine (twhole X _).mono ?_
    rintro e w7 ⟨rfl, hbb⟩
    replace hp := hp.below hbb
    replace hI := hI.below hbb
    replace hB := hB.trans (hbb.mono hB.size)
    clear hbb
    go_wp2_with fail
    refine (Worth_any l _ _ _ 0 1 X 1 _ hp Hn.out hn (by decide) (by omega)).mono ?_
    rintro e w8 ⟨rfl, hbb⟩
    replace hp := hp.below hbb
    replace hI := hI.below hbb
    replace hB := hB.trans (hbb.mono hB.size)
    clear hbb
    rw [HT.out.1, HT.out.2, frOr_ok]
    have hA := (Below.refl _ w8).alloc (Nat.le_refl _) (.cells #[.int .i64 Y, .int .i64 1] 29)
    have r11 := heap_alloc_new w8 (.cells #[.int .i64 Y, .int .i64 1] 29)
    replace hp := hp.below hA
    replace hI := hI.below hA
    replace hB := hB.trans (hA.mono hB.size)
    clear hA
    go_wp2_with fail
    refine (dear_ok l X _ _ _ _ hp Hn.out hn HV.out (by omega) (by rw [HXl.out.1]; exact Int.le_refl _)).mono ?_
    rintro e w9 ⟨rfl, hbb⟩
    replace hp := hp.below hbb
    replace hI := hI.below hbb
    replace r11 := heap_keep hbb r11
    replace hB := hB.trans (hbb.mono hB.size)
    clear hbb
    rw [HD.out.1, HD.out.2]
    have hA := below_alloc2 w9 (.cells #[.int .i64 0, .int .i64 1] 29) (.cells #[.int .i64 Y, .int .i64 1] 29)
    have r14 := heap_alloc2_new w9 (.cells #[.int .i64 0, .int .i64 1] 29) (.cells #[.int .i64 Y, .int .i64 1] 29)
    replace hp := hp.below hA
    replace hI := hI.below hA
    replace r11 := heap_keep hA r11
    replace hB := hB.trans (hA.mono hB.size)
    clear hA
    have q1 := run_neq_rt Y 1 Y 1
    simp only [decide_true, Bool.not_true] at q1
    go_wp2_with fail
    obtain ⟨⟨c0, c1⟩, -, -⟩ := row_fr r11
    obtain ⟨⟨c2, c3⟩, -, -⟩ := row_fr r14
    clear r11 r14
    have HK := Lib.hid (And.intro hp (And.intro hI hB))
    go_region_held3 (fun w' => w'.cell? ⟨w8.heap.size, 0, none⟩ = some (.int .i64 Y) ∧ w'.cell? ⟨w8.heap.size, 1, none⟩ = some (.int .i64 1) ∧ w'.cell? ⟨w9.heap.size + 1, 0, none⟩ = some (.int .i64 Y) ∧ w'.cell? ⟨w9.heap.size + 1, 1, none⟩ = some (.int .i64 1))
      (first | exact ⟨c0, c1, c2, c3⟩ | exact ka)
      (first
        | (go_at_call 41; refine (twhole Y _).mono ?_; rintro e wa ⟨rfl, hba⟩; have ka := And.intro (keep_cell hba c0) (And.intro (keep_cell hba c1) (And.intro (keep_cell hba c2) (keep_cell hba c3))); have hbx := (below_drewN (Below.refl _ _) 1).trans (hba.mono (Nat.le_refl _))))
    clear ka c0 c1 c2 c3 q1
    replace hp := HK.out.1.below hbx
    replace hI := HK.out.2.1.below hbx
    replace hB := HK.out.2.2.trans (hbx.mono HK.out.2.2.size)
    clear HK hbx hba
    obtain ⟨C, hC⟩ : ∃ c, Fl.partsC l ps = c := ⟨_, rfl⟩
    have hC0 : C = 0 ∨ (C != 0) = true := by by_cases h : C = 0 <;> simp [h]
    have HC := Lib.hid hC
    clear hC
    go_wp2_with fail
    refine (Cut_any l ps _ _ _ _ _ _ _ hp Hn.out hn hI Hm.out hm).mono ?_
    rintro e y10 ⟨⟨v1, rfl, M1⟩, hb1⟩
    replace hp := hp.below hb1
    replace hI := hI.below hb1
    replace hB := hB.trans (hb1.mono hB.size)
    clear hb1
    rw [HC.out] at M1 ⊢
    rcases hC0 with rfl | hC0
    · obtain ⟨c, hc⟩ : ∃ c, c = Fl.cutsOf l ps := ⟨_, rfl⟩
      rw [← hc] at M1
      have Hc := Lib.hid hc
      clear hc
      have hp0 := Fl.partsC_ok HC.out
      have m8 : m ≤ 8 := by have := Hm.out; omega
      have m1 : 1 ≤ m := by have := Hm.out; omega
      have n6 : n ≤ 6 := by have := HO.out.2.2; have := Hn.out; omega
      obtain ⟨M, hM⟩ : ∃ M, M = m - 1 := ⟨_, rfl⟩
      have hcl : Hid (c.length = M) := Lib.hid (by rw [Hc.out, (Fl.cutsOf_ok HC.out).2.2.2, hM, Hm.out])
      have HM := Lib.hid hM
      have e1 : IntKind.i64.wrap ((m : Int) - 1) = (M : Int) := (IntWalk.i64_in _ (by omega)).trans (by omega)
      have M8 : M ≤ 7 := by omega
      clear hp0 hM
      obtain ⟨a1, cp1, rfl, -, P1⟩ := M1.pts
      simp only [if_true] at P1 ⊢
      rw [List.length_map, hcl.out]
      clear M1
      go_wp2_with fail
      refine (CheckCut_any l ps (c.map pr) _ _ _ _ _ _ _ _ _ _ hp Hn.out hn hI Hm.out hm P1 (by rw [List.length_map, hcl.out]) (by omega) (by rw [Hc.out]; exact cuts_num HC.out)).mono ?_
      rintro e y11 ⟨rfl, hb1⟩
      rw [Hc.out, Fl.check_own HC.out]
      replace hp := hp.below hb1
      replace hI := hI.below hb1
      replace P1 := P1.below hb1
      replace hB := hB.trans (hb1.mono hB.size)
      clear hb1 e1
      go_wp2_with fail
      refine (twhole 0 _).mono ?_
      rintro e w10 ⟨rfl, hbb⟩
      replace hp := hp.below hbb
      replace hI := hI.below hbb
      replace P1 := P1.below hbb
      replace hB := hB.trans (hbb.mono hB.size)
      clear hbb
      have hb7 := (Below.refl _ w10).alloc (Nat.le_refl _) (.cells #[.int .i64 0, .int .i64 1] 29)
      have r17 := heap_alloc_new w10 (.cells #[.int .i64 0, .int .i64 1] 29)
      obtain ⟨E, hE⟩ : ∃ E, E = Fl.placesOf l ps := ⟨_, rfl⟩
      have HE := Lib.hid hE
      have hpl := fun k (hk : k ≤ ps.length) => Fl.places_at HC.out hk
      have hpw := fun k (hk : k < ps.length) => Fl.places_worth HC.out hk
      have hEc : Hid (E = c ++ [(X : Rat)]) := Lib.hid (by rw [hE, Hc.out, HXl.out.1]; rfl)
      simp only [← hE, ← HXl.out.1] at hpl hpw
      have HPL := Lib.hid hpl
      have HPW := Lib.hid hpw
      clear hE hpl hpw
      have HS := Lib.hid (And.intro hp (And.intro hI (And.intro P1 hB)))
      clear hp hI P1 hB
      go_wp2_with fail
      generalize w10.alloc (.cells #[.int .i64 0, .int .i64 1] 29) = W7 at hb7 r17 ⊢
      obtain ⟨G, hG⟩ : ∃ g, g = w10.heap.size := ⟨_, rfl⟩
      rw [← hG] at r17 ⊢
      have HG := Lib.hid hG
      clear hG
      go_loopw [18] (fun i wr => ∃ k : Nat, k ≤ m ∧ i = .int .i64 k ∧ ∃ a : Rat, Hid (a = (0 :: E).getD k 0) ∧ wr.heap[G]? = some (.cells #[.int .i64 a.num, .int .i64 a.den] 29 (0, 0)) ∧ Below w10.heap.size w10 wr) (fun i _ => m - (intOf i).toNat)
      case atStart => exact ⟨0, Nat.zero_le _, rfl, 0, Lib.hid rfl, r17, hb7⟩
      case round =>
        clear r17 hb7
        obtain ⟨k, hk, rfl, a, hA, r17, hb⟩ := hrel
        by_cases hlt : k < m
        · have hkl : k < ps.length := by have := Hm.out; omega
          obtain ⟨q, hq⟩ : ∃ q, q = E.getD k 0 := ⟨_, rfl⟩
          obtain ⟨x, hx⟩ : ∃ x, x = ps.getD k 0 := ⟨_, rfl⟩
          have Hq := Lib.hid (show q = (0 :: E).getD (k + 1) 0 from hq)
          have ga := HPL.out k (by omega)
          have gq := HPL.out (k + 1) (by omega)
          have gw := HPW.out k hkl
          rw [← hA.out] at ga gw
          rw [← Hq.out] at gq
          rw [← hq, ← hx] at gw
          have hwc := Fl.wcode_places HV.out (a := a) (b := q) ga.1 (by rw [← HXl.out.1]; exact ga.2.1) gq.1 (by rw [← HXl.out.1]; exact gq.2.1) gw.1 (by have := ga.2.2; omega) (by have := gq.2.2; omega)
          have hww : Fl.worth l (mkRat a.num (a.den : Int).toNat) (mkRat q.num (q.den : Int).toNat) = ((x : Int) : Rat) := by rw [Fl.mk_self, Fl.mk_self]; exact gw.2
          have HW := Lib.hid (And.intro hwc (And.intro hww (And.intro (tnum ga.2.1 hX2 ga.2.2) (tnum gq.2.1 hX2 gq.2.2))))
          clear hwc hww gw
          obtain ⟨b, off, rfl, hbs, hcx⟩ := HS.out.2.1.at hkl
          rw [← hx] at hcx
          clear hx
          have hcx0 := keep_cell hb hcx
          have i1 : (k : Int) < (m : Int) := by omega
          have HQ := Lib.hid (And.intro hq (And.intro ga gq))
          clear hq ga gq hcx
          go_wp2_with fail
          refine (twhole X _).mono ?_
          rintro e y12 ⟨rfl, hbb⟩
          replace hcx0 := keep_cell hbb hcx0
          replace r17 := heap_keep hbb r17
          replace hb := hb.trans (hbb.mono hb.size)
          clear hbb
          have hA19 := (Below.refl _ y12).alloc (Nat.le_refl _) (.cells #[.int .i64 q.num, .int .i64 q.den] 29)
          have r19 := heap_alloc_new y12 (.cells #[.int .i64 q.num, .int .i64 q.den] 29)
          have H19 := Lib.hid (And.intro (hb.trans (hA19.mono hb.size)) (And.intro ((HS.out.1.below hb).below hA19) (And.intro (keep_cell hA19 hcx0) (And.intro (heap_keep hA19 r17) r19))))
          have hlG := heap_lt r17
          clear hA19 r19 hcx0 r17
          by_cases hkM : k < M
          · have hkc : k < c.length := by rw [hcl.out]; exact hkM
            obtain ⟨b2, off2, rfl, hbs2, hx1, hx2⟩ := tpts_pr HS.out.2.2.1 hkc
            rw [← tplace_lo (X := (X : Rat)) hkc, ← hEc.out, ← HQ.out.1] at hx1 hx2
            replace hx1 := keep_cell hb hx1
            replace hx2 := keep_cell hb hx2
            have i2 : (k : Int) < (M : Int) := by omega
            have hs12 := hb.size
            have hb2l : b2 < y12.heap.size := by omega
            go_upto_region 26 with fail
            clear hx1 hx2 hb
            generalize y12.alloc (.cells #[.int .i64 q.num, .int .i64 q.den] 29) = wq at H19 ⊢
            generalize y12.heap.size = T at H19 hlG hs12 ⊢
            obtain ⟨hbA, hpA, hcA, r17A, r19⟩ := H19.out
            clear H19
            obtain ⟨⟨c0, c1⟩, -, -⟩ := row_fr r17A
            obtain ⟨⟨c2, c3⟩, -, -⟩ := row_fr r19
            go_wp2_with fail
            refine (Worth_any l _ _ _ a.num a.den q.num q.den _ hpA Hn.out hn HW.out.2.2.1 HW.out.2.2.2).mono ?_
            rintro e y13 ⟨rfl, hbb⟩
            rw [HW.out.1, HW.out.2.1, frOr_ok]
            clear c0 c1 c2 c3 hpA
            replace hbA := hbA.trans (hbb.mono hbA.size)
            replace hcA := keep_cell hbb hcA
            replace r17A := heap_keep hbb r17A
            replace r19 := heap_keep hbb r19
            clear hbb
            have hA20 := (Below.refl _ y13).alloc (Nat.le_refl _) (.cells #[.int .i64 x, .int .i64 1] 29)
            have r20 := heap_alloc_new y13 (.cells #[.int .i64 x, .int .i64 1] 29)
            replace hbA := hbA.trans (hA20.mono hbA.size)
            replace hcA := keep_cell hA20 hcA
            replace r17A := heap_keep hA20 r17A
            replace r19 := heap_keep hA20 r19
            clear hA20
            have q1 := run_neq_rt x 1 x 1
            simp only [decide_true, Bool.not_true] at q1
            obtain ⟨⟨c4, c5⟩, -, -⟩ := row_fr r20
            go_upto_region 27 with fail
            clear r20
            have HK := Lib.hid (And.intro hbA (And.intro r17A r19))
            clear hbA r17A r19
            generalize y13.alloc (.cells #[.int .i64 x, .int .i64 1] 29) = w20 at HK hcA c4 c5 ⊢
            generalize y13.heap.size = T20 at c4 c5 ⊢
            have i4 : (k : Int) < (m : Int) := by omega
            go_region_held3 (fun w' => w'.cell? ⟨T20, 0, none⟩ = some (.int .i64 x) ∧ w'.cell? ⟨T20, 1, none⟩ = some (.int .i64 1) ∧ w'.cell? ⟨b, off + k, none⟩ = some (.int .i64 x))
              (first | exact ⟨c4, c5, hcA⟩ | exact ka)
              (first
                | (go_at_call 41; refine (twhole x _).mono ?_; rintro e wa ⟨rfl, hba⟩; have ka := And.intro (keep_cell hba c4) (And.intro (keep_cell hba c5) (keep_cell hba hcA)); have hbx := (below_drewN (Below.refl _ w20) 1).trans (hba.mono (Nat.le_refl _))))
            clear ka c4 c5 hcA q1 hba
            have hbY := HK.out.1.trans (hbx.mono HK.out.1.size)
            have r17Y := heap_keep hbx HK.out.2.1
            have r19Y := heap_keep hbx HK.out.2.2
            clear HK hbx
            obtain ⟨⟨c0, c1⟩, f0, f1⟩ := row_fr r17Y
            obtain ⟨⟨c2, c3⟩, -, -⟩ := row_fr r19Y
            have hGY : w10.heap.size ≤ G := by have := HG.out; omega
            go_wp2
            go_roundw
            case rel => exact ⟨k + 1, by omega, by go_num, q, Lib.hid Hq.out, two_cells r17Y _ _, below_setCell (below_setCell hbY (by omega) _) (by omega) _⟩
            case measure => simp [intOf]; omega
          · have hkc : k = c.length := by rw [hcl.out]; have := HM.out; omega
            have hqX : Hid (X = q.num ∧ (1 : Int) = (q.den : Int)) := Lib.hid (by
              have h1 : q = (X : Rat) := by rw [HQ.out.1, hEc.out]; exact tplace_hi hkc
              rw [h1]; exact ⟨rfl, rfl⟩)
            have i2 : ¬ (k : Int) < (M : Int) := by omega
            clear hkc
            have hs12 := hb.size
            go_upto_region 26 with fail
            have hwq : y12.alloc (.cells #[.int .i64 X, .int .i64 1] 29) = y12.alloc (.cells #[.int .i64 q.num, .int .i64 q.den] 29) := by rw [← hqX.out.1, ← hqX.out.2]
            rw [hwq]
            clear hb hwq
            generalize y12.alloc (.cells #[.int .i64 q.num, .int .i64 q.den] 29) = wq at H19 ⊢
            generalize y12.heap.size = T at H19 hlG hs12 ⊢
            obtain ⟨hbA, hpA, hcA, r17A, r19⟩ := H19.out
            clear H19
            obtain ⟨⟨c0, c1⟩, -, -⟩ := row_fr r17A
            obtain ⟨⟨c2, c3⟩, -, -⟩ := row_fr r19
            go_wp2_with fail
            refine (Worth_any l _ _ _ a.num a.den q.num q.den _ hpA Hn.out hn HW.out.2.2.1 HW.out.2.2.2).mono ?_
            rintro e y13 ⟨rfl, hbb⟩
            rw [HW.out.1, HW.out.2.1, frOr_ok]
            clear c0 c1 c2 c3 hpA
            replace hbA := hbA.trans (hbb.mono hbA.size)
            replace hcA := keep_cell hbb hcA
            replace r17A := heap_keep hbb r17A
            replace r19 := heap_keep hbb r19
            clear hbb
            have hA20 := (Below.refl _ y13).alloc (Nat.le_refl _) (.cells #[.int .i64 x, .int .i64 1] 29)
            have r20 := heap_alloc_new y13 (.cells #[.int .i64 x, .int .i64 1] 29)
            replace hbA := hbA.trans (hA20.mono hbA.size)
            replace hcA := keep_cell hA20 hcA
            replace r17A := heap_keep hA20 r17A
            replace r19 := heap_keep hA20 r19
            clear hA20
            have q1 := run_neq_rt x 1 x 1
            simp only [decide_true, Bool.not_true] at q1
            obtain ⟨⟨c4, c5⟩, -, -⟩ := row_fr r20
            go_upto_region 27 with fail
            clear r20
            have HK := Lib.hid (And.intro hbA (And.intro r17A r19))
            clear hbA r17A r19
            generalize y13.alloc (.cells #[.int .i64 x, .int .i64 1] 29) = w20 at HK hcA c4 c5 ⊢
            generalize y13.heap.size = T20 at c4 c5 ⊢
            have i4 : (k : Int) < (m : Int) := by omega
            go_region_held3 (fun w' => w'.cell? ⟨T20, 0, none⟩ = some (.int .i64 x) ∧ w'.cell? ⟨T20, 1, none⟩ = some (.int .i64 1) ∧ w'.cell? ⟨b, off + k, none⟩ = some (.int .i64 x))
              (first | exact ⟨c4, c5, hcA⟩ | exact ka)
              (first
                | (go_at_call 41; refine (twhole x _).mono ?_; rintro e wa ⟨rfl, hba⟩; have ka := And.intro (keep_cell hba c4) (And.intro (keep_cell hba c5) (keep_cell hba hcA)); have hbx := (below_drewN (Below.refl _ w20) 1).trans (hba.mono (Nat.le_refl _))))
            clear ka c4 c5 hcA q1 hba
            have hbY := HK.out.1.trans (hbx.mono HK.out.1.size)
            have r17Y := heap_keep hbx HK.out.2.1
            have r19Y := heap_keep hbx HK.out.2.2
            clear HK hbx
            obtain ⟨⟨c0, c1⟩, f0, f1⟩ := row_fr r17Y
            obtain ⟨⟨c2, c3⟩, -, -⟩ := row_fr r19Y
            have hGY : w10.heap.size ≤ G := by have := HG.out; omega
            go_wp2
            go_roundw
            case rel => exact ⟨k + 1, by omega, by go_num, q, Lib.hid Hq.out, two_cells r17Y _ _, below_setCell (below_setCell hbY (by omega) _) (by omega) _⟩
            case measure => simp [intOf]; omega
        · have i1 : ¬ (k : Int) < (m : Int) := by omega
          have hs10 : w.heap.size ≤ w10.heap.size := HS.out.2.2.2.size
          have hp := HS.out.1.below hb
          have hI := HS.out.2.1.below hb
          have hB := HS.out.2.2.2.trans (hb.mono hs10)
          clear HS hb r17 hA
          go_wp2_with fail
          refine (Turn_any l _ _ _ _ hp Hn.out hn).mono ?_
          rintro e y14 ⟨⟨v2, rfl, M2⟩, hb2⟩
          replace hp := hp.below hb2
          replace hI := hI.below hb2
          replace hB := hB.trans (hb2.mono hB.size)
          clear hb2
          rw [HV.out] at M2 ⊢
          obtain ⟨a2, cp2, rfl, -, P2⟩ := M2
          simp only [if_true] at P2 ⊢
          rw [List.length_reverse, ← Hn.out]
          have e1 : IntKind.i64.wrap ((m : Int) - 1) = (m : Int) - 1 := IntWalk.i64_in _ (by omega)
          obtain ⟨i0, hi0, hz0, hz1, hz2⟩ := info_in
          have HP := Lib.hid hp
          have HI := Lib.hid hI
          have HP2 := Lib.hid P2
          have HBB := Lib.hid hB
          clear hp hI P2 hB
          go_wp2
          clear e1
          go_loopw [23, 24] (fun v i wr => ∃ (k : Nat) (z : Int), k ≤ m ∧ Hid (z = (m : Int) - 1 - k) ∧ -1 ≤ z ∧ z ≤ 8 ∧ i = .int .i64 z ∧ Hid (wr.ownsRow y14.heap.size 3 1 v k ((ps.reverse.take k).map (Value.int .i64))) ∧ Below y14.heap.size y14 wr) (fun _ i _ => (intOf i + 1).toNat)
          case atStart => exact ⟨0, (m : Int) - 1, Nat.zero_le _, Lib.hid (by omega), by omega, by omega, rfl, Lib.hid ⟨rfl, .inl ⟨rfl, rfl⟩⟩, Below.refl _ _⟩
          case round =>
            clear i1
            obtain ⟨k, z, hk, Hz, hz1', hz2', rfl, hown, hb⟩ := hrel
            by_cases hlt : 0 ≤ z
            · obtain ⟨j, rfl⟩ := Int.eq_ofNat_of_zero_le hlt
              have hz := Hz.out
              have hjm : j < ps.length := by have := Hm.out; omega
              have hkl : k < ps.length := by have := Hm.out; omega
              obtain ⟨b, off, rfl, hbs, hc⟩ := HI.out.at hjm
              replace hc := keep_cell hb hc
              have hsn := tint_snoc hkl
              rw [show ps.length - 1 - k = j by have := Hm.out; omega] at hsn
              obtain ⟨x, hx⟩ : ∃ x, x = ps.getD j 0 := ⟨_, rfl⟩
              rw [← hx] at hc hsn
              have Hsn := Lib.hid hsn
              have i1 : (j : Int) < (m : Int) := by omega
              have hk8 : k < 8 := by omega
              have hkm : k + 1 ≤ m := by omega
              have Hz2 : Hid ((j : Int) - 1 = (m : Int) - 1 - ((k + 1 : Nat) : Int)) := Lib.hid (by omega)
              have hj8 : (j : Int) ≤ 8 := by omega
              have e1 : IntKind.i64.wrap ((j : Int) - 1) = (j : Int) - 1 := IntWalk.i64_in _ (by omega)
              clear hx hsn hz Hz
              have hs := hb.size
              go_wp2_with (first | (at_builtin; refine wpList_append_own _ rfl _ _ 43 rfl y14.heap.size 3 i0 (.int .i64 0) 1 8 Try.underlying43 hi0 hz0 hz1 hz2 rfl (by decide) _ k _ rfl (hown.out.alloc _) ⟨wr.heap.size, 0, none⟩ 1 1 [.int .i64 x] rfl rfl (World.news_of_block (cs := #[.int .i64 x]) (t := 3) (fr := (0, 0)) (heap_alloc_new wr _)) (by simp [Value.oneCell']) (by unfold maxLen; omega) (by omega) (by simp; omega) ?_; intro v' w4 hown4 hgrow4 hnil4; have hb5 : Below y14.heap.size y14 w4 := (hb.alloc hs _).grown hgrow4 (by simp; omega) (fun q hq => (hown.out.lt _ hq).1); clear hgrow4 hnil4))
              go_roundw
              case rel => exact ⟨k + 1, (j : Int) - 1, hkm, Hz2, by omega, by omega, by go_num, Lib.hid (by rw [Hsn.out]; exact hown4), hb5⟩
              case measure => simp [intOf]
            · have hz := Hz.out
              have hkm : k = m := by omega
              have ho := hown.out
              rw [hkm, Hm.out, ← List.length_reverse, List.take_length] at ho
              obtain ⟨ao4, cap4, rfl, hcap4, hI4⟩ := own_ints ho rfl
              have hrl : Hid (ps.reverse.length = m) := Lib.hid (by rw [List.length_reverse, Hm.out])
              rw [hrl.out] at hcap4 ⊢
              have hp2 := HP2.out.below hb
              have hpp := HP.out.below hb
              have hii := HI.out.below hb
              have hB4 := HBB.out.trans (hb.mono HBB.out.size)
              clear ho hown hkm hz hb
              have Hnr : Hid (n = l.reverse.length) := Lib.hid (by rw [List.length_reverse]; exact Hn.out)
              have Hpr := Lib.hid (Fl.partsC_reverse HC.out)
              go_wp2_with fail
              refine (Cut_any l.reverse ps.reverse _ _ _ _ _ _ _ hp2 Hnr.out hn hI4 hrl.out.symm hm).mono ?_
              rintro e y15 ⟨⟨v3, rfl, M3⟩, hb5⟩
              rw [Hpr.out] at M3
              rw [Hpr.out]
              replace hpp := hpp.below hb5
              replace hii := hii.below hb5
              replace hB4 := hB4.trans (hb5.mono hB4.size)
              clear hb5 hp2 hI4
              obtain ⟨D, hD⟩ : ∃ D, D = Fl.cutsOf l.reverse ps.reverse := ⟨_, rfl⟩
              have hDl : Hid (D.length = M) := Lib.hid (by rw [hD, (Fl.cutsOf_ok Hpr.out).2.2.2, List.length_reverse, HM.out, Hm.out])
              have hDc := tcut Hpr.out
              have hDm : Hid (∀ q ∈ D, 0 ≤ q ∧ q.den ≤ 20) := Lib.hid (fun q hq => by rw [hD] at hq; have := (Fl.cutsOf_ok Hpr.out).2.1 q hq; exact ⟨this.1, this.2.2⟩)
              rw [Fl.len_reverse, ← hD] at hDc
              have hmok := Fl.mirrored_ok HC.out
              unfold Fl.mirrored at hmok
              rw [← hD] at hmok M3
              rw [← HXl.out.1] at hmok hDc
              have HDc := Lib.hid hDc
              have HMok := Lib.hid hmok
              clear hD hDc hmok
              obtain ⟨a3, cp3, rfl, -, P3⟩ := M3.pts
              simp only [if_true] at P3 ⊢
              rw [List.length_map, hDl.out]
              clear M3
              have e1 : IntKind.i64.wrap ((M : Int) - 1) = (M : Int) - 1 := IntWalk.i64_in _ (by omega)
              obtain ⟨i1, hi1, hy0, hy1, hy2⟩ := info_rt
              have HP := Lib.hid hpp
              have HI := Lib.hid hii
              have HP3 := Lib.hid P3
              have HBB := Lib.hid hB4
              clear hpp hii P3 hB4
              go_wp2
              clear e1
              go_loopw [26, 27] (fun v i wr => ∃ (k : Nat) (z : Int), k ≤ M ∧ Hid (z = (M : Int) - 1 - k) ∧ -1 ≤ z ∧ z ≤ 8 ∧ i = .int .i64 z ∧ Hid (wr.ownsRow y15.heap.size 29 2 v k (flat2 (((D.reverse.map fun q => (X : Rat) - q).take k).map pr))) ∧ Below y15.heap.size y15 wr) (fun _ i _ => (intOf i + 1).toNat)
              case atStart => exact ⟨0, (M : Int) - 1, Nat.zero_le _, Lib.hid (by omega), by omega, by omega, rfl, Lib.hid ⟨rfl, .inl ⟨rfl, rfl⟩⟩, Below.refl _ _⟩
              case round =>
                obtain ⟨k, z, hk, Hz, hz1', hz2', rfl, hown, hb⟩ := hrel
                by_cases hlt : 0 ≤ z
                · obtain ⟨j, rfl⟩ := Int.eq_ofNat_of_zero_le hlt
                  have hz := Hz.out
                  have hjD : j < D.length := by rw [hDl.out]; omega
                  have hkD : k < D.length := by rw [hDl.out]; omega
                  obtain ⟨b3, off3, rfl, hbs3, c2, c3⟩ := tpts_pr HP3.out hjD
                  have hq := HDc.out j hjD
                  have hsn := tmir_snoc (L := (X : Rat)) hkD
                  rw [show D.length - 1 - k = j by rw [hDl.out]; omega] at hsn
                  obtain ⟨q, hqe⟩ : ∃ q, q = D.getD j 0 := ⟨_, rfl⟩
                  rw [← hqe] at c2 c3 hq hsn
                  obtain ⟨V, hV⟩ : ∃ V, V = (X : Rat) - q := ⟨_, rfl⟩
                  rw [← hV] at hsn
                  have HSub : Hid (∀ w, Calls Try.prog 40 #[.agg #[.int .i64 X, .int .i64 1], .agg #[.int .i64 q.num, .int .i64 q.den]] w fun e w' => e = .returned (Fr V) ∧ Below w.heap.size w w') := Lib.hid (by rw [hV]; exact fun w => rsub_q (X : Rat) q w hq.1)
                  have Hsn := Lib.hid hsn
                  have y5 : ¬ (q.den : Int) < 1 := by have := q.den_pos; omega
                  have y6 : ¬ (1000 : Int) < (q.den : Int) := by have := hq.2; omega
                  replace c2 := keep_cell hb c2
                  replace c3 := keep_cell hb c3
                  have j1 : (j : Int) < (M : Int) := by omega
                  have hk8 : k < 8 := by omega
                  have hkM : k + 1 ≤ M := by omega
                  have Hz2 : Hid ((j : Int) - 1 = (M : Int) - 1 - ((k + 1 : Nat) : Int)) := Lib.hid (by omega)
                  have hj8 : (j : Int) ≤ 8 := by omega
                  have e1 : IntKind.i64.wrap ((j : Int) - 1) = (j : Int) - 1 := IntWalk.i64_in _ (by omega)
                  clear hqe hsn hV hz Hz hq
                  have hs := hb.size
                  go_upto_region 45 with fail
                  refine wp_region_held_drew (S := fun w' => w'.cell? ⟨b3, off3 + j * 2, none⟩ = some (.int .i64 q.num) ∧ w'.cell? ⟨b3, off3 + j * 2 + 1, none⟩ = some (.int .i64 q.den)) (by kernel_rfl) ⟨c2, c3⟩ (fun hHeld => ?_)
                  refine wpAnyH_take (i := 0) (v := u26) rfl (by kernel_rfl) (by kernel_rfl) (by kernel_rfl) (fun _ _ _ h => h) (Or.inl ⟨by rfl, fun w hSw => ?_⟩) (by assumption) ?_
                  · (try dsimp only at hSw); go_simp
                  try simp only [List.getElem_toArray, List.getElem_cons_zero, Act.put, List.setIfInBounds_toArray, List.set_cons_zero, List.set_cons_succ]
                  refine wpAnyH_take (i := 1) (v := .int .i64 X) rfl (by kernel_rfl) (by kernel_rfl) (by kernel_rfl) (fun _ _ _ h => h) (Or.inl ⟨by rfl, fun w hSw => ?_⟩) (by assumption) ?_
                  · (try dsimp only at hSw); go_simp
                  try simp only [List.getElem_toArray, List.getElem_cons_zero, List.getElem_cons_succ, Act.put, List.setIfInBounds_toArray, List.set_cons_zero, List.set_cons_succ]
                  refine wpAnyH_take (i := 3) (v := .slice (some ⟨b3, off3, none⟩) M cp3) rfl (by kernel_rfl) (by kernel_rfl) (by kernel_rfl) (fun _ _ _ h => h) (Or.inl ⟨by rfl, fun w hSw => ?_⟩) (by assumption) ?_
                  · (try dsimp only at hSw); go_simp
                  try simp only [List.getElem_toArray, List.getElem_cons_zero, List.getElem_cons_succ, Act.put, List.setIfInBounds_toArray, List.set_cons_zero, List.set_cons_succ]
                  refine wpAnyH_take (i := 4) (v := .int .i64 j) rfl (by kernel_rfl) (by kernel_rfl) (by kernel_rfl) (fun _ _ _ h => h) (Or.inl ⟨by rfl, fun w hSw => ?_⟩) (by assumption) ?_
                  · (try dsimp only at hSw); go_simp
                  try simp only [List.getElem_toArray, List.getElem_cons_zero, List.getElem_cons_succ, Act.put, List.setIfInBounds_toArray, List.set_cons_zero, List.set_cons_succ]
                  refine wpAnyH_take (i := 5) (v := .pointer (some ⟨b3, off3 + j * 2, none⟩)) rfl (by kernel_rfl) (by kernel_rfl) (by kernel_rfl) (fun _ _ _ h => h) (Or.inl ⟨by rfl, fun w hSw => ?_⟩) (by assumption) ?_
                  · (try dsimp only at hSw); go_simp
                  try simp only [List.getElem_toArray, List.getElem_cons_zero, List.getElem_cons_succ, Act.put, List.setIfInBounds_toArray, List.set_cons_zero, List.set_cons_succ]
                  refine wpAnyH_take (i := 6) (v := Fr q) rfl (by kernel_rfl) (by kernel_rfl) (by kernel_rfl) (fun _ _ _ h => h) (Or.inl ⟨by rfl, fun w hSw => ?_⟩) (by assumption) ?_
                  · (try dsimp only at hSw); go_simp
                  try simp only [List.getElem_toArray, List.getElem_cons_zero, List.getElem_cons_succ, Act.put, List.setIfInBounds_toArray, List.set_cons_zero, List.set_cons_succ]
                  refine wpAnyH_ready (rs := [2]) (by kernel_rfl) (by simp) ?_
                  refine AllReadyH.cons rfl (fun K hK => ?_) AllReadyH.nil
                  go_simp
                  go_at_call 41
                  refine (twhole X _).mono ?_
                  rintro e wa ⟨rfl, hbwa⟩
                  have hbx := (below_drewN (Below.refl _ wr) 1).trans (hbwa.mono (Nat.le_refl _))
                  have ka := And.intro (keep_cell hbwa c2) (keep_cell hbwa c3)
                  (try dsimp only)
                  refine hK.out _ _ ka (fun hHeld => ?_)
                  clear hK K
                  try simp only [List.getElem_toArray, List.getElem_cons_zero, List.getElem_cons_succ, Act.put, List.setIfInBounds_toArray, List.set_cons_zero, List.set_cons_succ]
                  refine wpAnyH_ready (rs := [7]) (by kernel_rfl) (by simp) ?_
                  refine AllReadyH.cons rfl (fun K hK => ?_) AllReadyH.nil
                  go_simp
                  go_at_call 40
                  refine (HSub.out _).mono ?_
                  rintro e wb ⟨rfl, hbwb⟩
                  have kb := And.intro (keep_cell hbwb ka.1) (keep_cell hbwb ka.2)
                  have hbY := hbx.trans (hbwb.mono hbx.size)
                  have hb4 := hb.trans (hbY.mono hs)
                  have ho2 := Lib.hid (own_below hown.out hbY)
                  have hs4 := hb4.size
                  (try dsimp only)
                  refine hK.out _ _ kb (fun hHeld => ?_)
                  clear hK K
                  try simp only [List.getElem_toArray, List.getElem_cons_zero, List.getElem_cons_succ, Act.put, List.setIfInBounds_toArray, List.set_cons_zero, List.set_cons_succ]
                  refine wpAnyH_ready (rs := [8]) (by kernel_rfl) (by simp) ?_
                  refine AllReadyH.cons rfl (fun K hK => ?_) AllReadyH.nil
                  go_simp
                  have hAl := (Below.refl _ wb).alloc (Nat.le_refl _) (.cells #[.int .i64 V.num, .int .i64 V.den] 29)
                  have kc := And.intro (keep_cell hAl kb.1) (keep_cell hAl kb.2)
                  (try dsimp only)
                  refine hK.out _ _ kc (fun hHeld => ?_)
                  clear hK K
                  try simp only [List.getElem_toArray, List.getElem_cons_zero, List.getElem_cons_succ, Act.put, List.setIfInBounds_toArray, List.set_cons_zero, List.set_cons_succ]
                  refine wpAnyH_ready (rs := [9]) (by kernel_rfl) (by simp) ?_
                  refine AllReadyH.cons rfl (fun K hK => ?_) AllReadyH.nil
                  refine step_append_lies _ (by rfl) _ _ _ (by rfl) y15.heap.size 29 i1 _ 2 16 Try.underlying39 hi1 hy0 hy1 hy2 rfl (by omega) _ k _ (by rfl) (ho2.out.alloc _) ⟨wb.heap.size, 0, none⟩ 1 1 [.int .i64 V.num, .int .i64 V.den] (by rfl) (by rfl) (World.news_of_block (cs := #[.int .i64 V.num, .int .i64 V.den]) (t := 29) (fr := (0, 0)) (heap_alloc_new wb _)) (by simp [Value.oneCell']) (by omega) (by unfold maxLen; omega) (by omega) (by simp; omega) (wb.heap.size + 1) (by simp) ?_
                  intro gg cap5 w5 hown1 hgrow hat hlt5
                  have hb5 : Below y15.heap.size y15 w5 := (hb4.alloc hs4 _).grown hgrow (by simp; omega) (fun q hq => (ho2.out.lt _ hq).1)
                  have hb3b : b3 < (wb.alloc (.cells #[.int .i64 V.num, .int .i64 V.den] 29)).heap.size := by simp; omega
                  have hfar : ∀ o, w5.cell? ⟨b3, o, none⟩ = (wb.alloc (.cells #[.int .i64 V.num, .int .i64 V.den] 29)).cell? ⟨b3, o, none⟩ := fun o => hgrow.cell_far _ hb3b (fun h => absurd (ho2.out.lt b3 h.symm).1 (by omega))
                  have kd := And.intro ((hfar _).trans kc.1) ((hfar _).trans kc.2)
                  have Ho5 : Hid (w5.ownsRow y15.heap.size 29 2 (.slice (some ⟨gg, 0, none⟩) (k + 1) cap5) (k + 1) (flat2 (((D.reverse.map fun q => (X : Rat) - q).take (k + 1)).map pr))) := Lib.hid (by rw [Hsn.out]; exact hown1)
                  (try dsimp only)
                  refine hK.out _ _ kd (fun hHeld => ?_)
                  clear hK K hown1 hgrow hat hfar hlt5 hAl kc kb ka kd hbx hbY hb4 ho2 hbwa hbwb
                  try simp only [List.getElem_toArray, List.getElem_cons_zero, List.getElem_cons_succ, Act.put, List.setIfInBounds_toArray, List.set_cons_zero, List.set_cons_succ]
                  refine wpAnyH_take (i := 10) (v := .slice (some ⟨gg, 0, none⟩) (k + 1) cap5) rfl (by kernel_rfl) (by kernel_rfl) (by kernel_rfl) (fun _ _ _ h => h) (Or.inl ⟨by rfl, fun w hSw => ?_⟩) (by assumption) ?_
                  · (try dsimp only at hSw); go_simp
                  try simp only [List.getElem_toArray, List.getElem_cons_zero, List.getElem_cons_succ, Act.put, List.setIfInBounds_toArray, List.set_cons_zero, List.set_cons_succ]
                  refine wpAnyH_done (by kernel_rfl) ?_ _
                  go_wp2
                  go_roundw
                  case rel => exact ⟨k + 1, (j : Int) - 1, hkM, Hz2, by omega, by omega, by go_num, Ho5, hb5⟩
                  case measure => simp [intOf]
                · have hz := Hz.out
                  have hkM : k = M := by omega
                  have ho := hown.out
                  have hml : (D.reverse.map fun q => (X : Rat) - q).length = M := by rw [List.length_map, List.length_reverse, hDl.out]
                  rw [hkM, ← hml, List.take_length] at ho
                  obtain ⟨ao5, cap5, rfl, hcap5, hF5⟩ := frs_of_own ho rfl
                  rw [hml] at hcap5 ⊢
                  have Hml := Lib.hid hml
                  have hp := HP.out.below hb
                  have hI := HI.out.below hb
                  have hB := HBB.out.trans (hb.mono HBB.out.size)
                  have HF5 : Hid (Pts wr ao5 ((D.reverse.map fun q => (X : Rat) - q).map pr)) := Lib.hid hF5
                  have hnum : Hid (∀ c ∈ (D.reverse.map fun q => (X : Rat) - q).map pr, c.1 ≤ 9223372036854775807) := Lib.hid (tmnum hDm.out hX2)
                  clear ho hown hkM hz hb hml hF5
                  go_wp2_with fail
                  refine (CheckCut_any l ps _ _ _ _ _ _ _ _ _ _ _ hp Hn.out hn hI Hm.out hm HF5.out (by rw [List.length_map, Hml.out]) (by omega) hnum.out).mono ?_
                  rintro e y16 ⟨rfl, hb⟩
                  rw [HMok.out]
                  go_wp2
                  go_ret
                  exact ⟨rfl, hB.trans (hb.mono hB.size)⟩
    · obtain ⟨a1, cp1, rfl, -, P1⟩ := M1.pts
      rw [if_neg (code_ne hC0)]
      go_wp2
      go_ret
      exact ⟨rfl, hB⟩
  · go_wp2_with fail
    refine (validate_any l _ _ _ _ hp Hn.out hn).mono ?_
    rintro e w6 ⟨rfl, hb⟩
    rw [HV.out]
    go_wp2
    go_ret
    exact ⟨rfl, hB.trans (hb.mono hB.size)⟩
end Go.Proofs.Ytmajcccdbhbkfaa
