import Derived.Test.YtemlfklipkpacaaNr
import Derived.Test.YtemlfklipkpacaaLc
import Derived.Deep.Strs
/- The law KnifeWithout: a field without an owner; the others value it as before. -/
namespace Go.Proofs.Ytemlfklipkpacaa
open Go.Joins Go.Deep Go.ChangeShapes Go.WideShapes Go.ChangeAt Go.RowKit

theorem array5 {α : Type} {a : Array α} (h : a.size = 5) : ∃ x0 x1 x2 x3 x4, a = #[x0, x1, x2, x3, x4] := by
  obtain ⟨l⟩ := a
  match l, h with
  | [x0, x1, x2, x3, x4], _ => exact ⟨x0, x1, x2, x3, x4, rfl⟩
set_option maxRecDepth 100000 in
/-- An argument that is an owner and two places. -/
theorem open_asked {H : Type} {enc : TypeId × Value → H} {w : World} {v : Value} {d : DataW H} {p : List MemPlace} (hv : Value.okWide Try.prog w .any 0 76 v)
    (h : DataW.Trod enc Try.prog w 0 (fun _ => true) true 76 v d p) : ∃ o n1 d1 n2 d2 : Int, v = .agg #[.int .i64 o, .int .i64 n1, .int .i64 d1, .int .i64 n2, .int .i64 d2] ∧ Rng o ∧ Rng n1 ∧ Rng d1 ∧ Rng n2 ∧ Rng d2 := by
  obtain ⟨cs, rfl, hsz⟩ := okWide_struct Try.underlying76 hv
  obtain ⟨c0, c1, c2, c3, c4, rfl⟩ := array5 (hsz.trans (by kernel_rfl))
  obtain ⟨fuel, hf⟩ := h
  obtain ⟨y0, y1, y2, n2, _, _, h0, h1, h2⟩ := trod_struct3 Try.underlying76 hf
  have hC : Try.prog.cellsOf 29 = 2 := by kernel_rfl
  have hD : Try.prog.cellsOf 3 = 1 := by kernel_rfl
  dsimp only at h0 h1 h2
  rw [hC] at h1 h2
  rw [hD] at h0
  obtain ⟨o, ho, _, wo⟩ := DataW.trod_int (cs := [c0]) Try.underlying3 (by simpa [Value.cells] using h0)
  simp only [List.cons.injEq, and_true] at ho
  obtain ⟨a, b, rfl, rfl, ra, rb⟩ := rat_cells (c0 := c1) (c1 := c2) (by simpa [Value.cells] using h1)
  obtain ⟨c, d, rfl, rfl, rc, rd⟩ := rat_cells (c0 := c3) (c1 := c4) (by simpa [Value.cells] using h2)
  exact ⟨o, a, b, c, d, by rw [ho], rng_of wo, ra, rb, rc, rd⟩
theorem lng_no {nL nV : Nat} {V : List (List Int)} (h : Kn.lng nL nV V = false) : nL ≤ 100 ∧ nV ≤ 100 ∧ ∀ r ∈ V, r.length ≤ 100 := by
  unfold Kn.lng at h
  rw [Bool.or_eq_false_iff, Bool.or_eq_false_iff, decide_eq_false_iff_not, decide_eq_false_iff_not, List.any_eq_false] at h
  refine ⟨by omega, by omega, fun r hr => ?_⟩
  have := h.2.2 r hr
  simpa using this
theorem ok_erase {L : List Int} {V : List (List Int)} (hok : Kn.Ok L V) {o : Nat} (ho : o < V.length) (h2 : V.length ≠ 1) : Kn.Ok L (V.eraseIdx o) := by
  have v1 := hok.v1
  have v5 := hok.v5
  have hl := List.length_eraseIdx_of_lt ho
  exact ⟨hok.l1, hok.l6, by omega, by omega, hok.ln, fun r hr => hok.row r (List.mem_of_mem_eraseIdx hr)⟩
theorem worth_erase {L : List Int} {V : List (List Int)} (hok : Kn.Ok L V) {o k j : Nat} (ho : o < V.length) (hk : k < V.length) (hko : k ≠ o) (hj : j = if k < o then k else k - 1) (n1 d1 n2 d2 : Int) :
    Kn.wcode L (V.eraseIdx o) j n1 d1 n2 d2 = Kn.wcode L V k n1 d1 n2 d2 ∧ Kn.wval L (V.eraseIdx o) j n1 d1 n2 d2 = Kn.wval L V k n1 d1 n2 d2 := by
  have h2 : V.length ≠ 1 := by omega
  have hok2 := ok_erase hok ho h2
  have hl := List.length_eraseIdx_of_lt ho
  have e1 : Kn.ocode L V k = 0 := by
    unfold Kn.ocode Kn.isO
    rw [Kn.val_ok.2 hok, if_neg (by simp), decide_eq_true (by omega), decide_eq_true (by omega)]
    rfl
  have hjl : j < (V.eraseIdx o).length := by rw [hj]; split <;> omega
  have e2 : Kn.ocode L (V.eraseIdx o) j = 0 := by
    unfold Kn.ocode Kn.isO
    rw [Kn.val_ok.2 hok2, if_neg (by simp), decide_eq_true (by omega), decide_eq_true (by omega)]
    rfl
  have eg : (V.eraseIdx o).getD j [] = V.getD k [] := by
    have e : (if j < o then j else j + 1) = k := by
      rcases Nat.lt_or_ge k o with h | h
      · rw [if_pos h] at hj
        rw [hj, if_pos h]
      · rw [if_neg (by omega)] at hj
        rw [if_neg (by omega)]
        omega
    rw [getD_erase, e]
  have ez : Kn.Z L (V.eraseIdx o) j = Kn.Z L V k := by unfold Kn.Z; rw [eg]
  have ec : Kn.wcode L (V.eraseIdx o) j n1 d1 n2 d2 = Kn.wcode L V k n1 d1 n2 d2 := by unfold Kn.wcode; rw [e1, e2]
  refine ⟨ec, ?_⟩
  unfold Kn.wval
  rw [ec]
  simp only [Int.toNat_natCast]
  rw [ez]

set_option maxRecDepth 100000 in
set_option maxHeartbeats 8000000 in
theorem knifeWithout_any (L : List Int) (aoL : Option Addr) (nL cL : Nat) (V : List (List Int)) (aoV : Option Addr) (nV cV : Nat) (o n1 d1 n2 d2 : Int) (w : World) (hf : Fld w aoL nL aoV nV L V) (rn1 : Rng n1) (rn2 : Rng n2) :
    Calls Try.prog 13 #[.agg #[.slice aoL nL cL, .slice aoV nV cV], .agg #[.int .i64 o, .int .i64 n1, .int .i64 d1, .int .i64 n2, .int .i64 d2]] w fun e w' => e = .returned (.bool true) ∧ Below w.heap.size w w' := by
  have HnL := Lib.hid hf.nl
  have HnV := Lib.hid hf.nv
  have hA := below_alloc2 w (.cells #[.slice aoL nL cL, .slice aoV nV cV] 57) (.cells #[.int .i64 o, .int .i64 n1, .int .i64 d1, .int .i64 n2, .int .i64 d2] 76)
  have rf := heap_alloc2_old w (.cells #[.slice aoL nL cL, .slice aoV nV cV] 57) (.cells #[.int .i64 o, .int .i64 n1, .int .i64 d1, .int .i64 n2, .int .i64 d2] 76)
  have rx := heap_alloc2_new w (.cells #[.slice aoL nL cL, .slice aoV nV cV] 57) (.cells #[.int .i64 o, .int .i64 n1, .int .i64 d1, .int .i64 n2, .int .i64 d2] 76)
  go_enter Try.func13, Try.ntmps13
  go_upto_region 1 with fail
  generalize (w.alloc (.cells #[.slice aoL nL cL, .slice aoV nV cV] 57)).alloc (.cells #[.int .i64 o, .int .i64 n1, .int .i64 d1, .int .i64 n2, .int .i64 d2] 76) = W0 at hA rf rx ⊢
  obtain ⟨G, hG⟩ : ∃ g, g = w.heap.size := ⟨_, rfl⟩
  rw [← hG] at rf rx ⊢
  have HG := Lib.hid hG
  clear hG
  replace hf := hf.below hA
  obtain ⟨⟨x0, x1⟩, -, -⟩ := row_fr rf
  go_wp2_with fail
  refine ((klong_any L V _ _ _ _ _ _ W0 hf)).mono ?_
  rintro e w1 ⟨rfl, hbb⟩
  replace hf := hf.below hbb
  replace rf := heap_keep hbb rf
  replace rx := heap_keep hbb rx
  replace hA := hA.trans (hbb.mono hA.size)
  clear hbb
  clear x0 x1
  cases hlg : Kn.lng nL nV V with
  | true =>
    go_wp2_with fail
    refine ((kknown_any w1)).mono ?_
    rintro e w2 ⟨rfl, hbb⟩
    replace hf := hf.below hbb
    replace rf := heap_keep hbb rf
    replace rx := heap_keep hbb rx
    replace hA := hA.trans (hbb.mono hA.size)
    clear hbb
    go_wp2_with fail
    go_ret
    exact ⟨rfl, hA⟩
  | false =>
    obtain ⟨hl, hv, hr⟩ := lng_no hlg
    clear hlg
    obtain ⟨⟨x0, x1⟩, -, -⟩ := row_fr rf
    have u0 := cell_of_row w1 (G + 1) 0 _ _ _ rx
    simp at u0
    obtain ⟨C, hC⟩ : ∃ c, Kn.wocode L V o = c := ⟨_, rfl⟩
    obtain ⟨⟨L2, V2⟩, hF⟩ : ∃ f, Kn.woF L V o = f := ⟨_, rfl⟩
    have HF : Hid (L2.length ≤ 100 ∧ V2.length ≤ 100 ∧ (∀ r ∈ V2, r.length ≤ 100)) := Lib.hid (by
      unfold Kn.woF at hF
      split at hF
      · cases hF
        exact ⟨by rw [← HnL.out]; exact hl, Nat.le_trans (List.length_eraseIdx_le _ _) (by rw [← HnV.out]; exact hv), fun r h => hr r (List.mem_of_mem_eraseIdx h)⟩
      · cases hF
        exact ⟨by simp, by simp, fun r h => by cases h⟩)
    have HC := Lib.hid (And.intro hC hF)
    have hK1 := kWithout_any L V o aoL nL cL aoV nV cV w1 hf hl hv hr
    have hK2 := fun w' (hf' : Fld w' aoL nL aoV nV L V) => sWithout_any L V o aoL nL cL aoV nV cV w' hf' hl hv hr
    rw [hC, hF] at hK1 hK2
    have HK2 := Lib.hid hK2
    clear hC hF hK2
    go_wp2_with fail
    refine hK1.mono ?_
    rintro e w2 ⟨⟨vL, vV, rfl, oL, oT⟩, hbb⟩
    obtain ⟨pL, pcL, rfl, -, IL⟩ := own_ints oL rfl
    obtain ⟨pV, pcV, rfl, -, TV⟩ := otab_tab oT
    have hg : Fld w2 pL L2.length pV V2.length L2 V2 := ⟨IL, TV, rfl, rfl⟩
    obtain ⟨mL, hmL⟩ : ∃ m, m = L2.length := ⟨_, rfl⟩
    obtain ⟨mV, hmV⟩ : ∃ m, m = V2.length := ⟨_, rfl⟩
    rw [← hmL, ← hmV] at hg ⊢
    have HmL := Lib.hid (And.intro hmL hmV)
    clear hmL hmV
    replace hf := hf.below hbb
    replace rf := heap_keep hbb rf
    replace rx := heap_keep hbb rx
    replace hA := hA.trans (hbb.mono hA.size)
    clear hbb x0 x1 u0 oL oT IL TV hK1
    go_upto_region 4 with fail
    have r5 := heap_alloc_new w2 (.cells #[.slice pL mL pcL, .slice pV mV pcV] 57)
    have hal := (Below.refl w2.heap.size w2).alloc (Nat.le_refl _) (.cells #[.slice pL mL pcL, .slice pV mV pcV] 57)
    replace hf := hf.below hal
    replace rf := heap_keep hal rf
    replace rx := heap_keep hal rx
    replace hA := hA.trans (hal.mono hA.size)
    replace hg := hg.below hal
    clear hal
    generalize w2.alloc (.cells #[.slice pL mL pcL, .slice pV mV pcV] 57) = W4 at r5 hf rf rx hA hg ⊢
    obtain ⟨G5, hG5⟩ : ∃ g, g = w2.heap.size := ⟨_, rfl⟩
    rw [← hG5] at r5 ⊢
    clear hG5
    obtain ⟨⟨x0, x1⟩, -, -⟩ := row_fr rf
    have u0 := cell_of_row W4 (G + 1) 0 _ _ _ rx
    simp at u0
    go_wp2_with fail
    refine (HK2.out W4 hf).mono ?_
    rintro e w5 ⟨⟨vL, vV, rfl, oL, oT⟩, hbb⟩
    obtain ⟨qL, qcL, rfl, -, IL⟩ := own_ints oL rfl
    obtain ⟨qV, qcV, rfl, -, TV⟩ := otab_tab oT
    have hk : Fld w5 qL L2.length qV V2.length L2 V2 := ⟨IL, TV, rfl, rfl⟩
    rw [← HmL.out.1, ← HmL.out.2] at hk ⊢
    replace hf := hf.below hbb
    replace rf := heap_keep hbb rf
    replace rx := heap_keep hbb rx
    replace hA := hA.trans (hbb.mono hA.size)
    replace r5 := heap_keep hbb r5
    replace hg := hg.below hbb
    clear hbb x0 x1 u0 oL oT IL TV HK2
    go_upto_region 5 with fail
    have r7 := heap_alloc_new w5 (.cells #[.slice qL mL qcL, .slice qV mV qcV] 57)
    have hal := (Below.refl w5.heap.size w5).alloc (Nat.le_refl _) (.cells #[.slice qL mL qcL, .slice qV mV qcV] 57)
    replace hf := hf.below hal
    replace rf := heap_keep hal rf
    replace rx := heap_keep hal rx
    replace hA := hA.trans (hal.mono hA.size)
    replace r5 := heap_keep hal r5
    replace hg := hg.below hal
    replace hk := hk.below hal
    clear hal
    generalize w5.alloc (.cells #[.slice qL mL qcL, .slice qV mV qcV] 57) = W6 at r7 r5 hf rf rx hA hg hk ⊢
    obtain ⟨G7, hG7⟩ : ∃ g, g = w5.heap.size := ⟨_, rfl⟩
    rw [← hG7] at r7 ⊢
    clear hG7
    obtain ⟨⟨y0, y1⟩, -, -⟩ := row_fr r5
    obtain ⟨⟨z0, z1⟩, -, -⟩ := row_fr r7
    have e9 : (C != C) = false := by simp
    have hmL9 : mL ≤ 100 := by rw [HmL.out.1]; exact HF.out.1
    have hmV9 : mV ≤ 100 := by rw [HmL.out.2]; exact HF.out.2.1
    go_wp2_with fail
    refine (sSame_yes L2 V2 pL mL pcL pV mV pcV qL qcL qV qcV W6 hg hk hmL9 hmV9 HF.out.2.2).mono ?_
    rintro e w7 ⟨rfl, hbb⟩
    replace hf := hf.below hbb
    replace rf := heap_keep hbb rf
    replace rx := heap_keep hbb rx
    replace hA := hA.trans (hbb.mono hA.size)
    replace r5 := heap_keep hbb r5
    replace hg := hg.below hbb
    clear hbb y0 y1 z0 z1 r7 hk e9
    by_cases hz : C = 0
    · subst hz
      have hoc : Kn.ocode L V o = 0 ∧ V.length ≠ 1 := by
        have h := HC.out.1
        unfold Kn.wocode at h
        split at h
        · rename_i h1; exact absurd h h1
        · rename_i h1
          split at h
          · cases h
          · rename_i h2; exact ⟨by simpa using h1, h2⟩
      obtain ⟨hok, k0, hko, hk0⟩ := owner_ok hoc.1
      subst hko
      have hLV : L2 = L ∧ V2 = V.eraseIdx k0 := by
        have h := HC.out.2
        unfold Kn.woF at h
        rw [if_pos HC.out.1, Int.toNat_natCast] at h
        cases h
        exact ⟨rfl, rfl⟩
      obtain ⟨rfl, rfl⟩ := hLV
      have hmm : mV + 1 = nV := by have := HmL.out.2; have := List.length_eraseIdx_of_lt hk0; have := HnV.out; omega
      have Hmm := Lib.hid hmm
      have hn5 : nV ≤ 5 := by have := HnV.out; have := hok.v5; omega
      have hk0n : k0 < nV := by have := HnV.out; omega
      have HrE := HF.out.2.2
      clear hmm hoc
      go_wp2_with fail
      go_loopw [9] (fun i wr => ∃ k : Nat, k ≤ nV ∧ i = .int .i64 k ∧ Below w7.heap.size w7 wr) (fun i _ => nV - (intOf i).toNat)
      case atStart => exact ⟨0, Nat.zero_le _, rfl, Below.refl _ _⟩
      case round =>
        obtain ⟨k, hk, rfl, hb⟩ := hrel
        have rfr := heap_keep hb rf
        have rxr := heap_keep hb rx
        have r5r := heap_keep hb r5
        have hfr := hf.below hb
        have hgr := hg.below hb
        obtain ⟨⟨x0, x1⟩, -, -⟩ := row_fr rfr
        have hc := fun j => cell_of_row wr (G + 1) j _ _ _ rxr
        have u0 := hc 0
        have u1 := hc 1
        have u2 := hc 2
        have u3 := hc 3
        have u4 := hc 4
        simp at u0 u1 u2 u3 u4
        clear hc
        by_cases hlt : k < nV
        · have i1 : (k : Int) < (nV : Int) := by omega
          have hkV : k < V.length := by have := HnV.out; omega
          by_cases hkk : k = k0
          · have q2 : ((k : Int) == (k0 : Int)) = true := by simp; omega
            clear hkk
            go_wp2_with fail
            go_roundw
            case rel => exact ⟨k + 1, by omega, by go_num, hb⟩
            case measure => simp [intOf]; omega
          · have q2 : ((k : Int) == (k0 : Int)) = false := by simp; omega
            obtain ⟨j, hj⟩ : ∃ j, j = if k < k0 then k else k - 1 := ⟨_, rfl⟩
            obtain ⟨m1, m2⟩ := worth_erase hok hk0 hkV hkk hj n1 d1 n2 d2
            have hKf := fun w' (hb' : Below wr.heap.size wr w') => kWorth_any L2 V k n1 d1 n2 d2 aoL nL cL aoV nV cV w' (hfr.below hb') hl hv hr rn1.2 rn2.2
            have hKg := fun w' (hb' : Below wr.heap.size wr w') => kWorth_any L2 (V.eraseIdx k0) j n1 d1 n2 d2 pL mL pcL pV mV pcV w' (hgr.below hb') hmL9 hmV9 HrE rn1.2 rn2.2
            rw [m1, m2] at hKg
            obtain ⟨x, y, hxy⟩ : ∃ x y : Int, Kn.wval L2 V k n1 d1 n2 d2 = .agg #[.int .i64 x, .int .i64 y] := by unfold Kn.wval; exact frOr_pair _ _
            rw [hxy] at hKf hKg
            generalize Kn.wcode L2 V k n1 d1 n2 d2 = D at hKf hKg
            have HKf := Lib.hid hKf
            have HKg := Lib.hid hKg
            clear hxy m1 m2 hKf hKg
            rcases Nat.lt_or_ge k k0 with h3 | h3
            · rw [if_pos h3] at hj
              subst hj
              have q3 : decide ((k0 : Int) < (j : Int)) = false := by rw [decide_eq_false_iff_not]; omega
              have q4 : decide (k0 < j) = false := by rw [decide_eq_false_iff_not]; omega
              clear h3 hkk
              go_wp2_with fail
              refine (HKf.out wr (Below.refl _ _)).mono ?_
              rintro e z1 ⟨rfl, hb1⟩
              clear x0 x1 u0 u1 u2 u3 u4
              go_upto_region 17 with fail
              have r11 := heap_alloc_new z1 (.cells #[.int .i64 x, .int .i64 y] 29)
              have hB1 := hb1.trans (((Below.refl z1.heap.size z1).alloc (Nat.le_refl _) (.cells #[.int .i64 x, .int .i64 y] 29)).mono hb1.size)
              clear hb1
              generalize z1.alloc (.cells #[.int .i64 x, .int .i64 y] 29) = Z2 at r11 hB1 ⊢
              obtain ⟨G11, hG11⟩ : ∃ g, g = z1.heap.size := ⟨_, rfl⟩
              rw [← hG11] at r11 ⊢
              clear hG11
              obtain ⟨⟨y0, y1⟩, -, -⟩ := row_fr (heap_keep hB1 r5r)
              have hc := fun j => cell_of_row Z2 (G + 1) j _ _ _ (heap_keep hB1 rxr)
              have u0 := hc 0
              have u1 := hc 1
              have u2 := hc 2
              have u3 := hc 3
              have u4 := hc 4
              simp at u0 u1 u2 u3 u4
              clear hc
              go_wp2_with fail
              refine (HKg.out Z2 hB1).mono ?_
              rintro e z3 ⟨rfl, hb3⟩
              replace r11 := heap_keep hb3 r11
              clear y0 y1 u0 u1 u2 u3 u4
              go_upto_region 18 with fail
              have r13 := heap_alloc_new z3 (.cells #[.int .i64 x, .int .i64 y] 29)
              have hal := (Below.refl z3.heap.size z3).alloc (Nat.le_refl _) (.cells #[.int .i64 x, .int .i64 y] 29)
              replace r11 := heap_keep hal r11
              have hB3 := hB1.trans ((hb3.trans (hal.mono hb3.size)).mono hB1.size)
              have hb9 := hb.trans (hB3.mono hb.size)
              clear hal hb3 hB1 hB3
              generalize z3.alloc (.cells #[.int .i64 x, .int .i64 y] 29) = Z4 at r11 r13 hb9 ⊢
              obtain ⟨⟨y0, y1⟩, -, -⟩ := row_fr r11
              obtain ⟨⟨t0, t1⟩, -, -⟩ := row_fr r13
              have heq := run_neq_rt x y x y
              rw [decide_eq_true rfl, Bool.not_true] at heq
              have hDD : (D != D) = false := by simp
              go_wp2_with fail
              go_roundw
              case rel => exact ⟨j + 1, by omega, by go_num, hb9⟩
              case measure => simp [intOf]; omega
            · rw [if_neg (by omega)] at hj
              have q3 : decide ((k0 : Int) < (k : Int)) = true := by rw [decide_eq_true_iff]; omega
              have q4 : decide (k0 < k) = true := by rw [decide_eq_true_iff]; omega
              have ew : IntKind.i64.wrap ((k : Int) - 1) = (j : Int) := by rw [IntWalk.i64_in _ (by omega)]; omega
              clear h3 hkk hj
              go_wp2_with fail
              refine (HKf.out wr (Below.refl _ _)).mono ?_
              rintro e z1 ⟨rfl, hb1⟩
              clear x0 x1 u0 u1 u2 u3 u4
              go_upto_region 17 with fail
              have r11 := heap_alloc_new z1 (.cells #[.int .i64 x, .int .i64 y] 29)
              have hB1 := hb1.trans (((Below.refl z1.heap.size z1).alloc (Nat.le_refl _) (.cells #[.int .i64 x, .int .i64 y] 29)).mono hb1.size)
              clear hb1
              generalize z1.alloc (.cells #[.int .i64 x, .int .i64 y] 29) = Z2 at r11 hB1 ⊢
              obtain ⟨G11, hG11⟩ : ∃ g, g = z1.heap.size := ⟨_, rfl⟩
              rw [← hG11] at r11 ⊢
              clear hG11
              obtain ⟨⟨y0, y1⟩, -, -⟩ := row_fr (heap_keep hB1 r5r)
              have hc := fun j => cell_of_row Z2 (G + 1) j _ _ _ (heap_keep hB1 rxr)
              have u0 := hc 0
              have u1 := hc 1
              have u2 := hc 2
              have u3 := hc 3
              have u4 := hc 4
              simp at u0 u1 u2 u3 u4
              clear hc
              go_wp2_with fail
              refine (HKg.out Z2 hB1).mono ?_
              rintro e z3 ⟨rfl, hb3⟩
              replace r11 := heap_keep hb3 r11
              clear y0 y1 u0 u1 u2 u3 u4
              go_upto_region 18 with fail
              have r13 := heap_alloc_new z3 (.cells #[.int .i64 x, .int .i64 y] 29)
              have hal := (Below.refl z3.heap.size z3).alloc (Nat.le_refl _) (.cells #[.int .i64 x, .int .i64 y] 29)
              replace r11 := heap_keep hal r11
              have hB3 := hB1.trans ((hb3.trans (hal.mono hb3.size)).mono hB1.size)
              have hb9 := hb.trans (hB3.mono hb.size)
              clear hal hb3 hB1 hB3
              generalize z3.alloc (.cells #[.int .i64 x, .int .i64 y] 29) = Z4 at r11 r13 hb9 ⊢
              obtain ⟨⟨y0, y1⟩, -, -⟩ := row_fr r11
              obtain ⟨⟨t0, t1⟩, -, -⟩ := row_fr r13
              have heq := run_neq_rt x y x y
              rw [decide_eq_true rfl, Bool.not_true] at heq
              have hDD : (D != D) = false := by simp
              go_wp2_with fail
              go_roundw
              case rel => exact ⟨k + 1, by omega, by go_num, hb9⟩
              case measure => simp [intOf]; omega
        · have hk2 : k = nV := by omega
          have Hk := Lib.hid hk2
          have hAr := hA.trans (hb.mono hA.size)
          clear hk2
          go_wp2_with fail
          refine (kknown_any wr).mono ?_
          rintro e w8 ⟨rfl, hb1⟩
          go_wp2_with fail
          go_ret
          exact ⟨rfl, hAr.trans (hb1.mono hAr.size)⟩
    · have hne : (C != 0) = true := by simp [hz]
      go_wp2_with fail
      refine (kknown_any w7).mono ?_
      rintro e w8 ⟨rfl, hb1⟩
      go_wp2_with fail
      go_ret
      exact ⟨rfl, hA.trans (hb1.mono hA.size)⟩
end Go.Proofs.Ytemlfklipkpacaa
