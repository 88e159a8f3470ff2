import Derived.Test.YtmajcccdbhbkfaaPlm
import Derived.Test.YtmajcccdbhbkfaaBtp
namespace Go.Proofs.Ytmajcccdbhbkfaa
open Go.RowKit

theorem list_neI {k1 k2 : List Int} {k : Nat} (h1 : k < k1.length) (h2 : k < k2.length) (h : k1[k] ≠ k2[k]) : decide (k1 = k2) = false := by
  rw [decide_eq_false_iff_not]
  rintro rfl
  exact h rfl
set_option maxRecDepth 100000 in
set_option maxHeartbeats 1000000 in
theorem sameInts_any (u v : List Int) (ao : Option Addr) (n cap : Nat) (ao2 : Option Addr) (m cap2 : Nat) (w : World) (hI : Ints w ao u) (hln : n = u.length) (hI2 : Ints w ao2 v) (hlm : m = v.length) (hn : n ≤ 100000) (_ : m ≤ 100000) :
    Calls Try.prog 91 #[.slice ao n cap, .slice ao2 m cap2] w fun e w' => e = .returned (.bool (decide (u = v))) ∧ Below w.heap.size w w' := by
  have Hn := Lib.hid hln
  have Hm := Lib.hid hlm
  clear hln hlm
  by_cases hne : n = m
  · subst hne
    go_enter Try.func91, Try.ntmps91
    go_wp2
    go_loopw [5] (fun i wr => ∃ k : Nat, k ≤ n ∧ i = .int .i64 k ∧ Hid (∀ j, j < k → u.getD j 0 = v.getD j 0) ∧ Below w.heap.size w wr) (fun i _ => n - (intOf i).toNat)
    case atStart => exact ⟨0, Nat.zero_le _, rfl, Lib.hid (fun j hj => by omega), Below.refl _ _⟩
    case round =>
      obtain ⟨k, hk, rfl, hall, hb⟩ := hrel
      by_cases hlt : k < n
      · obtain ⟨ba, oa, rfl, ha, hca⟩ := hI.at (k := k) (by have := Hn.out; omega)
        obtain ⟨bb, ob, rfl, hbl, hcb⟩ := hI2.at (k := k) (by have := Hm.out; omega)
        replace hca := keep_cell hb hca
        replace hcb := keep_cell hb hcb
        have ku : k < u.length := by have := Hn.out; omega
        have kv : k < v.length := by have := Hm.out; omega
        have eu : u.getD k 0 = u[k] := by rw [List.getD_eq_getElem?_getD, List.getElem?_eq_getElem ku]; rfl
        have ev : v.getD k 0 = v[k] := by rw [List.getD_eq_getElem?_getD, List.getElem?_eq_getElem kv]; rfl
        have hnq := Lib.hid (fun h => list_neI ku kv h)
        rw [← eu, ← ev] at hnq
        obtain ⟨x, hx⟩ : ∃ x, x = u.getD k 0 := ⟨_, rfl⟩
        obtain ⟨y, hy⟩ : ∃ x, x = v.getD k 0 := ⟨_, rfl⟩
        rw [← hx] at hca hnq
        rw [← hy] at hcb hnq
        have HX := Lib.hid (And.intro hx hy)
        have i1 : (k : Int) < (n : Int) := by omega
        clear hx hy eu ev ku kv
        by_cases hyz : x = y
        · subst hyz
          go_wp2_with fail
          go_quiet (fail)
          go_wp2
          go_roundw
          case rel =>
            refine ⟨k + 1, by omega, by go_num, Lib.hid fun j hj => ?_, below_drewN hb _⟩
            by_cases e : j = k
            · subst e; rw [← HX.out.1, ← HX.out.2]
            · exact hall.out j (by omega)
          case measure => simp [intOf]; omega
        · have hyzb : (x != y) = true := by simpa using hyz
          have hR := Lib.hid (hnq.out hyz)
          clear hyz
          go_wp2_with fail
          go_quiet (fail)
          go_wp2
          go_ret
          exact ⟨ret_bool hR.out.symm, below_drewN hb _⟩
      · have hR : Hid (decide (u = v) = true) := Lib.hid (by
          rw [decide_eq_true_eq]
          apply List.ext_getElem (by rw [← Hn.out, ← Hm.out])
          intro i h1 h2
          have := hall.out i (by have := Hn.out; omega)
          rw [List.getD_eq_getElem?_getD, List.getElem?_eq_getElem h1, List.getD_eq_getElem?_getD, List.getElem?_eq_getElem h2] at this
          exact this)
        go_wp2
        go_ret
        exact ⟨ret_bool hR.out.symm, hb⟩
  · have hne2 : ((n : Int) != (m : Int)) = true := by simp; omega
    have hR : Hid (decide (u = v) = false) := Lib.hid (by
      rw [decide_eq_false_iff_not]
      rintro rfl
      exact hne (by rw [Hn.out, Hm.out]))
    clear hne
    go_enter Try.func91, Try.ntmps91
    go_wp2
    go_ret
    exact ⟨ret_bool hR.out.symm, Below.refl _ _⟩

set_option maxRecDepth 100000 in
set_option maxHeartbeats 1000000 in
theorem Same_any (f g : List (Int × Int)) (ao : Option Addr) (n cap : Nat) (ao2 : Option Addr) (m cap2 : Nat) (w : World) (hp : Pts w ao f) (hln : n = f.length) (hn : n ≤ 100000) (hp2 : Pts w ao2 g) (hlm : m = g.length) (hm : m ≤ 100000) :
    Calls Try.prog 49 #[.slice ao n cap, .slice ao2 m cap2] w fun e w' => e = .returned (.tuple #[.bool (Fl.sameB f g), .int .i64 (Fl.bothC f g)]) ∧ Below w.heap.size w w' := by
  have Hn := Lib.hid hln
  have Hm := Lib.hid hlm
  clear hln hlm
  have hB := Below.refl w.heap.size w
  obtain ⟨V, hV⟩ : ∃ v, Fl.bothC f g = v := ⟨_, rfl⟩
  have hV0 : V = 0 ∨ (V != 0) = true := by by_cases h : V = 0 <;> simp [h]
  have HV := Lib.hid hV
  clear hV
  go_enter Try.func49, Try.ntmps49
  go_wp2_with fail
  refine (validateBoth_any f g _ _ _ _ _ _ _ hp Hn.out hn hp2 Hm.out hm).mono ?_
  rintro e w1 ⟨rfl, hbb⟩
  replace hp := hp.below hbb
  replace hp2 := hp2.below hbb
  replace hB := hB.trans (hbb.mono hB.size)
  clear hbb
  rw [HV.out]
  rcases hV0 with rfl | hV0
  · obtain ⟨v1, v2⟩ := Fl.bothC_ok HV.out
    obtain ⟨⟨a1, a2⟩, hok⟩ := Fl.validate_ok.1 v1
    obtain ⟨⟨b1, b2⟩, hok2⟩ := Fl.validate_ok.1 v2
    have lf := Fl.len_bound hok
    have lg := Fl.len_bound hok2
    go_wp2_with fail
    refine (length_any f _ _ _ _ hp Hn.out hok a2).mono ?_
    rintro e w2 ⟨rfl, hbb⟩
    replace hp := hp.below hbb
    replace hp2 := hp2.below hbb
    replace hB := hB.trans (hbb.mono hB.size)
    clear hbb
    go_wp2_with fail
    refine (length_any g _ _ _ _ hp2 Hm.out hok2 b2).mono ?_
    rintro e w3 ⟨rfl, hbb⟩
    replace hp := hp.below hbb
    replace hp2 := hp2.below hbb
    replace hB := hB.trans (hbb.mono hB.size)
    clear hbb
    obtain ⟨X, hX⟩ : ∃ x, x = Fl.len f := ⟨_, rfl⟩
    obtain ⟨Y, hY⟩ : ∃ x, x = Fl.len g := ⟨_, rfl⟩
    rw [← hX, ← hY]
    have HXY := Lib.hid (And.intro hX hY)
    clear hX hY lf lg
    by_cases hxy : X = Y
    · subst hxy
      have hl : Fl.len f = Fl.len g := by rw [← HXY.out.1, ← HXY.out.2]
      have HC := Lib.hid HV.out
      have HL := Lib.hid hl
      have hpos := ovs_pos hok hok2 a1 b1
      have h36 := ovs_len36 a2 b2
      clear hl
      go_wp2_with fail
      refine (overlaps_any f g _ _ _ _ _ _ _ hp Hn.out hp2 Hm.out hok a2 hok2 b2 a1 b1).mono ?_
      rintro e w5 ⟨v5, rfl, hov, hbb⟩
      replace hB := hB.trans (hbb.mono hB.size)
      obtain ⟨O, hO⟩ : ∃ O, O = Fl.ovs (Fl.strips 0 f) (Fl.strips 0 g) := ⟨_, rfl⟩
      rw [← hO] at hov hpos h36
      obtain ⟨gb, cap5, rfl, -, hgl, hgc, hcells⟩ := own_cells hov hpos
      have HO := Lib.hid hO
      have Hc := Lib.hid hcells
      obtain ⟨N, hN⟩ : ∃ N, N = O.length := ⟨_, rfl⟩
      rw [← hN] at hgc h36 ⊢
      have HN := Lib.hid hN
      have hs5 := hB.size
      clear hov hbb hO hcells hN hpos hp hp2
      go_wp2_with fail
      go_loopw [24] (fun i wr => ∃ k : Nat, k ≤ N ∧ i = .int .i64 k ∧ Hid (∀ o ∈ O.take k, o.2.1 = o.2.2) ∧ Below w5.heap.size w5 wr) (fun i _ => N - (intOf i).toNat)
      case atStart => exact ⟨0, Nat.zero_le _, rfl, Lib.hid (fun o ho => by simp at ho), Below.refl _ _⟩
      case round =>
        obtain ⟨k, hk, rfl, hall, hb⟩ := hrel
        by_cases hlt : k < N
        · have hkO : k < O.length := by rw [← HN.out]; exact hlt
          obtain ⟨q0, q1, q2⟩ := flat3_at hkO
          have z0 := (hb.cell (p := ⟨gb, k * 3, none⟩) hgl).trans (Hc.out _ _ q0)
          have z1 := (hb.cell (p := ⟨gb, k * 3 + 1, none⟩) hgl).trans (Hc.out _ _ q1)
          have z2 := (hb.cell (p := ⟨gb, k * 3 + 2, none⟩) hgl).trans (Hc.out _ _ q2)
          have hmem : O[k] ∈ O := List.getElem_mem hkO
          have htk : O.take (k + 1) = O.take k ++ [O[k]] := List.take_succ_eq_append_getElem hkO
          obtain ⟨o, ho⟩ : ∃ o, o = O[k] := ⟨_, rfl⟩
          rw [← ho] at z0 z1 z2 hmem htk
          obtain ⟨x, y, z⟩ := o
          simp only at z0 z1 z2
          have HM := Lib.hid (And.intro hmem htk)
          have i1 : (k : Int) < (N : Int) := by omega
          have hs := hb.size
          have hb2 : Below w5.heap.size w5 (wr.alloc (.cells #[.int .i64 x, .int .i64 y, .int .i64 z] 99)) := hb.alloc hs _
          clear q0 q1 q2 ho hmem htk
          by_cases hyz : y ≠ z
          · have hyzb : (y != z) = true := by simpa using hyz
            have hbad : Hid (Fl.sameB f g = false) := Lib.hid (by
              rw [Fl.sameB_ok HC.out]
              exact Fl.same_not hok hok2 (o := (x, y, z)) (by rw [← HO.out]; exact HM.out.1) hyz)
            go_wp2
            go_ret2
            exact ⟨ret_bi hbad.out.symm HC.out.symm, hB.trans (hb2.mono hs5)⟩
          · have hyz2 : y = z := by simpa using hyz
            subst hyz2
            clear hyz
            go_wp2
            go_roundw
            case rel =>
              refine ⟨k + 1, by omega, by go_num, Lib.hid fun o ho => ?_, hb2⟩
              rw [HM.out.2, List.mem_append, List.mem_singleton] at ho
              rcases ho with ho | rfl
              · exact hall.out o ho
              · rfl
            case measure => simp [intOf]; omega
        · have hkN : k = N := by omega
          have hgood : Hid (Fl.sameB f g = true) := Lib.hid (by
            rw [Fl.sameB_ok HC.out]
            refine Fl.same_of hok hok2 HL.out fun o ho => hall.out o ?_
            rw [hkN, HN.out, List.take_length, HO.out]
            exact ho)
          clear hkN
          go_wp2
          go_ret2
          exact ⟨ret_bi hgood.out.symm HC.out.symm, hB.trans (hb.mono hs5)⟩
    · have hxy2 : (X != Y) = true := by simpa using hxy
      have HC := Lib.hid HV.out
      have HB : Hid (Fl.sameB f g = false) := Lib.hid (by rw [Fl.sameB_ok HV.out]; exact Fl.same_len hok hok2 (by rw [← HXY.out.1, ← HXY.out.2]; exact hxy))
      clear hxy
      go_wp2
      go_ret2
      exact ⟨ret_bi HB.out.symm HC.out.symm, hB⟩
  · have HC := Lib.hid HV.out
    have HB := Lib.hid (Fl.sameB_no (f := f) (g := g) (by rw [HV.out]; exact code_ne hV0))
    go_wp2
    go_ret2
    exact ⟨ret_bi HB.out.symm HC.out.symm, hB⟩


set_option maxRecDepth 100000 in
set_option maxHeartbeats 1000000 in
theorem rSame_any (f g : List (Int × Int)) (ao : Option Addr) (n cap : Nat) (ao2 : Option Addr) (m cap2 : Nat) (w : World) (hp : Pts w ao f) (hln : n = f.length) (hn : n ≤ 100000) (hp2 : Pts w ao2 g) (hlm : m = g.length) (hm : m ≤ 100000) :
    Calls Try.prog 50 #[.slice ao n cap, .slice ao2 m cap2] w fun e w' => e = .returned (.tuple #[.bool (Fl.sameB f g), .int .i64 (Fl.bothC f g)]) ∧ Below w.heap.size w w' := by
  have Hn := Lib.hid hln
  have Hm := Lib.hid hlm
  clear hln hlm
  have hB := Below.refl w.heap.size w
  obtain ⟨V, hV⟩ : ∃ v, Fl.bothC f g = v := ⟨_, rfl⟩
  have hV0 : V = 0 ∨ (V != 0) = true := by by_cases h : V = 0 <;> simp [h]
  have HV := Lib.hid hV
  clear hV
  go_enter Try.func50, Try.ntmps50
  go_wp2_with fail
  refine (rtwo_any f g _ _ _ _ _ _ _ hp Hn.out hn hp2 Hm.out hm).mono ?_
  rintro e w1 ⟨rfl, hw⟩
  subst hw
  rw [HV.out]
  rcases hV0 with rfl | hV0
  · obtain ⟨v1, v2⟩ := Fl.bothC_ok HV.out
    obtain ⟨⟨a1, a2⟩, hok⟩ := Fl.validate_ok.1 v1
    obtain ⟨⟨b1, b2⟩, hok2⟩ := Fl.validate_ok.1 v2
    have uf := Fl.units_length hok
    have ug := Fl.units_length hok2
    have lf := Fl.len_bound hok
    have lg := Fl.len_bound hok2
    have n1 : (Fl.units f).length ≤ 100000 := by omega
    have n2 : (Fl.units g).length ≤ 100000 := by omega
    clear uf ug lf lg
    go_wp2_with fail
    refine (units_any f _ _ _ _ hp Hn.out hok a2).mono ?_
    rintro e w2 ⟨ao4, cap4, rfl, hI, hbb⟩
    replace hp2 := hp2.below hbb
    replace hB := hB.trans (hbb.mono hB.size)
    clear hbb hp
    go_wp2_with fail
    refine (units_any g _ _ _ _ hp2 Hm.out hok2 b2).mono ?_
    rintro e w3 ⟨ao5, cap5, rfl, hI2, hbb⟩
    replace hI := hI.below hbb
    replace hB := hB.trans (hbb.mono hB.size)
    clear hbb hp2
    have HS := Lib.hid (Fl.sameB_ok HV.out)
    go_wp2_with fail
    refine (sameInts_any _ _ _ _ _ _ _ _ _ hI rfl hI2 rfl n1 n2).mono ?_
    rintro e w4 ⟨rfl, hbb⟩
    rw [← HS.out]
    obtain ⟨S, hS⟩ : ∃ s, s = Fl.sameB f g := ⟨_, rfl⟩
    rw [← hS]
    have HS2 := Lib.hid hS
    clear hS
    go_wp2
    go_ret2
    exact ⟨ret_bi HS2.out HV.out.symm, hB.trans (hbb.mono hB.size)⟩
  · have HB := Lib.hid (Fl.sameB_no (f := f) (g := g) (by rw [HV.out]; exact code_ne hV0))
    go_wp2
    go_ret2
    exact ⟨ret_bi HB.out.symm HV.out.symm, hB⟩
end Go.Proofs.Ytmajcccdbhbkfaa
