import Derived.Test.YtmajcccdbhbkfaaBem
namespace Go.Proofs.Ytmajcccdbhbkfaa
open Go.RowKit

theorem ret_bi {a b : Bool} {c d : Int} (h1 : a = b) (h2 : c = d) : Ending.returned (.tuple #[.bool a, .int .i64 c]) = .returned (.tuple #[.bool b, .int .i64 d]) := by rw [h1, h2]
theorem ovs_pos {f g : List (Int × Int)} (hf : Fl.Ok f) (hg : Fl.Ok g) (h1 : 1 ≤ f.length) (h2 : 1 ≤ g.length) : 0 < (Fl.ovs (Fl.strips 0 f) (Fl.strips 0 g)).length := by
  have l1 := Fl.len_bound hf
  have l2 := Fl.len_bound hg
  obtain ⟨o, ho, -⟩ := Fl.ov_units hf hg 0 (by omega) (by omega)
  exact List.length_pos_of_mem ho
theorem ovs_len36 {f g : List (Int × Int)} (h6 : f.length ≤ 6) (h62 : g.length ≤ 6) : (Fl.ovs (Fl.strips 0 f) (Fl.strips 0 g)).length ≤ 36 := by
  have h := Fl.ovs_length (Fl.strips 0 f) (Fl.strips 0 g)
  rw [strips_length, strips_length] at h
  have : f.length * g.length ≤ 6 * 6 := Nat.mul_le_mul h6 h62
  omega

set_option maxRecDepth 100000 in
set_option maxHeartbeats 1000000 in
theorem Better_any (f g : List (Int × Int)) (ao : Option Addr) (n cap : Nat) (ao2 : Option Addr) (m cap2 : Nat) (w : World) (hp : Pts w ao f) (hln : n = f.length) (hn : n ≤ 100000) (hp2 : Pts w ao2 g) (hlm : m = g.length) (hm : m ≤ 100000) :
    Calls Try.prog 59 #[.slice ao n cap, .slice ao2 m cap2] w fun e w' => e = .returned (.tuple #[.bool (Fl.bettB f g), .int .i64 (Fl.bettC f g)]) ∧ Below w.heap.size w w' := by
  have Hn := Lib.hid hln
  have Hm := Lib.hid hlm
  clear hln hlm
  have hB := Below.refl w.heap.size w
  obtain ⟨V, hV⟩ : ∃ v, Fl.bothC f g = v := ⟨_, rfl⟩
  have hV0 : V = 0 ∨ (V != 0) = true := by by_cases h : V = 0 <;> simp [h]
  have HV := Lib.hid hV
  clear hV
  go_enter Try.func59, Try.ntmps59
  go_wp2_with fail
  refine (validateBoth_any f g _ _ _ _ _ _ _ hp Hn.out hn hp2 Hm.out hm).mono ?_
  rintro e w1 ⟨rfl, hbb⟩
  replace hp := hp.below hbb
  replace hp2 := hp2.below hbb
  replace hB := hB.trans (hbb.mono hB.size)
  clear hbb
  rw [HV.out]
  rcases hV0 with rfl | hV0
  · obtain ⟨v1, v2⟩ := Fl.bothC_ok HV.out
    obtain ⟨⟨a1, a2⟩, hok⟩ := Fl.validate_ok.1 v1
    obtain ⟨⟨b1, b2⟩, hok2⟩ := Fl.validate_ok.1 v2
    have lf := Fl.len_bound hok
    have lg := Fl.len_bound hok2
    go_wp2_with fail
    refine (length_any f _ _ _ _ hp Hn.out hok a2).mono ?_
    rintro e w2 ⟨rfl, hbb⟩
    replace hp := hp.below hbb
    replace hp2 := hp2.below hbb
    replace hB := hB.trans (hbb.mono hB.size)
    clear hbb
    go_wp2_with fail
    refine (length_any g _ _ _ _ hp2 Hm.out hok2 b2).mono ?_
    rintro e w3 ⟨rfl, hbb⟩
    replace hp := hp.below hbb
    replace hp2 := hp2.below hbb
    replace hB := hB.trans (hbb.mono hB.size)
    clear hbb
    obtain ⟨X, hX⟩ : ∃ x, x = Fl.len f := ⟨_, rfl⟩
    obtain ⟨Y, hY⟩ : ∃ x, x = Fl.len g := ⟨_, rfl⟩
    rw [← hX, ← hY]
    have HXY := Lib.hid (And.intro hX hY)
    clear hX hY lf lg
    by_cases hxy : X = Y
    · subst hxy
      have hl : Fl.len f = Fl.len g := by rw [← HXY.out.1, ← HXY.out.2]
      have HC := Lib.hid (Fl.bettC_ok HV.out hl)
      have HL := Lib.hid hl
      have hpos := ovs_pos hok hok2 a1 b1
      have h36 := ovs_len36 a2 b2
      clear hl
      go_wp2_with fail
      refine (overlaps_any f g _ _ _ _ _ _ _ hp Hn.out hp2 Hm.out hok a2 hok2 b2 a1 b1).mono ?_
      rintro e w5 ⟨v5, rfl, hov, hbb⟩
      replace hB := hB.trans (hbb.mono hB.size)
      obtain ⟨O, hO⟩ : ∃ O, O = Fl.ovs (Fl.strips 0 f) (Fl.strips 0 g) := ⟨_, rfl⟩
      rw [← hO] at hov hpos h36
      obtain ⟨gb, cap5, rfl, -, hgl, hgc, hcells⟩ := own_cells hov hpos
      have HO := Lib.hid hO
      have Hc := Lib.hid hcells
      obtain ⟨N, hN⟩ : ∃ N, N = O.length := ⟨_, rfl⟩
      rw [← hN] at hgc h36 ⊢
      have HN := Lib.hid hN
      have hs5 := hB.size
      clear hov hbb hO hcells hN hpos hp hp2
      go_wp2_with fail
      go_loopw [24] (fun i wr => ∃ k : Nat, k ≤ N ∧ i = .int .i64 k ∧ Hid (∀ o ∈ O.take k, ¬ o.2.1 < o.2.2) ∧ Below w5.heap.size w5 wr) (fun i _ => N - (intOf i).toNat)
      case atStart => exact ⟨0, Nat.zero_le _, rfl, Lib.hid (fun o ho => by simp at ho), Below.refl _ _⟩
      case round =>
        obtain ⟨k, hk, rfl, hall, hb⟩ := hrel
        by_cases hlt : k < N
        · have hkO : k < O.length := by rw [← HN.out]; exact hlt
          obtain ⟨q0, q1, q2⟩ := flat3_at hkO
          have z0 := (hb.cell (p := ⟨gb, k * 3, none⟩) hgl).trans (Hc.out _ _ q0)
          have z1 := (hb.cell (p := ⟨gb, k * 3 + 1, none⟩) hgl).trans (Hc.out _ _ q1)
          have z2 := (hb.cell (p := ⟨gb, k * 3 + 2, none⟩) hgl).trans (Hc.out _ _ q2)
          have hmem : O[k] ∈ O := List.getElem_mem hkO
          have htk : O.take (k + 1) = O.take k ++ [O[k]] := List.take_succ_eq_append_getElem hkO
          obtain ⟨o, ho⟩ : ∃ o, o = O[k] := ⟨_, rfl⟩
          rw [← ho] at z0 z1 z2 hmem htk
          obtain ⟨x, y, z⟩ := o
          simp only at z0 z1 z2
          have HM := Lib.hid (And.intro hmem htk)
          have i1 : (k : Int) < (N : Int) := by omega
          have hs := hb.size
          have hb2 : Below w5.heap.size w5 (wr.alloc (.cells #[.int .i64 x, .int .i64 y, .int .i64 z] 99)) := hb.alloc hs _
          clear q0 q1 q2 ho hmem htk
          by_cases hyz : y < z
          · have hbad : Hid (Fl.bettB f g = false) := Lib.hid (by
              rw [Fl.bettB_ok HC.out]
              exact Fl.over_not hok hok2 (o := (x, y, z)) (by rw [← HO.out]; exact HM.out.1) hyz)
            go_wp2
            go_ret2
            exact ⟨ret_bi hbad.out.symm HC.out.symm, hB.trans (hb2.mono hs5)⟩
          · go_wp2
            go_roundw
            case rel =>
              refine ⟨k + 1, by omega, by go_num, Lib.hid fun o ho => ?_, hb2⟩
              rw [HM.out.2, List.mem_append, List.mem_singleton] at ho
              rcases ho with ho | rfl
              · exact hall.out o ho
              · exact hyz
            case measure => simp [intOf]; omega
        · have hkN : k = N := by omega
          have hgood : Hid (Fl.bettB f g = true) := Lib.hid (by
            rw [Fl.bettB_ok HC.out]
            refine Fl.over_of hok hok2 HL.out fun o ho => hall.out o ?_
            rw [hkN, HN.out, List.take_length, HO.out]
            exact ho)
          clear hkN
          go_wp2
          go_ret2
          exact ⟨ret_bi hgood.out.symm HC.out.symm, hB.trans (hb.mono hs5)⟩
    · have hxy2 : (X != Y) = true := by simpa using hxy
      have HC := Lib.hid (Fl.bettC_len HV.out (by rw [← HXY.out.1, ← HXY.out.2]; exact hxy))
      have HB := Lib.hid (Fl.bettB_no (by rw [HC.out]; decide))
      clear hxy
      go_wp2
      go_ret2
      exact ⟨ret_bi HB.out.symm HC.out.symm, hB⟩
  · have HC := Lib.hid (Fl.bettC_bad (by rw [HV.out]; exact code_ne hV0))
    have HB := Lib.hid (Fl.bettB_no (by rw [HC.out, HV.out]; exact code_ne hV0))
    go_wp2
    go_ret2
    exact ⟨ret_bi HB.out.symm (by rw [HC.out, HV.out]), hB⟩

set_option maxRecDepth 100000 in
set_option maxHeartbeats 1000000 in
theorem rBetter_any (f g : List (Int × Int)) (ao : Option Addr) (n cap : Nat) (ao2 : Option Addr) (m cap2 : Nat) (w : World) (hp : Pts w ao f) (hln : n = f.length) (hn : n ≤ 100000) (hp2 : Pts w ao2 g) (hlm : m = g.length) (hm : m ≤ 100000) :
    Calls Try.prog 60 #[.slice ao n cap, .slice ao2 m cap2] w fun e w' => e = .returned (.tuple #[.bool (Fl.bettB f g), .int .i64 (Fl.bettC f g)]) ∧ Below w.heap.size w w' := by
  have Hn := Lib.hid hln
  have Hm := Lib.hid hlm
  clear hln hlm
  have hB := Below.refl w.heap.size w
  obtain ⟨V, hV⟩ : ∃ v, Fl.bothC f g = v := ⟨_, rfl⟩
  have hV0 : V = 0 ∨ (V != 0) = true := by by_cases h : V = 0 <;> simp [h]
  have HV := Lib.hid hV
  clear hV
  go_enter Try.func60, Try.ntmps60
  go_wp2_with fail
  refine (rtwo_any f g _ _ _ _ _ _ _ hp Hn.out hn hp2 Hm.out hm).mono ?_
  rintro e w1 ⟨rfl, hw⟩
  subst hw
  rw [HV.out]
  rcases hV0 with rfl | hV0
  · obtain ⟨v1, v2⟩ := Fl.bothC_ok HV.out
    obtain ⟨⟨a1, a2⟩, hok⟩ := Fl.validate_ok.1 v1
    obtain ⟨⟨b1, b2⟩, hok2⟩ := Fl.validate_ok.1 v2
    have uf := Fl.units_length hok
    have ug := Fl.units_length hok2
    have lf := Fl.len_bound hok
    have lg := Fl.len_bound hok2
    have HUL := Lib.hid (And.intro uf (And.intro ug (And.intro lf lg)))
    clear uf ug lf lg
    go_wp2_with fail
    refine (units_any f _ _ _ _ hp Hn.out hok a2).mono ?_
    rintro e w2 ⟨ao4, cap4, rfl, hI, hbb⟩
    replace hp2 := hp2.below hbb
    replace hB := hB.trans (hbb.mono hB.size)
    clear hbb hp
    go_wp2_with fail
    refine (units_any g _ _ _ _ hp2 Hm.out hok2 b2).mono ?_
    rintro e w3 ⟨ao5, cap5, rfl, hI2, hbb⟩
    replace hI := hI.below hbb
    replace hB := hB.trans (hbb.mono hB.size)
    clear hbb hp2
    obtain ⟨N, hN⟩ : ∃ N, N = (Fl.units f).length := ⟨_, rfl⟩
    obtain ⟨M, hM⟩ : ∃ N, N = (Fl.units g).length := ⟨_, rfl⟩
    rw [← hN, ← hM]
    have HNM := Lib.hid (And.intro hN hM)
    have hN120 : N ≤ 120 := by have := HUL.out; omega
    clear hN hM
    by_cases hxy : N = M
    · subst hxy
      have hl : Fl.len f = Fl.len g := by have := HUL.out; have := HNM.out; omega
      have HC := Lib.hid (Fl.bettC_ok HV.out hl)
      have HI := Lib.hid (And.intro hI hI2)
      clear hI hI2 hl
      go_wp2
      go_loopw [9] (fun i wr => ∃ k : Nat, k ≤ N ∧ i = .int .i64 k ∧ Hid (∀ j, j < k → (Fl.units g).getD j 0 ≤ (Fl.units f).getD j 0) ∧ Below w3.heap.size w3 wr) (fun i _ => N - (intOf i).toNat)
      case atStart => exact ⟨0, Nat.zero_le _, rfl, Lib.hid (fun j hj => by omega), Below.refl _ _⟩
      case round =>
        obtain ⟨k, hk, rfl, hall, hb⟩ := hrel
        have hs3 := hB.size
        by_cases hlt : k < N
        · obtain ⟨ba, oa, rfl, ha, hca⟩ := HI.out.1.at (k := k) (by have := HNM.out; omega)
          obtain ⟨bb, ob, rfl, hbl, hcb⟩ := HI.out.2.at (k := k) (by have := HNM.out; omega)
          replace hca := keep_cell hb hca
          replace hcb := keep_cell hb hcb
          obtain ⟨x, hx⟩ : ∃ x, x = (Fl.units f).getD k 0 := ⟨_, rfl⟩
          obtain ⟨y, hy⟩ : ∃ x, x = (Fl.units g).getD k 0 := ⟨_, rfl⟩
          rw [← hx] at hca
          rw [← hy] at hcb
          have HX := Lib.hid (And.intro hx hy)
          have i1 : (k : Int) < (N : Int) := by omega
          clear hx hy
          by_cases hyz : x < y
          · have hbad : Hid (Fl.bettB f g = false) := Lib.hid (by
              rw [Fl.bettB_ok HC.out]
              unfold Fl.overB
              rw [decide_eq_false_iff_not]
              intro h
              have := h k (by rw [← HNM.out.1]; exact hlt)
              rw [← HX.out.1, ← HX.out.2] at this
              omega)
            go_wp2_with fail
            go_quiet (fail)
            go_wp2
            go_ret2
            exact ⟨ret_bi hbad.out.symm HC.out.symm, below_drewN (hB.trans (hb.mono hs3)) _⟩
          · go_wp2_with fail
            go_quiet (fail)
            go_wp2
            go_roundw
            case rel =>
              refine ⟨k + 1, by omega, by go_num, Lib.hid fun j hj => ?_, below_drewN hb _⟩
              by_cases e : j = k
              · subst e; rw [← HX.out.1, ← HX.out.2]; omega
              · exact hall.out j (by omega)
            case measure => simp [intOf]; omega
        · have hkN : k = N := by omega
          have hgood : Hid (Fl.bettB f g = true) := Lib.hid (by
            rw [Fl.bettB_ok HC.out]
            unfold Fl.overB
            rw [decide_eq_true_eq]
            intro i hi
            exact hall.out i (by have := HNM.out; omega))
          clear hkN
          go_wp2
          go_ret2
          exact ⟨ret_bi hgood.out.symm HC.out.symm, hB.trans (hb.mono hs3)⟩
    · have hxy2 : ((N : Int) != (M : Int)) = true := by simp; omega
      have HC := Lib.hid (Fl.bettC_len HV.out (by have := HUL.out; have := HNM.out; omega))
      have HB := Lib.hid (Fl.bettB_no (by rw [HC.out]; decide))
      clear hxy
      go_wp2
      go_ret2
      exact ⟨ret_bi HB.out.symm HC.out.symm, hB⟩
  · have HC := Lib.hid (Fl.bettC_bad (by rw [HV.out]; exact code_ne hV0))
    have HB := Lib.hid (Fl.bettB_no (by rw [HC.out, HV.out]; exact code_ne hV0))
    go_wp2
    go_ret2
    exact ⟨ret_bi HB.out.symm (by rw [HC.out, HV.out]), hB⟩
end Go.Proofs.Ytmajcccdbhbkfaa
