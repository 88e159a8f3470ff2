import Derived.Test.YtmajcccdbhbkfaaSmo
import Derived.Test.YtmajcccdbhbkfaaPln
namespace Go.Proofs.Ytmajcccdbhbkfaa
open Go.RowKit

set_option maxRecDepth 100000 in
set_option maxHeartbeats 1000000 in
theorem Sum_any (f g : List (Int × Int)) (ao : Option Addr) (n cap : Nat) (ao2 : Option Addr) (m cap2 : Nat) (w : World) (hp : Pts w ao f) (hln : n = f.length) (hn : n ≤ 100000) (hp2 : Pts w ao2 g) (hlm : m = g.length) (hm : m ≤ 100000) :
    Calls Try.prog 57 #[.slice ao n cap, .slice ao2 m cap2] w fun e w' => (∃ v, e = .returned (.tuple #[v, .int .i64 (Fl.sumC f g)]) ∧ ZMade w' w.heap.size v (Fl.sumC f g) (Fl.sumF f g)) ∧ Below w.heap.size w w' := by
  have Hn := Lib.hid hln
  have Hm := Lib.hid hlm
  clear hln hlm
  have hB := Below.refl w.heap.size w
  obtain ⟨V, hV⟩ : ∃ v, Fl.bothC f g = v := ⟨_, rfl⟩
  have hV0 : V = 0 ∨ (V != 0) = true := by by_cases h : V = 0 <;> simp [h]
  have HV := Lib.hid hV
  clear hV
  obtain ⟨SC, hSC⟩ : ∃ c, Fl.sumC f g = c := ⟨_, rfl⟩
  rw [hSC]
  have HSC := Lib.hid hSC
  clear hSC
  obtain ⟨i0, hi0, hz0, hz1, hz2⟩ := info_zn
  go_enter Try.func57, Try.ntmps57
  go_wp2_with fail
  refine (validateBoth_any f g _ _ _ _ _ _ _ hp Hn.out hn hp2 Hm.out hm).mono ?_
  rintro e w1 ⟨rfl, hbb⟩
  replace hp := hp.below hbb
  replace hp2 := hp2.below hbb
  replace hB := hB.trans (hbb.mono hB.size)
  clear hbb
  rw [HV.out]
  rcases hV0 with rfl | hV0
  · obtain ⟨v1, v2⟩ := Fl.bothC_ok HV.out
    obtain ⟨⟨a1, a2⟩, hok⟩ := Fl.validate_ok.1 v1
    obtain ⟨⟨b1, b2⟩, hok2⟩ := Fl.validate_ok.1 v2
    have lf := Fl.len_bound hok
    have lg := Fl.len_bound hok2
    go_wp2_with fail
    refine (length_any f _ _ _ _ hp Hn.out hok a2).mono ?_
    rintro e w2 ⟨rfl, hbb⟩
    replace hp := hp.below hbb
    replace hp2 := hp2.below hbb
    replace hB := hB.trans (hbb.mono hB.size)
    clear hbb
    go_wp2_with fail
    refine (length_any g _ _ _ _ hp2 Hm.out hok2 b2).mono ?_
    rintro e w3 ⟨rfl, hbb⟩
    replace hp := hp.below hbb
    replace hp2 := hp2.below hbb
    replace hB := hB.trans (hbb.mono hB.size)
    clear hbb
    obtain ⟨X, hX⟩ : ∃ x, x = Fl.len f := ⟨_, rfl⟩
    obtain ⟨Y, hY⟩ : ∃ x, x = Fl.len g := ⟨_, rfl⟩
    rw [← hX, ← hY]
    have HXY := Lib.hid (And.intro hX hY)
    clear hX hY lf lg
    by_cases hxy : X = Y
    · subst hxy
      have hl : Fl.len f = Fl.len g := by rw [← HXY.out.1, ← HXY.out.2]
      have HC := Lib.hid (Fl.bettC_ok HV.out hl)
      have HL := Lib.hid hl
      have hpos := ovs_pos hok hok2 a1 b1
      have h36 := ovs_len36 a2 b2
      clear hl
      go_wp2_with fail
      refine (overlaps_any f g _ _ _ _ _ _ _ hp Hn.out hp2 Hm.out hok a2 hok2 b2 a1 b1).mono ?_
      rintro e w5 ⟨v5, rfl, hov, hbb⟩
      replace hB := hB.trans (hbb.mono hB.size)
      obtain ⟨O, hO⟩ : ∃ O, O = Fl.ovs (Fl.strips 0 f) (Fl.strips 0 g) := ⟨_, rfl⟩
      rw [← hO] at hov hpos h36
      have hbd : ∀ o ∈ O, 1 ≤ o.1 ∧ o.1 ≤ 20 ∧ 0 ≤ o.2.1 ∧ o.2.1 ≤ 20 ∧ 0 ≤ o.2.2 ∧ o.2.2 ≤ 20 := fun o ho => Fl.ov_bound hok hok2 (by rw [← hO]; exact ho)
      have HBD := Lib.hid hbd
      obtain ⟨gb, cap5, rfl, -, hgl, hgc, hcells⟩ := own_cells hov hpos
      have HO := Lib.hid hO
      have Hc := Lib.hid hcells
      obtain ⟨N, hN⟩ : ∃ N, N = O.length := ⟨_, rfl⟩
      rw [← hN] at hgc h36 ⊢
      have HN := Lib.hid hN
      have hs5 := hB.size
      clear hov hbb hO hcells hN hpos hp hp2 hbd
      go_wp2_with fail
      go_loopw [7, 25] (fun v i wr => ∃ k : Nat, k ≤ N ∧ i = .int .i64 k ∧ Hid (∀ o ∈ O.take k, ¬ 20 < o.2.1 + o.2.2) ∧ Hid (wr.ownsRow w5.heap.size 52 2 v k (flat2 ((O.take k).map Fl.ovSum))) ∧ Below w5.heap.size w5 wr) (fun _ i _ => N - (intOf i).toNat)
      case atStart => exact ⟨0, Nat.zero_le _, rfl, Lib.hid (fun o ho => by simp at ho), Lib.hid ⟨rfl, .inl ⟨rfl, rfl⟩⟩, Below.refl _ _⟩
      case round =>
        obtain ⟨k, hk, rfl, hall, hown, hb⟩ := hrel
        by_cases hlt : k < N
        · have hkO : k < O.length := by rw [← HN.out]; exact hlt
          obtain ⟨q0, q1, q2⟩ := flat3_at hkO
          have z0 := (hb.cell (p := ⟨gb, k * 3, none⟩) hgl).trans (Hc.out _ _ q0)
          have z1 := (hb.cell (p := ⟨gb, k * 3 + 1, none⟩) hgl).trans (Hc.out _ _ q1)
          have z2 := (hb.cell (p := ⟨gb, k * 3 + 2, none⟩) hgl).trans (Hc.out _ _ q2)
          have hmem : O[k] ∈ O := List.getElem_mem hkO
          have htk : O.take (k + 1) = O.take k ++ [O[k]] := List.take_succ_eq_append_getElem hkO
          have hbd := HBD.out _ hmem
          obtain ⟨o, ho⟩ : ∃ o, o = O[k] := ⟨_, rfl⟩
          rw [← ho] at z0 z1 z2 hmem htk hbd
          obtain ⟨x, y, z⟩ := o
          simp only at z0 z1 z2 hbd
          have HM := Lib.hid (And.intro hmem htk)
          have i1 : (k : Int) < (N : Int) := by omega
          have hs := hb.size
          have e1 : IntKind.i64.wrap (y + z) = y + z := IntWalk.i64_in _ (by omega)
          have hA9 := (Below.refl _ wr).alloc (Nat.le_refl _) (.cells #[.int .i64 x, .int .i64 y, .int .i64 z] 99)
          have r9 := heap_alloc_new wr (.cells #[.int .i64 x, .int .i64 y, .int .i64 z] 99)
          have hb2 : Below w5.heap.size w5 (wr.alloc (.cells #[.int .i64 x, .int .i64 y, .int .i64 z] 99)) := hb.alloc hs _
          have hown2 := Lib.hid (own_below hown.out hA9)
          clear q0 q1 q2 ho hmem htk hA9 hown
          go_upto_region 10 with fail
          clear z0 z1 z2 hb
          generalize wr.alloc (.cells #[.int .i64 x, .int .i64 y, .int .i64 z] 99) = W9 at r9 hb2 hown2 ⊢
          generalize wr.heap.size = T9 at r9 ⊢
          have c0 := cell_of_row W9 _ 0 _ _ _ r9
          have c1 := cell_of_row W9 _ 1 _ _ _ r9
          have c2 := cell_of_row W9 _ 2 _ _ _ r9
          simp at c0 c1 c2
          clear r9
          have hs9 := hb2.size
          by_cases hyz : 20 < y + z
          · have hcode : Hid (SC = 1) := Lib.hid (HSC.out.symm.trans (Fl.sumC_arg HC.out (Fl.over_yes hok hok2 (o := (x, y, z)) (by rw [← HO.out]; exact HM.out.1) hyz)))
            go_wp2
            go_ret2
            rw [hcode.out]
            exact ⟨⟨_, rfl, .inr ⟨by decide, rfl⟩⟩, hB.trans (hb2.mono hs5)⟩
          · go_wp2_with (first | (at_builtin; refine wpList_append_own _ rfl _ _ 22 rfl w5.heap.size 52 i0 (.agg #[.int .i64 0, .int .i64 0]) 2 16 Try.underlying22 hi0 hz0 hz1 hz2 rfl (by decide) _ k _ rfl (hown2.out.alloc _) ⟨W9.heap.size, 0, none⟩ 1 1 [.int .i64 x, .int .i64 (y + z)] rfl rfl (World.news_of_block (cs := #[.int .i64 x, .int .i64 (y + z)]) (t := 52) (fr := (0, 0)) (heap_alloc_new W9 _)) (by simp [Value.oneCell']) (by unfold maxLen; omega) (by omega) (by simp; omega) ?_; intro v' w7 hown7 hgrow7 hnil7; have hb7 : Below w5.heap.size w5 w7 := (hb2.alloc hs9 _).grown hgrow7 (by simp; omega) (fun q hq => (hown2.out.lt _ hq).1); clear hgrow7 hnil7))
            go_roundw
            case rel =>
              refine ⟨k + 1, by omega, by go_num, Lib.hid fun o ho => ?_, Lib.hid ?_, hb7⟩
              · rw [HM.out.2, List.mem_append, List.mem_singleton] at ho
                rcases ho with ho | rfl
                · exact hall.out o ho
                · exact hyz
              · rw [HM.out.2, List.map_append, flat2_app]
                exact hown7
            case measure => simp [intOf]; omega
        · have hkN : k = N := by omega
          have i1 : ¬ (k : Int) < (N : Int) := by omega
          have hno : Fl.overU f g = false := Fl.over_no hok hok2 HL.out fun o ho => hall.out o (by
            rw [hkN, HN.out, List.take_length, HO.out]
            exact ho)
          have hSF : Fl.sumF f g = O.map Fl.ovSum := by rw [HO.out]; rfl
          have hSl : (Fl.sumF f g).length = N := by rw [hSF, List.length_map, HN.out]
          have ho := hown.out
          rw [hkN, HN.out, List.take_length, ← hSF, ← HN.out, ← hSl] at ho
          obtain ⟨k2, hk2⟩ : ∃ z, z = k := ⟨_, rfl⟩
          have HK := Lib.hid ho
          by_cases h6 : 6 < N
          · have hcode : Hid (SC = 3) := Lib.hid (HSC.out.symm.trans (Fl.sumC_large HC.out hno (by rw [hSl]; exact h6)))
            obtain ⟨g3, cap3, hv3, -⟩ := own_cells hown.out (by omega)
            subst hv3
            have h6k : (6 : Int) < (k : Int) := by omega
            clear hno hSF hSl ho hkN hk2 hown HK hlt h6
            go_wp2
            go_ret2
            rw [hcode.out]
            exact ⟨⟨_, rfl, .inr ⟨by decide, rfl⟩⟩, hB.trans (hb.mono hs5)⟩
          · have hcode : Hid (SC = 0) := Lib.hid (HSC.out.symm.trans (Fl.sumC_ok HC.out hno (by rw [hSl]; exact h6)))
            have h6k : ¬ (6 : Int) < (k : Int) := by omega
            have HZ : Hid (ZMade wr w.heap.size u7 0 (Fl.sumF f g)) := Lib.hid (.inl ⟨rfl, own_mono HK.out hs5⟩)
            have hform : ∃ ad cp, u7 = .slice ad k cp := by
              rcases hown.out.2 with ⟨h1, h2⟩ | ⟨g3, cap3, cur, h1, -⟩
              · exact ⟨none, 0, by rw [h1, h2]⟩
              · exact ⟨_, _, h1⟩
            obtain ⟨ad, cp, hv⟩ := hform
            subst hv
            clear hno hSF hSl ho hkN hk2 hown HK hlt h6
            go_wp2
            go_ret2
            rw [hcode.out]
            exact ⟨⟨_, rfl, HZ.out⟩, hB.trans (hb.mono hs5)⟩
    · have hxy2 : (X != Y) = true := by simpa using hxy
      have HC := Fl.bettC_len HV.out (show Fl.len f ≠ Fl.len g by rw [← HXY.out.1, ← HXY.out.2]; exact hxy)
      have hcode : Hid (SC = 5) := Lib.hid (HSC.out.symm.trans ((Fl.sumC_bad (by rw [HC]; decide)).trans HC))
      clear hxy HC
      go_wp2
      go_ret2
      rw [hcode.out]
      exact ⟨⟨_, rfl, .inr ⟨by decide, rfl⟩⟩, hB⟩
  · have HC := Fl.bettC_bad (f := f) (g := g) (by rw [HV.out]; exact code_ne hV0)
    have hcode : Hid (SC = V) := Lib.hid (HSC.out.symm.trans ((Fl.sumC_bad (by rw [HC, HV.out]; exact code_ne hV0)).trans (HC.trans HV.out)))
    clear HC
    go_wp2
    go_ret2
    rw [hcode.out]
    exact ⟨⟨_, rfl, .inr ⟨code_ne hV0, rfl⟩⟩, hB⟩
end Go.Proofs.Ytmajcccdbhbkfaa
