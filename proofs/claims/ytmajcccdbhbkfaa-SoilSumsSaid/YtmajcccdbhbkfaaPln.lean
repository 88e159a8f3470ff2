import Derived.Test.YtmajcccdbhbkfaaSam
namespace Go.Proofs.Ytmajcccdbhbkfaa
open Go.RowKit

/-- A list of zones in memory of its own, or nothing. -/
def ZMade (w : World) (base : Nat) (v : Value) (c : Int) (L : List (Int × Int)) : Prop :=
  (c = 0 ∧ w.ownsRow base 52 2 v L.length (flat2 L)) ∨ (c ≠ 0 ∧ v = .slice none 0 0)
theorem ZMade.below {w w' : World} {base : Nat} {v : Value} {c : Int} {L : List (Int × Int)} (h : ZMade w base v c L) (hb : Below w.heap.size w w') : ZMade w' base v c L := by
  rcases h with ⟨h1, h2⟩ | h
  · exact .inl ⟨h1, own_below h2 hb⟩
  · exact .inr h
theorem own_alloc1 (w : World) (e : TypeId) (a b : Int) : (w.alloc (.cells #[.int .i64 a, .int .i64 b] e)).ownsRow w.heap.size e 2 (.slice (some ⟨w.heap.size, 0, none⟩) 1 1) 1 (flat2 [(a, b)]) :=
  ⟨rfl, .inr ⟨w.heap.size, 1, _, rfl, Nat.le_refl _, heap_alloc_new w _, Nat.le_refl _, by unfold maxLen; omega, rfl, rfl⟩⟩
/-- The last element of what one owns: it can be read, and its first cell can be written. -/
theorem own_last {w : World} {base n : Nat} {e : TypeId} {v : Value} {A : List (Int × Int)} {y1 y2 : Int} (h : w.ownsRow base e 2 v n (flat2 (A ++ [(y1, y2)]))) (hn : n = A.length + 1) :
    ∃ g cap, v = .slice (some ⟨g, 0, none⟩) n cap ∧ base ≤ g ∧ g < w.heap.size ∧ w.cell? ⟨g, A.length * 2, none⟩ = some (.int .i64 y1) ∧ w.cell? ⟨g, A.length * 2 + 1, none⟩ = some (.int .i64 y2) ∧ w.frozen? ⟨g, A.length * 2, none⟩ = false ∧
      ∀ c : Int, (w.setCell ⟨g, A.length * 2, none⟩ (.int .i64 c)).ownsRow base e 2 v n (flat2 (A ++ [(c, y2)])) := by
  obtain ⟨h1, ⟨_, h0⟩ | ⟨g, cap, cur, rfl, hb, hg, hnc, hcm, hcs, htk⟩⟩ := h
  · omega
  · have hl : (flat2 A).length = A.length * 2 := flat2_length A
    have hat : ∀ j u, (flat2 (A ++ [(y1, y2)]))[j]? = some u → w.cell? ⟨g, j, none⟩ = some u := by
      intro j u hu
      rw [cell_of_row w g j _ _ _ hg]
      rw [← htk] at hu
      have hj : j < n * 2 := by
        have := (List.getElem?_eq_some_iff.1 hu).1
        rw [List.length_take] at this; omega
      rw [List.getElem?_take, if_pos hj] at hu
      simpa using hu
    refine ⟨g, cap, rfl, hb, heap_lt hg, ?_, ?_, frozen_of_row w g _ cur _ hg, fun c => ?_⟩
    · apply hat
      rw [flat2_app, List.getElem?_append_right (by omega), hl, Nat.sub_self]
      rfl
    · apply hat
      rw [flat2_app, List.getElem?_append_right (by omega), hl, show A.length * 2 + 1 - A.length * 2 = 1 by omega]
      rfl
    · have hg2 := heap_setCell_same w g (A.length * 2) cur e (.int .i64 c) hg
      refine ⟨by rw [flat2_app, List.length_append, hl]; simp [flat2]; omega, .inr ⟨g, cap, _, rfl, hb, hg2, hnc, hcm, by rw [Array.size_setIfInBounds]; exact hcs, ?_⟩⟩
      rw [Array.toList_setIfInBounds, List.take_set, htk, flat2_app, flat2_app, List.set_append_right _ _ (by omega), hl, Nat.sub_self]
      rfl

set_option maxRecDepth 100000 in
set_option maxHeartbeats 1000000 in
theorem Plain_any (l : List (Int × Int)) (ao : Option Addr) (n cap : Nat) (w : World) (hp : Pts w ao l) (hln : n = l.length) (hn : n ≤ 100000) (hcap : n ≤ cap) :
    Calls Try.prog 47 #[.slice ao n cap] w fun e w' => (∃ v, e = .returned (.tuple #[v, .int .i64 (Fl.validate l)]) ∧ ZMade w' w.heap.size v (Fl.validate l) (Fl.plainF l)) ∧ Below w.heap.size w w' := by
  have Hn := Lib.hid hln
  clear hln
  have hB := Below.refl w.heap.size w
  obtain ⟨C, hC⟩ : ∃ c, Fl.validate l = c := ⟨_, rfl⟩
  rw [hC]
  have hC0 : C = 0 ∨ (C != 0) = true := by by_cases h : C = 0 <;> simp [h]
  have HC := Lib.hid hC
  clear hC
  obtain ⟨i0, hi0, hz0, hz1, hz2⟩ := info_zn
  go_enter Try.func47, Try.ntmps47
  go_wp2_with fail
  refine (validate_any l _ _ _ _ hp Hn.out hn).mono ?_
  rintro e w1 ⟨rfl, hbb⟩
  replace hp := hp.below hbb
  replace hB := hB.trans (hbb.mono hB.size)
  clear hbb
  rw [HC.out]
  rcases hC0 with rfl | hC0
  · obtain ⟨⟨hl1, hl6⟩, hok⟩ := Fl.validate_ok.1 HC.out
    have hn6 : n ≤ 6 := by have := Hn.out; omega
    have hn1 : 1 ≤ n := by have := Hn.out; omega
    obtain ⟨b, off, rfl, hbs, hc⟩ := hp.cells (by omega)
    obtain ⟨c0, c1⟩ := hc 0 (by omega)
    have hst := Fl.plain_start hl1
    have hy := ok_at hok (k := 0) (by omega)
    obtain ⟨y, hyy⟩ : ∃ y, y = l.getD 0 (0, 0) := ⟨_, rfl⟩
    rw [← hyy] at c0 c1 hst hy
    obtain ⟨y1, y2⟩ := y
    simp only [Nat.zero_mul, Nat.add_zero] at c0 c1
    have Hst := Lib.hid hst
    have Hc := Lib.hid hc
    have HY := Lib.hid (Fl.ok_one.2 hy)
    have hown := own_alloc1 w1 52 y1 y2
    have hb1 := (Below.refl _ w1).alloc (Nat.le_refl _) (.cells #[.int .i64 y1, .int .i64 y2] 52)
    have HO := Lib.hid (And.intro hown hb1)
    have j1 : (1 : Int) ≤ (n : Int) := by omega
    obtain ⟨N1, hN1⟩ : ∃ N, N = n - 1 := ⟨_, rfl⟩
    have HN1 := Lib.hid hN1
    have hN5 : N1 ≤ 5 := by omega
    clear hN1
    have j2 : (n : Int) ≤ (cap : Int) := by omega
    clear hst hyy hy hc hown hb1 hl1 hl6
    by_cases hcap1 : cap - 1 = 0
    · have hn1' : n = 1 := by omega
      have HF : Hid (Fl.plainF l = [(y1, y2)]) := Lib.hid (by
        rw [Hst.out, List.drop_of_length_le (by have := Hn.out; omega)]
        rfl)
      have HZ : Hid (ZMade (w1.alloc (.cells #[.int .i64 y1, .int .i64 y2] 52)) w.heap.size (.slice (some ⟨w1.heap.size, 0, none⟩) 1 1) 0 (Fl.plainF l)) := Lib.hid (.inl ⟨rfl, by rw [HF.out]; exact own_mono HO.out.1 hB.size⟩)
      have hN0 : N1 = 0 := by have := HN1.out; omega
      subst hN0
      clear hn1'
      go_wp2_with fail
      all_goals (first | (exfalso; omega) | skip)
      rw [← HN1.out]
      go_loopw [5, 21] (fun v i wr => v = .slice (some ⟨w1.heap.size, 0, none⟩) 1 1 ∧ i = .int .i64 0 ∧ wr = w1.alloc (.cells #[.int .i64 y1, .int .i64 y2] 52)) (fun _ i _ => 0)
      case atStart => exact ⟨rfl, rfl, rfl⟩
      case round =>
        obtain ⟨rfl, rfl, hw⟩ := hrel
        rw [hw]
        clear hw wr
        go_wp2
        go_ret2
        exact ⟨⟨_, rfl, HZ.out⟩, hB.trans (HO.out.2.mono hB.size)⟩
    · have hcap2 : ¬ cap - 1 = 0 := hcap1
      clear hcap1
      have hs1 := hB.size
      go_wp2_with fail
      all_goals (first | (exfalso; omega) | skip)
      rw [← HN1.out]
      clear c0 c1 j1 j2
      go_loopw [5, 21] (fun v i wr => ∃ (k m : Nat) (A : List (Int × Int)) (y1 y2 : Int), k ≤ N1 ∧ i = .int .i64 k ∧ Hid (Fl.plainF l = Fl.plainGo A (y1, y2) (l.drop (k + 1))) ∧ Hid (Fl.Ok (A ++ [(y1, y2)])) ∧ Hid (m = A.length + 1) ∧ 1 ≤ m ∧ m ≤ k + 1 ∧ Hid (wr.ownsRow w1.heap.size 52 2 v m (flat2 (A ++ [(y1, y2)]))) ∧ Below w1.heap.size w1 wr) (fun _ i _ => N1 - (intOf i).toNat)
      case atStart => exact ⟨0, 1, [], y1, y2, Nat.zero_le _, rfl, Hst, HY, Lib.hid rfl, by omega, by omega, Lib.hid HO.out.1, HO.out.2⟩
      case round =>
        clear HO HY Hst
        obtain ⟨k, m, A, x1, x2, hk, rfl, hpl, hok2, Hm, hm1, hmk, hown, hb⟩ := hrel
        by_cases hlt : k < N1
        · have hkl : k + 1 < l.length := by have := Hn.out; have := HN1.out; omega
          obtain ⟨c0, c1⟩ := Hc.out (k + 1) hkl
          rw [show off + (k + 1) * 2 = off + 2 + k * 2 by omega] at c0 c1
          have hzk := ok_at hok hkl
          obtain ⟨z, hz⟩ : ∃ z, z = l.getD (k + 1) (0, 0) := ⟨_, rfl⟩
          rw [← hz] at c0 c1 hzk
          obtain ⟨z1, z2⟩ := z
          simp only at c0 c1 hzk
          replace c0 := keep_cell hb c0
          replace c1 := keep_cell hb c1
          have HZ := Lib.hid (And.intro hkl hz.symm)
          have hx := Fl.ok_one.1 (Fl.ok_append.1 hok2.out).2
          simp only at hx
          obtain ⟨g, cap2, hv, hgb, hgl, -, -, -, -⟩ := own_last hown.out Hm.out
          subst hv
          have hbA := hb.trans (((Below.refl _ wr).alloc (Nat.le_refl _) (.cells #[.int .i64 z1, .int .i64 z2] 52)).mono hb.size)
          have hownA := own_below hown.out ((Below.refl _ wr).alloc (Nat.le_refl _) (.cells #[.int .i64 z1, .int .i64 z2] 52))
          have r7 := heap_alloc_new wr (.cells #[.int .i64 z1, .int .i64 z2] 52)
          obtain ⟨a, ha⟩ : ∃ a, a = A.length := ⟨_, rfl⟩
          have e1 : IntKind.i64.wrap ((m : Int) - 1) = (a : Int) := (IntWalk.i64_in _ (by omega)).trans (by have := Hm.out; omega)
          have a0 : (a : Int) < (m : Int) := by have := Hm.out; omega
          have i1 : (k : Int) < (N1 : Int) := by omega
          have HA := Lib.hid (And.intro hbA (And.intro hownA (And.intro r7 ha)))
          have hs := hb.size
          have bnd : x1 + z1 ≤ 40 ∧ 2 ≤ x1 + z1 := by omega
          have hk6 : k ≤ 5 := by omega
          clear hz hbA hownA r7 ha hown hb
          go_upto_region 9 with fail
          obtain ⟨hbA, hownA, r7, ha⟩ := HA.out
          clear HA c0 c1
          generalize wr.alloc (.cells #[.int .i64 z1, .int .i64 z2] 52) = W7 at hbA hownA r7 ⊢
          have hT7 : g < wr.heap.size := hgl
          generalize wr.heap.size = T7 at r7 hT7 hs ⊢
          obtain ⟨g', cap', hv', -, hgl', d0, d1, fz, hset⟩ := own_last hownA Hm.out
          rw [Value.slice.injEq, Option.some.injEq, Addr.mk.injEq] at hv'
          obtain ⟨⟨rfl, -, -⟩, -, rfl⟩ := hv'
          rw [← ha] at d0 d1 fz hset
          clear ha
          obtain ⟨⟨t0, t1⟩, -, -⟩ := row_fr r7
          have hk5 : k + 1 ≤ N1 := by omega
          have hokn : Hid (Fl.Ok (A ++ [(x1, x2)] ++ [(z1, z2)])) := Lib.hid (Fl.ok_append.2 ⟨hok2.out, Fl.ok_one.2 hzk⟩)
          have e2 : IntKind.i64.wrap (x1 + z1) = x1 + z1 := IntWalk.i64_in _ (by omega)
          by_cases hxz : x2 = z2
          · subst hxz
            by_cases hle : x1 + z1 ≤ 20
            · have Hnp : Hid (Fl.plainF l = Fl.plainGo A (x1 + z1, x2) (l.drop (k + 1 + 1))) := Lib.hid (hpl.out.trans (Fl.plain_join HZ.out.1 HZ.out.2 hle))
              have hokj : Hid (Fl.Ok (A ++ [(x1 + z1, x2)])) := Lib.hid (Fl.ok_append.2 ⟨(Fl.ok_append.1 hok2.out).1, Fl.ok_one.2 (by simp only []; omega)⟩)
              go_quiet (fail)
              have d0' : (W7.drewN nq).cell? ⟨g, a * 2, none⟩ = _ := d0
              have fz' : (W7.drewN nq).frozen? ⟨g, a * 2, none⟩ = _ := fz
              have t0' : (W7.drewN nq).cell? ⟨T7, 0, none⟩ = _ := t0
              have t1' : (W7.drewN nq).cell? ⟨T7, 1, none⟩ = _ := t1
              have hset' : ∀ c : Int, ((W7.drewN nq).setCell ⟨g, a * 2, none⟩ (.int .i64 c)).ownsRow w1.heap.size 52 2 (.slice (some ⟨g, 0, none⟩) m cap2) m (flat2 (A ++ [(c, x2)])) := hset
              have hownB : (W7.drewN nq).ownsRow w1.heap.size 52 2 (.slice (some ⟨g, 0, none⟩) m cap2) m (flat2 (A ++ [(x1, x2)])) := hownA
              have hbB : Below w1.heap.size w1 (W7.drewN nq) := below_drewN hbA _
              clear d0 d1 fz t0 t1 hset hownA hbA r7
              generalize W7.drewN nq = Wd at d0' fz' t0' t1' hset' hownB hbB ⊢
              have hsd := hbB.size
              go_wp2_with fail
              go_region
              go_wp2
              go_roundw
              case rel => exact ⟨k + 1, m, A, x1 + z1, x2, by omega, by go_num, Hnp, hokj, Hm, hm1, by omega, Lib.hid (hset' (x1 + z1)), below_drewN (below_setCell hbB hgb _) 1⟩
              case measure => simp [intOf]; omega
            · have Hnp : Hid (Fl.plainF l = Fl.plainGo (A ++ [(x1, x2)]) (z1, x2) (l.drop (k + 1 + 1))) := Lib.hid (hpl.out.trans (Fl.plain_push HZ.out.1 HZ.out.2 (fun h => hle h.2)))
              go_quiet (fail)
              have d0' : (W7.drewN nq).cell? ⟨g, a * 2, none⟩ = _ := d0
              have fz' : (W7.drewN nq).frozen? ⟨g, a * 2, none⟩ = _ := fz
              have t0' : (W7.drewN nq).cell? ⟨T7, 0, none⟩ = _ := t0
              have t1' : (W7.drewN nq).cell? ⟨T7, 1, none⟩ = _ := t1
              have hset' : ∀ c : Int, ((W7.drewN nq).setCell ⟨g, a * 2, none⟩ (.int .i64 c)).ownsRow w1.heap.size 52 2 (.slice (some ⟨g, 0, none⟩) m cap2) m (flat2 (A ++ [(c, x2)])) := hset
              have hownB : (W7.drewN nq).ownsRow w1.heap.size 52 2 (.slice (some ⟨g, 0, none⟩) m cap2) m (flat2 (A ++ [(x1, x2)])) := hownA
              have hbB : Below w1.heap.size w1 (W7.drewN nq) := below_drewN hbA _
              clear d0 d1 fz t0 t1 hset hownA hbA r7
              generalize W7.drewN nq = Wd at d0' fz' t0' t1' hset' hownB hbB ⊢
              have hsd := hbB.size
              have HO2 := Lib.hid hownB
              go_wp2_with (first | (at_builtin; refine wpList_append_own _ rfl _ _ 22 rfl w1.heap.size 52 i0 (.agg #[.int .i64 0, .int .i64 0]) 2 16 Try.underlying22 hi0 hz0 hz1 hz2 rfl (by decide) _ m _ rfl (HO2.out.alloc _) ⟨Wd.heap.size, 0, none⟩ 1 1 [.int .i64 z1, .int .i64 x2] rfl rfl (World.news_of_block (cs := #[.int .i64 z1, .int .i64 x2]) (t := 52) (fr := (0, 0)) (heap_alloc_new Wd _)) (by simp [Value.oneCell']) (by unfold maxLen; omega) (by omega) (by simp; omega) ?_; intro v' w9 hown9 hgrow9 hnil9; have hb9 : Below w1.heap.size w1 w9 := (hbB.alloc hsd _).grown hgrow9 (by simp; omega) (fun q hq => (HO2.out.lt _ hq).1); clear hgrow9 hnil9))
              go_roundw
              case rel => exact ⟨k + 1, m + 1, A ++ [(x1, x2)], z1, x2, by omega, by go_num, Hnp, hokn, Lib.hid (by rw [List.length_append, Hm.out]; rfl), by omega, by omega, Lib.hid (by rw [flat2_app]; exact hown9), hb9⟩
              case measure => simp [intOf]; omega
          · have hxzb : (x2 == z2) = false := by simpa using hxz
            have Hnp : Hid (Fl.plainF l = Fl.plainGo (A ++ [(x1, x2)]) (z1, z2) (l.drop (k + 1 + 1))) := Lib.hid (hpl.out.trans (Fl.plain_push HZ.out.1 HZ.out.2 (fun h => hxz h.1)))
            clear hxz
            go_quiet (fail)
            have d0' : (W7.drewN nq).cell? ⟨g, a * 2, none⟩ = _ := d0
            have fz' : (W7.drewN nq).frozen? ⟨g, a * 2, none⟩ = _ := fz
            have t0' : (W7.drewN nq).cell? ⟨T7, 0, none⟩ = _ := t0
            have t1' : (W7.drewN nq).cell? ⟨T7, 1, none⟩ = _ := t1
            have hset' : ∀ c : Int, ((W7.drewN nq).setCell ⟨g, a * 2, none⟩ (.int .i64 c)).ownsRow w1.heap.size 52 2 (.slice (some ⟨g, 0, none⟩) m cap2) m (flat2 (A ++ [(c, x2)])) := hset
            have hownB : (W7.drewN nq).ownsRow w1.heap.size 52 2 (.slice (some ⟨g, 0, none⟩) m cap2) m (flat2 (A ++ [(x1, x2)])) := hownA
            have hbB : Below w1.heap.size w1 (W7.drewN nq) := below_drewN hbA _
            clear d0 d1 fz t0 t1 hset hownA hbA r7
            generalize W7.drewN nq = Wd at d0' fz' t0' t1' hset' hownB hbB ⊢
            have hsd := hbB.size
            have HO2 := Lib.hid hownB
            go_wp2_with (first | (at_builtin; refine wpList_append_own _ rfl _ _ 22 rfl w1.heap.size 52 i0 (.agg #[.int .i64 0, .int .i64 0]) 2 16 Try.underlying22 hi0 hz0 hz1 hz2 rfl (by decide) _ m _ rfl (HO2.out.alloc _) ⟨Wd.heap.size, 0, none⟩ 1 1 [.int .i64 z1, .int .i64 z2] rfl rfl (World.news_of_block (cs := #[.int .i64 z1, .int .i64 z2]) (t := 52) (fr := (0, 0)) (heap_alloc_new Wd _)) (by simp [Value.oneCell']) (by unfold maxLen; omega) (by omega) (by simp; omega) ?_; intro v' w9 hown9 hgrow9 hnil9; have hb9 : Below w1.heap.size w1 w9 := (hbB.alloc hsd _).grown hgrow9 (by simp; omega) (fun q hq => (HO2.out.lt _ hq).1); clear hgrow9 hnil9))
            go_roundw
            case rel => exact ⟨k + 1, m + 1, A ++ [(x1, x2)], z1, z2, by omega, by go_num, Hnp, hokn, Lib.hid (by rw [List.length_append, Hm.out]; rfl), by omega, by omega, Lib.hid (by rw [flat2_app]; exact hown9), hb9⟩
            case measure => simp [intOf]; omega
        · have hkN : k = N1 := by omega
          have HZ : Hid (ZMade wr w.heap.size u5 0 (Fl.plainF l)) := Lib.hid (.inl ⟨rfl, by
            have hd : l.drop (k + 1) = [] := List.drop_of_length_le (by have := Hn.out; have := HN1.out; omega)
            have he : Fl.plainF l = A ++ [(x1, x2)] := by rw [hpl.out, hd]; rfl
            rw [he, List.length_append]
            have h := hown.out
            rw [Hm.out] at h
            exact own_mono h hs1⟩)
          clear hkN
          go_wp2
          go_ret2
          exact ⟨⟨_, rfl, HZ.out⟩, hB.trans (hb.mono hs1)⟩
  · go_wp2
    go_ret2
    exact ⟨⟨_, rfl, .inr ⟨code_ne hC0, rfl⟩⟩, hB⟩
end Go.Proofs.Ytmajcccdbhbkfaa
