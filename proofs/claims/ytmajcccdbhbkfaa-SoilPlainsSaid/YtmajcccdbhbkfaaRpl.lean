import Derived.Test.YtmajcccdbhbkfaaPln
namespace Go.Proofs.Ytmajcccdbhbkfaa
open Go.RowKit

set_option maxRecDepth 100000 in
set_option maxHeartbeats 1000000 in
theorem rPlain_any (l : List (Int × Int)) (ao : Option Addr) (n cap : Nat) (w : World) (hp : Pts w ao l) (hln : n = l.length) (hn : n ≤ 100000) :
    Calls Try.prog 48 #[.slice ao n cap] w fun e w' => (∃ v, e = .returned (.tuple #[v, .int .i64 (Fl.validate l)]) ∧ ZMade w' w.heap.size v (Fl.validate l) (Fl.plainF l)) ∧ Below w.heap.size w w' := by
  have Hn := Lib.hid hln
  clear hln
  obtain ⟨C, hC⟩ : ∃ c, Fl.validate l = c := ⟨_, rfl⟩
  rw [hC]
  have hC0 : C = 0 ∨ (C != 0) = true := by by_cases h : C = 0 <;> simp [h]
  have HC := Lib.hid hC
  clear hC
  obtain ⟨i0, hi0, hz0, hz1, hz2⟩ := info_zn
  go_enter Try.func48, Try.ntmps48
  go_wp2_with fail
  refine (rvalidate_any l _ _ _ _ hp Hn.out hn).mono ?_
  rintro e w1 ⟨rfl, hw⟩
  subst hw
  rw [HC.out]
  rcases hC0 with rfl | hC0
  · obtain ⟨⟨hl1, hl6⟩, hok⟩ := Fl.validate_ok.1 HC.out
    have hn6 : n ≤ 6 := by have := Hn.out; omega
    have hn1 : 1 ≤ n := by have := Hn.out; omega
    obtain ⟨b, off, rfl, hbs, hc⟩ := hp.cells (by omega)
    have Hc := Lib.hid hc
    have Hst := Lib.hid (Fl.plain_start hl1)
    clear hc hl1 hl6 hp
    go_wp2
    go_loopw [5, 6] (fun v i wr => ∃ (k m : Nat), k ≤ n ∧ i = .int .i64 k ∧ m ≤ k ∧ Hid ((k = 0 ∧ m = 0 ∧ v = .slice none 0 0) ∨ (∃ (A : List (Int × Int)) (x1 x2 : Int), 1 ≤ m ∧ Fl.plainF l = Fl.plainGo A (x1, x2) (l.drop k) ∧ Fl.Ok (A ++ [(x1, x2)]) ∧ m = A.length + 1 ∧ wr.ownsRow w.heap.size 52 2 v m (flat2 (A ++ [(x1, x2)])))) ∧ Below w.heap.size w wr) (fun _ i _ => n - (intOf i).toNat)
    case atStart => exact ⟨0, 0, Nat.zero_le _, rfl, Nat.le_refl _, Lib.hid (.inl ⟨rfl, rfl, rfl⟩), Below.refl _ _⟩
    case round =>
      obtain ⟨k, m, hk, rfl, hmk, hs, hb⟩ := hrel
      have hsw := hb.size
      by_cases hlt : k < n
      · have hkl : k < l.length := by have := Hn.out; omega
        obtain ⟨c0, c1⟩ := Hc.out k hkl
        have hzk := ok_at hok hkl
        obtain ⟨z, hz⟩ : ∃ z, z = l.getD k (0, 0) := ⟨_, rfl⟩
        rw [← hz] at c0 c1 hzk
        obtain ⟨z1, z2⟩ := z
        simp only at c0 c1 hzk
        replace c0 := keep_cell hb c0
        replace c1 := keep_cell hb c1
        have HZ := Lib.hid (And.intro hkl hz.symm)
        have i1 : (k : Int) < (n : Int) := by omega
        clear hz
        rcases hs.out with ⟨rfl, rfl, rfl⟩ | ⟨A, x1, x2, hm1, hpl, hok2, hm, hown⟩
        · clear hs
          have Hnp : Hid (Fl.plainF l = Fl.plainGo [] (z1, z2) (l.drop 1)) := Lib.hid (by rw [Hst.out, HZ.out.2])
          have hokn : Hid (Fl.Ok ([] ++ [(z1, z2)])) := Lib.hid (Fl.ok_one.2 hzk)
          have hown0 : Hid (wr.ownsRow w.heap.size 52 2 (.slice none 0 0) 0 []) := Lib.hid ⟨rfl, .inl ⟨rfl, rfl⟩⟩
          simp only [Nat.zero_mul, Nat.add_zero] at c0 c1
          go_upto_region 9 with fail
          go_quiet (fail)
          have c0' : (wr.drewN nq).cell? ⟨b, off, none⟩ = _ := c0
          have c1' : (wr.drewN nq).cell? ⟨b, off + 1, none⟩ = _ := c1
          have hown1 : Hid ((wr.drewN nq).ownsRow w.heap.size 52 2 (.slice none 0 0) 0 []) := Lib.hid ⟨rfl, .inl ⟨rfl, rfl⟩⟩
          have hbB : Below w.heap.size w (wr.drewN nq) := below_drewN hb _
          clear c0 c1 hown0 hb
          generalize wr.drewN nq = Wd at c0' c1' hown1 hbB ⊢
          have hsd := hbB.size
          go_wp2_with (first | (at_builtin; refine wpList_append_own _ rfl _ _ 22 rfl w.heap.size 52 i0 (.agg #[.int .i64 0, .int .i64 0]) 2 16 Try.underlying22 hi0 hz0 hz1 hz2 rfl (by decide) _ 0 [] rfl (hown1.out.alloc _) ⟨Wd.heap.size, 0, none⟩ 1 1 [.int .i64 z1, .int .i64 z2] rfl rfl (World.news_of_block (cs := #[.int .i64 z1, .int .i64 z2]) (t := 52) (fr := (0, 0)) (heap_alloc_new Wd _)) (by simp [Value.oneCell']) (by unfold maxLen; omega) (by omega) (by simp; omega) ?_; intro v' w9 hown9 hgrow9 hnil9; have hb9 : Below w.heap.size w w9 := (hbB.alloc hsd _).grown hgrow9 (by simp; omega) (fun q hq => (hown1.out.lt _ hq).1); clear hgrow9 hnil9))
          go_roundw
          case rel => exact ⟨1, 1, by omega, by go_num, Nat.le_refl _, Lib.hid (.inr ⟨[], z1, z2, Nat.le_refl _, Hnp.out, hokn.out, rfl, hown9⟩), hb9⟩
          case measure => simp [intOf]; omega
        · obtain ⟨g, cap2, hv, hgb, hgl, d0, d1, fz, hset⟩ := own_last hown hm
          subst hv
          have Hm := Lib.hid hm
          have hx := Fl.ok_one.1 (Fl.ok_append.1 hok2).2
          simp only at hx
          have Hpl := Lib.hid hpl
          have Hok2 := Lib.hid hok2
          obtain ⟨a, ha⟩ : ∃ a, a = A.length := ⟨_, rfl⟩
          rw [← ha] at d0 d1 fz hset
          have e1 : IntKind.i64.wrap ((m : Int) - 1) = (a : Int) := (IntWalk.i64_in _ (by omega)).trans (by have := Hm.out; omega)
          have a0 : (a : Int) < (m : Int) := by have := Hm.out; omega
          have hokn : Hid (Fl.Ok (A ++ [(x1, x2)] ++ [(z1, z2)])) := Lib.hid (Fl.ok_append.2 ⟨hok2, Fl.ok_one.2 hzk⟩)
          have e2 : IntKind.i64.wrap (x1 + z1) = x1 + z1 := IntWalk.i64_in _ (by omega)
          have hk6 : k ≤ 5 := by omega
          clear hs hpl hok2 hm ha
          by_cases hxz : x2 = z2
          · subst hxz
            by_cases hle : x1 + z1 ≤ 20
            · have Hnp : Hid (Fl.plainF l = Fl.plainGo A (x1 + z1, x2) (l.drop (k + 1))) := Lib.hid (Hpl.out.trans (Fl.plain_join HZ.out.1 HZ.out.2 hle))
              have hokj : Hid (Fl.Ok (A ++ [(x1 + z1, x2)])) := Lib.hid (Fl.ok_append.2 ⟨(Fl.ok_append.1 Hok2.out).1, Fl.ok_one.2 (by simp only []; omega)⟩)
              go_upto_region 9 with fail
              go_quiet (fail)
              have d0' : (wr.drewN nq).cell? ⟨g, a * 2, none⟩ = _ := d0
              have fz' : (wr.drewN nq).frozen? ⟨g, a * 2, none⟩ = _ := fz
              have t0' : (wr.drewN nq).cell? ⟨b, off + k * 2, none⟩ = _ := c0
              have t1' : (wr.drewN nq).cell? ⟨b, off + k * 2 + 1, none⟩ = _ := c1
              have hset' : ∀ c : Int, ((wr.drewN nq).setCell ⟨g, a * 2, none⟩ (.int .i64 c)).ownsRow w.heap.size 52 2 (.slice (some ⟨g, 0, none⟩) m cap2) m (flat2 (A ++ [(c, x2)])) := hset
              have hownB : (wr.drewN nq).ownsRow w.heap.size 52 2 (.slice (some ⟨g, 0, none⟩) m cap2) m (flat2 (A ++ [(x1, x2)])) := hown
              have hbB : Below w.heap.size w (wr.drewN nq) := below_drewN hb _
              clear d0 d1 fz c0 c1 hset hown hb
              generalize wr.drewN nq = Wd at d0' fz' t0' t1' hset' hownB hbB ⊢
              have hsd := hbB.size
              go_wp2_with fail
              go_region
              go_wp2
              go_roundw
              case rel => exact ⟨k + 1, m, by omega, by go_num, by omega, Lib.hid (.inr ⟨A, x1 + z1, x2, hm1, Hnp.out, hokj.out, Hm.out, hset' (x1 + z1)⟩), below_drewN (below_setCell hbB hgb _) 1⟩
              case measure => simp [intOf]; omega
            · have Hnp : Hid (Fl.plainF l = Fl.plainGo (A ++ [(x1, x2)]) (z1, x2) (l.drop (k + 1))) := Lib.hid (Hpl.out.trans (Fl.plain_push HZ.out.1 HZ.out.2 (fun h => hle h.2)))
              go_upto_region 9 with fail
              go_quiet (fail)
              have d0' : (wr.drewN nq).cell? ⟨g, a * 2, none⟩ = _ := d0
              have fz' : (wr.drewN nq).frozen? ⟨g, a * 2, none⟩ = _ := fz
              have t0' : (wr.drewN nq).cell? ⟨b, off + k * 2, none⟩ = _ := c0
              have t1' : (wr.drewN nq).cell? ⟨b, off + k * 2 + 1, none⟩ = _ := c1
              have hset' : ∀ c : Int, ((wr.drewN nq).setCell ⟨g, a * 2, none⟩ (.int .i64 c)).ownsRow w.heap.size 52 2 (.slice (some ⟨g, 0, none⟩) m cap2) m (flat2 (A ++ [(c, x2)])) := hset
              have hownB : (wr.drewN nq).ownsRow w.heap.size 52 2 (.slice (some ⟨g, 0, none⟩) m cap2) m (flat2 (A ++ [(x1, x2)])) := hown
              have hbB : Below w.heap.size w (wr.drewN nq) := below_drewN hb _
              clear d0 d1 fz c0 c1 hset hown hb
              generalize wr.drewN nq = Wd at d0' fz' t0' t1' hset' hownB hbB ⊢
              have hsd := hbB.size
              have HO2 := Lib.hid hownB
              go_wp2_with (first | (at_builtin; refine wpList_append_own _ rfl _ _ 22 rfl w.heap.size 52 i0 (.agg #[.int .i64 0, .int .i64 0]) 2 16 Try.underlying22 hi0 hz0 hz1 hz2 rfl (by decide) _ m _ rfl (HO2.out.alloc _) ⟨Wd.heap.size, 0, none⟩ 1 1 [.int .i64 z1, .int .i64 x2] rfl rfl (World.news_of_block (cs := #[.int .i64 z1, .int .i64 x2]) (t := 52) (fr := (0, 0)) (heap_alloc_new Wd _)) (by simp [Value.oneCell']) (by unfold maxLen; omega) (by omega) (by simp; omega) ?_; intro v' w9 hown9 hgrow9 hnil9; have hb9 : Below w.heap.size w w9 := (hbB.alloc hsd _).grown hgrow9 (by simp; omega) (fun q hq => (HO2.out.lt _ hq).1); clear hgrow9 hnil9))
              go_roundw
              case rel => exact ⟨k + 1, m + 1, by omega, by go_num, by omega, Lib.hid (.inr ⟨A ++ [(x1, x2)], z1, x2, by omega, Hnp.out, hokn.out, by rw [List.length_append, Hm.out]; rfl, by rw [flat2_app]; exact hown9⟩), hb9⟩
              case measure => simp [intOf]; omega
          · have hxzb : (x2 == z2) = false := by simpa using hxz
            have Hnp : Hid (Fl.plainF l = Fl.plainGo (A ++ [(x1, x2)]) (z1, z2) (l.drop (k + 1))) := Lib.hid (Hpl.out.trans (Fl.plain_push HZ.out.1 HZ.out.2 (fun h => hxz h.1)))
            clear hxz
            go_upto_region 9 with fail
            go_quiet (fail)
            have d0' : (wr.drewN nq).cell? ⟨g, a * 2, none⟩ = _ := d0
            have fz' : (wr.drewN nq).frozen? ⟨g, a * 2, none⟩ = _ := fz
            have t0' : (wr.drewN nq).cell? ⟨b, off + k * 2, none⟩ = _ := c0
            have t1' : (wr.drewN nq).cell? ⟨b, off + k * 2 + 1, none⟩ = _ := c1
            have hset' : ∀ c : Int, ((wr.drewN nq).setCell ⟨g, a * 2, none⟩ (.int .i64 c)).ownsRow w.heap.size 52 2 (.slice (some ⟨g, 0, none⟩) m cap2) m (flat2 (A ++ [(c, x2)])) := hset
            have hownB : (wr.drewN nq).ownsRow w.heap.size 52 2 (.slice (some ⟨g, 0, none⟩) m cap2) m (flat2 (A ++ [(x1, x2)])) := hown
            have hbB : Below w.heap.size w (wr.drewN nq) := below_drewN hb _
            clear d0 d1 fz c0 c1 hset hown hb
            generalize wr.drewN nq = Wd at d0' fz' t0' t1' hset' hownB hbB ⊢
            have hsd := hbB.size
            have HO2 := Lib.hid hownB
            go_wp2_with (first | (at_builtin; refine wpList_append_own _ rfl _ _ 22 rfl w.heap.size 52 i0 (.agg #[.int .i64 0, .int .i64 0]) 2 16 Try.underlying22 hi0 hz0 hz1 hz2 rfl (by decide) _ m _ rfl (HO2.out.alloc _) ⟨Wd.heap.size, 0, none⟩ 1 1 [.int .i64 z1, .int .i64 z2] rfl rfl (World.news_of_block (cs := #[.int .i64 z1, .int .i64 z2]) (t := 52) (fr := (0, 0)) (heap_alloc_new Wd _)) (by simp [Value.oneCell']) (by unfold maxLen; omega) (by omega) (by simp; omega) ?_; intro v' w9 hown9 hgrow9 hnil9; have hb9 : Below w.heap.size w w9 := (hbB.alloc hsd _).grown hgrow9 (by simp; omega) (fun q hq => (HO2.out.lt _ hq).1); clear hgrow9 hnil9))
            go_roundw
            case rel => exact ⟨k + 1, m + 1, by omega, by go_num, by omega, Lib.hid (.inr ⟨A ++ [(x1, x2)], z1, z2, by omega, Hnp.out, hokn.out, by rw [List.length_append, Hm.out]; rfl, by rw [flat2_app]; exact hown9⟩), hb9⟩
            case measure => simp [intOf]; omega
      · have hkn : k = n := by omega
        have HZ : Hid (ZMade wr w.heap.size u5 0 (Fl.plainF l)) := Lib.hid (by
          rcases hs.out with ⟨h0, -, -⟩ | ⟨A, x1, x2, hm1, hpl, hok2, hm, hown⟩
          · omega
          · refine .inl ⟨rfl, ?_⟩
            have he : Fl.plainF l = A ++ [(x1, x2)] := by rw [hpl, List.drop_of_length_le (by have := Hn.out; omega)]; rfl
            rw [he, List.length_append]
            rw [hm] at hown
            exact hown)
        clear hkn hs
        go_wp2
        go_ret2
        exact ⟨⟨_, rfl, HZ.out⟩, hb⟩
  · go_wp2
    go_ret2
    exact ⟨⟨_, rfl, .inr ⟨code_ne hC0, rfl⟩⟩, Below.refl _ _⟩
end Go.Proofs.Ytmajcccdbhbkfaa
