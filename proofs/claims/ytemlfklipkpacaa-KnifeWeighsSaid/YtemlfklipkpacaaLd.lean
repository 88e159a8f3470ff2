import Derived.Test.YtemlfklipkpacaaKi
/- The reference of package knife: units. -/
namespace Go.Proofs.Ytemlfklipkpacaa
open Go.RowKit

set_option maxHeartbeats 400000 in
theorem swithin_any (n lo hi : Int) (w : World) :
    Calls Try.prog 116 #[.int .i64 n, .int .i64 lo, .int .i64 hi] w fun e w' => e = .returned (.bool (decide (lo ≤ n) && decide (n ≤ hi))) ∧ w = w' := by
  go_enter Try.func116, Try.ntmps116
  go_wp2
  all_goals
    go_ret
    refine ⟨ret_bool ?_, rfl⟩
    rw [Bool.eq_iff_iff]
    simp
    omega

set_option maxRecDepth 100000 in
set_option maxHeartbeats 4000000 in
theorem sunits_any (L : List Int) (V : List (List Int)) (o : Nat) (aoL : Option Addr) (nL cL : Nat) (aoV : Option Addr) (nV cV : Nat) (w : World) (hf : Fld w aoL nL aoV nV L V) (hok : Kn.Ok L V) (ho : o < V.length) :
    Calls Try.prog 104 #[.agg #[.slice aoL nL cL, .slice aoV nV cV], .int .i64 o] w fun e w' => ∃ ao2 cap2, e = .returned (.slice ao2 (Fl.units (Kn.Z L V o)).length cap2) ∧ Ints w' ao2 (Fl.units (Kn.Z L V o)) ∧ Below w.heap.size w w' := by
  have Hn := Lib.hid hf.nl
  have hn6 : nL ≤ 6 := by have := hf.nl; have := hok.l6; omega
  have hov : o < nV := by have := hf.nv; omega
  have hovi : (o : Int) < (nV : Int) := by omega
  obtain ⟨i0, hi0, hz0, hz1, hz2⟩ := info_in
  have hzl := hok.zLen ho
  have hzo := hok.zOk ho
  have hrow := hok.rowAt ho
  have hp1 : (Kn.Z L V o).map Prod.fst = L := Kn.Z_fst hrow.1
  have hp2 : (Kn.Z L V o).map Prod.snd = V.getD o [] := Kn.Z_snd hrow.1
  obtain ⟨l, hl⟩ : ∃ l, l = Kn.Z L V o := ⟨_, rfl⟩
  rw [← hl] at hp1 hp2 hzl hzo ⊢
  clear hl
  have hn : nL = l.length := by rw [hzl]; exact Hn.out
  have HN := Lib.hid hn
  have hl6 : l.length ≤ 6 := by omega
  clear hn
  have hA := (Below.refl _ w).alloc (Nat.le_refl _) (.cells #[.slice aoL nL cL, .slice aoV nV cV] 57)
  have rf := heap_alloc_new w (.cells #[.slice aoL nL cL, .slice aoV nV cV] 57)
  go_enter Try.func104, Try.ntmps104
  go_upto_region 1 with fail
  generalize w.alloc (.cells #[.slice aoL nL cL, .slice aoV nV cV] 57) = W0 at hA rf ⊢
  obtain ⟨⟨c0, c1⟩, -, -⟩ := row_fr rf
  have hf0 := hf.below hA
  obtain ⟨bV, oV, aoR, cR, rfl, zr, -, IR⟩ := hf0.hV.at ho
  rw [hrow.1, ← Hn.out] at zr
  obtain ⟨G, hG⟩ : ∃ g, g = w.heap.size := ⟨_, rfl⟩
  rw [← hG] at c0 c1 ⊢
  have HG := Lib.hid hG
  clear hG rf
  go_wp2
  go_loopw [5, 6] (fun v i wr => ∃ k : Nat, k ≤ nL ∧ i = .int .i64 k ∧ Hid (wr.ownsRow W0.heap.size 3 1 v (Fl.units (l.take k)).length ((Fl.units (l.take k)).map (Value.int .i64))) ∧ Below W0.heap.size W0 wr) (fun _ i _ => nL - (intOf i).toNat)
  case atStart => exact ⟨0, Nat.zero_le _, rfl, Lib.hid ⟨rfl, .inl ⟨rfl, rfl⟩⟩, Below.refl _ _⟩
  case round =>
    obtain ⟨k, hk, rfl, hown, hb⟩ := hrel
    have q0 := keep_cell hb c0
    have q1 := keep_cell hb c1
    by_cases hlt : k < nL
    · have hkl : k < l.length := by have := HN.out; omega
      obtain ⟨b, off, rfl, hbs, hc1⟩ := hf0.hL.at (k := k) (by rw [← hp1]; simpa using hkl)
      obtain ⟨b', off', rfl, hbs', hc2⟩ := IR.at (k := k) (by rw [← hp2]; simpa using hkl)
      rw [← hp1, fst_at hkl] at hc1
      rw [← hp2, snd_at hkl] at hc2
      have hut := Lib.hid (units_take hkl)
      have hul := units_take_len hzo hl6 k
      have b2 := ok_at hzo hkl
      have i1 : (k : Int) < (nL : Int) := by omega
      obtain ⟨U, hU⟩ : ∃ x, x = Fl.units (l.take k) := ⟨_, rfl⟩
      obtain ⟨x, hx⟩ : ∃ x : Nat, x = (l.getD k (0, 0)).1.toNat := ⟨_, rfl⟩
      obtain ⟨y, hy⟩ : ∃ y, y = (l.getD k (0, 0)).2 := ⟨_, rfl⟩
      have hx1 : (l.getD k (0, 0)).1 = (x : Int) := by omega
      rw [hx1] at hc1 b2
      rw [← hx, ← hy] at hut
      rw [← hy] at hc2 b2
      rw [← hU] at hown hut hul
      clear hx hy hU hx1
      have hx20 : x ≤ 20 := by omega
      go_wp2
      go_loopw [5, 7] (fun v j wr => ∃ m : Nat, m ≤ x ∧ j = .int .i64 m ∧ Hid (wr.ownsRow W0.heap.size 3 1 v (U.length + m) ((U ++ List.replicate m y).map (Value.int .i64))) ∧ Below W0.heap.size W0 wr) (fun _ j _ => x - (intOf j).toNat)
      case atStart => exact ⟨0, Nat.zero_le _, rfl, Lib.hid (by simpa using hown.out), hb⟩
      case round =>
        clear hb q0 q1 hown
        obtain ⟨m, hm, rfl, hown2, hb2⟩ := hrel
        have q0 := keep_cell hb2 c0
        have q1 := keep_cell hb2 c1
        have zr2 := keep_cell hb2 zr
        have hd1 := keep_cell hb2 hc1
        have hd2 := keep_cell hb2 hc2
        have hs := hb2.size
        by_cases hmx : m < x
        · have i2 : (m : Int) < (x : Int) := by omega
          clear hc1 hc2 zr c0 c1
          go_wp2_with (first | (at_builtin; refine wpList_append_own _ rfl _ _ 39 rfl W0.heap.size 3 i0 (.int .i64 0) 1 8 Try.underlying39 hi0 hz0 hz1 hz2 rfl (by decide) _ (U.length + m) _ rfl (hown2.out.alloc _) ⟨wr.heap.size, 0, none⟩ 1 1 [.int .i64 y] rfl rfl (World.news_of_block (cs := #[.int .i64 y]) (t := 3) (fr := (0, 0)) (heap_alloc_new wr _)) (by simp [Value.oneCell']) (by unfold maxLen; omega) (by omega) (by simp; omega) ?_; intro v' w3 hown3 hgrow3 hnil3; have hb5 : Below W0.heap.size W0 w3 := (hb2.alloc hs _).grown hgrow3 (by simp; omega) (fun q hq => (hown2.out.lt _ hq).1); clear hgrow3 hnil3))
          go_roundw
          case rel => exact ⟨m + 1, by omega, by go_num, Lib.hid (by rw [rep_snoc]; exact hown3), hb5⟩
          case measure => simp [intOf]; omega
        · have hm2 : m = x := by omega
          have Hm := Lib.hid hm2
          clear hm2 hc1 hc2
          go_wp2
          go_roundw
          case rel =>
            refine ⟨k + 1, by omega, by go_num, Lib.hid ?_, hb2⟩
            rw [hut.out, rep_len, ← Hm.out]
            exact hown2.out
          case measure => simp [intOf]; omega
    · have hk2 : k = nL := by omega
      have hown2 := hown.out
      rw [hk2, HN.out, List.take_length] at hown2
      obtain ⟨ao, cap, hv, -, hI⟩ := own_ints hown2 rfl
      subst hv
      have HI := Lib.hid hI
      have hbw := hA.trans (hb.mono hA.size)
      clear hk2 hown2 hown
      go_wp2
      go_ret
      exact ⟨_, _, rfl, HI.out, hbw⟩
end Go.Proofs.Ytemlfklipkpacaa
