import Derived.Test.YtkpabehjehbidaaTrn
import Derived.Test.YtkpabehjehbidaaPam
namespace Go.Proofs.Ytkpabehjehbidaa
open Go.RowKit

/-- A list of zones in memory of its own, as a field that a call hands back. -/
theorem fieldMade_own {w : World} {base : Nat} {v : Value} {L : List (Int × Int)} (h : w.ownsRow base 52 2 v L.length (flat2 L)) : FieldMade w v 0 L := by
  obtain ⟨ao, cap, rfl, hc, hp⟩ := own_pts2 h rfl
  exact fieldMade_ok rfl hc hp

set_option maxRecDepth 100000 in
set_option maxHeartbeats 4000000 in
theorem Part_any (l : List (Int × Int)) (f t : Int) (ao : Option Addr) (n cap : Nat) (w : World) (hp : Pts w ao l) (hln : n = l.length) (hn : n ≤ 100000) :
    Calls Try.prog 49 #[.slice ao n cap, .int .i64 f, .int .i64 t] w fun e w' => (∃ v, e = .returned (.tuple #[v, .int .i64 (Fl.partW l f t)]) ∧ FieldMade w' v (Fl.partW l f t) (Fl.partF f t 0 l)) ∧ Below w.heap.size w w' := by
  have Hn := Lib.hid hln
  clear hln
  obtain ⟨C, hC⟩ : ∃ c, Fl.partW l f t = c := ⟨_, rfl⟩
  rw [hC]
  have HC := Lib.hid hC
  clear hC
  obtain ⟨v, hv⟩ : ∃ v, v = Fl.validate l := ⟨_, rfl⟩
  have hv0 : v = 0 ∨ (v != 0) = true := by by_cases h : v = 0 <;> simp [h]
  have Hv := Lib.hid hv
  clear hv
  have hB := Below.refl w.heap.size w
  obtain ⟨i0, hi0, hz0, hz1, hz2⟩ := info_zn
  go_enter Try.func49, Try.ntmps49
  go_wp2_with fail
  refine (validate_any l _ _ _ _ hp Hn.out hn).mono ?_
  rintro e w1 ⟨rfl, hbb⟩
  replace hp := hp.below hbb
  replace hB := hB.trans (hbb.mono hB.size)
  clear hbb
  rw [← Hv.out]
  rcases hv0 with rfl | hv0
  · obtain ⟨⟨hl1, hl6⟩, hok⟩ := Fl.validate_ok.1 Hv.out.symm
    have hc1 : Hid ((f < 0 ∨ t ≤ f ∨ Fl.len l < t) → C = 1) := Lib.hid (fun h => by
      have := HC.out
      unfold Fl.partW at this
      rw [if_neg (by rw [← Hv.out]; simp), if_pos h] at this
      exact this.symm)
    by_cases hf : f < 0
    · have hC1 := Lib.hid (hc1.out (.inl hf))
      go_wp2
      go_ret2
      rw [hC1.out]
      exact ⟨⟨_, rfl, fieldMade_no (by decide)⟩, hB⟩
    · by_cases hft : t ≤ f
      · have hC1 := Lib.hid (hc1.out (.inr (.inl hft)))
        go_wp2
        go_ret2
        rw [hC1.out]
        exact ⟨⟨_, rfl, fieldMade_no (by decide)⟩, hB⟩
      · go_wp2_with fail
        refine (length_any l _ _ _ _ hp Hn.out hok hl6).mono ?_
        rintro e w2 ⟨rfl, hbb⟩
        replace hp := hp.below hbb
        replace hB := hB.trans (hbb.mono hB.size)
        clear hbb
        by_cases hlt : Fl.len l < t
        · have hC1 := Lib.hid (hc1.out (.inr (.inr hlt)))
          go_wp2
          go_ret2
          rw [hC1.out]
          exact ⟨⟨_, rfl, fieldMade_no (by decide)⟩, hB⟩
        · have hC0 : Hid (C = 0) := Lib.hid (by
            have := HC.out
            unfold Fl.partW at this
            rw [if_neg (by rw [← Hv.out]; simp), if_neg (by omega)] at this
            exact this.symm)
          have hlb := Fl.len_bound hok
          have hf120 : 0 ≤ f ∧ f ≤ 120 := by omega
          have ht120 : 0 ≤ t ∧ t ≤ 120 := by omega
          have hn6 : n ≤ 6 := by have := Hn.out; omega
          go_wp2_with fail
          refine (strips_any l _ _ _ _ hp Hn.out hok hl6).mono ?_
          rintro e w3 ⟨v3, rfl, hov, hb3⟩
          have hs2 := hB.size
          replace hp := hp.below hb3
          replace hB := hB.trans (hb3.mono hB.size)
          obtain ⟨g, cap2, rfl, hgb, hgl, hgc, hcells⟩ := own_cells hov (by have := Hn.out; omega)
          clear hov hb3
          have Hc := Lib.hid hcells
          clear hcells
          rw [← Hn.out] at hgc ⊢
          go_wp2_with fail
          go_loopw [9, 35] (fun v i wr => ∃ k : Nat, k ≤ n ∧ i = .int .i64 k ∧ Hid (wr.ownsRow w3.heap.size 52 2 v (Fl.partF f t 0 (l.take k)).length (flat2 (Fl.partF f t 0 (l.take k)))) ∧ Hid ((Fl.partF f t 0 (l.take k)).length ≤ k) ∧ Below w3.heap.size w3 wr) (fun _ i _ => n - (intOf i).toNat)
          case atStart => exact ⟨0, Nat.zero_le _, rfl, Lib.hid ⟨rfl, .inl ⟨rfl, rfl⟩⟩, Lib.hid (Nat.le_refl _), Below.refl _ _⟩
          case round =>
            obtain ⟨k, hk, rfl, hown, hkl2, hb⟩ := hrel
            by_cases hlt : k < n
            · have hkl : k < l.length := by have := Hn.out; omega
              have hks : k < (Fl.strips 0 l).length := by rw [strips_length]; exact hkl
              obtain ⟨q0, q1, q2⟩ := flat3_at hks
              have z0 := (hb.cell (p := ⟨g, k * 3, none⟩) hgl).trans (Hc.out _ _ q0)
              have z1 := (hb.cell (p := ⟨g, k * 3 + 1, none⟩) hgl).trans (Hc.out _ _ q1)
              have z2 := (hb.cell (p := ⟨g, k * 3 + 2, none⟩) hgl).trans (Hc.out _ _ q2)
              rw [strips_at hkl, Int.zero_add] at z0 z1 z2
              have hst := Fl.partF_take (f := f) (t := t) hkl (s := 0)
              rw [Int.zero_add] at hst
              have b1 := len_take_bound hok hl6 k
              have b2 := ok_at hok hkl
              clear q0 q1 q2
              have i1 : (k : Int) < (n : Int) := by omega
              obtain ⟨A, hA⟩ : ∃ x, x = Fl.len (l.take k) := ⟨_, rfl⟩
              obtain ⟨zz, hzz⟩ : ∃ x, x = l.getD k (0, 0) := ⟨_, rfl⟩
              obtain ⟨x, y⟩ := zz
              rw [← hA] at z0 z1 hst b1
              rw [← hzz] at z1 z2 hst b2
              simp only at z0 z1 z2 b2
              obtain ⟨U, hU⟩ : ∃ u, u = Fl.partF f t 0 (l.take k) := ⟨_, rfl⟩
              rw [← hU] at hst hown hkl2
              have Hst := Lib.hid hst
              clear hst hU hzz hA
              have hs := hb.size
              have hga : g < wr.heap.size := by omega
              go_wp2_with fail
              go_region
              obtain ⟨LO, hLO⟩ : ∃ z, z = (if A < f then f else A) := ⟨_, rfl⟩
              obtain ⟨HI, hHI⟩ : ∃ z, z = (if t < A + x then t else A + x) := ⟨_, rfl⟩
              rw [← hLO, ← hHI]
              have eL : max A f = LO := by rw [hLO]; split <;> omega
              have eH : min (A + x) t = HI := by rw [hHI]; split <;> omega
              have hst := Hst.out
              unfold Fl.partZ at hst
              simp only at hst
              rw [eL, eH] at hst
              have bL : 0 ≤ LO ∧ LO ≤ 200 := by omega
              have bH : 0 ≤ HI ∧ HI ≤ 200 := by omega
              clear eL eH hLO hHI Hst z0 z1 z2
              have hA11 := (Below.refl _ wr).alloc (Nat.le_refl _) (.cells #[.int .i64 A, .int .i64 (A + x), .int .i64 y] 103)
              have r11 := heap_alloc_new wr (.cells #[.int .i64 A, .int .i64 (A + x), .int .i64 y] 103)
              replace hown := Lib.hid (own_below hown.out hA11)
              replace hb := hb.trans (hA11.mono hb.size)
              clear hA11
              generalize wr.alloc (.cells #[.int .i64 A, .int .i64 (A + x), .int .i64 y] 103) = W5 at hown hb r11 ⊢
              have c2 := cell_of_row W5 _ 2 _ _ _ r11
              simp at c2
              clear r11
              replace hb : Below w3.heap.size w3 W5.drew := below_drewN hb 1
              replace hown : Hid (W5.drew.ownsRow w3.heap.size 52 2 u9 U.length (flat2 U)) := Lib.hid (own_below hown.out (below_drewN (Below.refl _ W5) 1))
              replace c2 : W5.drew.cell? ⟨wr.heap.size, 2, none⟩ = some (.int .i64 y) := c2
              generalize W5.drew = W6 at hown hb c2 ⊢
              have hs6 := hb.size
              by_cases hlh : LO < HI
              · rw [if_pos hlh] at hst
                have Hst := Lib.hid hst
                clear hst
                have y1 : IntKind.i64.wrap (HI - LO) = HI - LO := IntWalk.i64_in _ (by omega)
                have hk6 := hkl2.out
                have hsz : U.length ≤ 6 := by omega
                go_wp2_with (first | (at_builtin; refine wpList_append_own _ rfl _ _ 22 rfl w3.heap.size 52 i0 (.agg #[.int .i64 0, .int .i64 0]) 2 16 Try.underlying22 hi0 hz0 hz1 hz2 rfl (by decide) _ U.length _ rfl (hown.out.alloc _) ⟨W6.heap.size, 0, none⟩ 1 1 [.int .i64 (HI - LO), .int .i64 y] rfl rfl (World.news_of_block (cs := #[.int .i64 (HI - LO), .int .i64 y]) (t := 52) (fr := (0, 0)) (heap_alloc_new W6 _)) (by simp [Value.oneCell']) (by unfold maxLen; omega) (by omega) (by simp; omega) ?_; intro v' w7 hown7 hgrow7 hnil7; have hb7 : Below w3.heap.size w3 w7 := (hb.alloc hs6 _).grown hgrow7 (by simp; omega) (fun q hq => (hown.out.lt _ hq).1); clear hgrow7 hnil7))
                go_roundw
                case rel => exact ⟨k + 1, by omega, by go_num, Lib.hid (by rw [Hst.out, flat2_app, List.length_append]; exact hown7), Lib.hid (by rw [Hst.out, List.length_append]; have := hkl2.out; simp; omega), hb7⟩
                case measure => simp [intOf]; omega
              · rw [if_neg hlh, List.append_nil] at hst
                have Hst := Lib.hid hst
                clear hst
                go_wp2
                go_roundw
                case rel => exact ⟨k + 1, by omega, by go_num, Lib.hid (by rw [Hst.out]; exact hown.out), Lib.hid (by rw [Hst.out]; have := hkl2.out; omega), hb⟩
                case measure => simp [intOf]; omega
            · have hk2 : k = n := by omega
              have ho := hown.out
              rw [hk2, Hn.out, List.take_length] at ho
              have Ho := Lib.hid (fieldMade_own ho)
              have hB2 := hB.trans (hb.mono hB.size)
              clear ho hown hk2
              go_wp2
              go_ret2
              rw [hC0.out]
              exact ⟨⟨_, rfl, Ho.out⟩, hB2⟩
  · have hcv : Hid (C = v) := Lib.hid (by
      have := HC.out
      unfold Fl.partW at this
      rw [if_pos (by rw [← Hv.out]; exact code_ne hv0), ← Hv.out] at this
      exact this.symm)
    go_wp2
    go_ret2
    rw [hcv.out]
    exact ⟨⟨_, rfl, fieldMade_no (code_ne hv0)⟩, hB⟩
end Go.Proofs.Ytkpabehjehbidaa
