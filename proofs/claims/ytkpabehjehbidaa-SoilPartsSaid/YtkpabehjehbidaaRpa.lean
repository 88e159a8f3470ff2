import Derived.Test.YtkpabehjehbidaaPap
namespace Go.Proofs.Ytkpabehjehbidaa
open Go.RowKit

theorem len_step {l : List (Int × Int)} {k : Nat} (hk : k < l.length) : Fl.len (l.take (k + 1)) = Fl.len (l.take k) + (l.getD k (0, 0)).1 := by
  induction l generalizing k with
  | nil => simp at hk
  | cons z r ih =>
    cases k with
    | zero => simp [Fl.len]
    | succ k =>
      have := ih (k := k) (by simpa using hk)
      simp only [List.take_succ_cons, Fl.len, List.getD_cons_succ]
      omega

set_option maxRecDepth 100000 in
set_option maxHeartbeats 4000000 in
theorem rPart_any (l : List (Int × Int)) (f t : Int) (ao : Option Addr) (n cap : Nat) (w : World) (hp : Pts w ao l) (hln : n = l.length) (hn : n ≤ 100000) :
    Calls Try.prog 50 #[.slice ao n cap, .int .i64 f, .int .i64 t] w fun e w' => (∃ v, e = .returned (.tuple #[v, .int .i64 (Fl.partW l f t)]) ∧ FieldMade w' v (Fl.partW l f t) (Fl.partF f t 0 l)) ∧ Below w.heap.size w w' := by
  have Hn := Lib.hid hln
  clear hln
  obtain ⟨C, hC⟩ : ∃ c, Fl.partW l f t = c := ⟨_, rfl⟩
  rw [hC]
  have HC := Lib.hid hC
  clear hC
  obtain ⟨v, hv⟩ : ∃ v, v = Fl.validate l := ⟨_, rfl⟩
  have hv0 : v = 0 ∨ (v != 0) = true := by by_cases h : v = 0 <;> simp [h]
  have Hv := Lib.hid hv
  clear hv
  obtain ⟨i0, hi0, hz0, hz1, hz2⟩ := info_zn
  go_enter Try.func50, Try.ntmps50
  go_wp2_with fail
  refine (rvalidate_any l _ _ _ _ hp Hn.out hn).mono ?_
  rintro e w1 ⟨rfl, hw⟩
  subst hw
  rw [← Hv.out]
  rcases hv0 with rfl | hv0
  · obtain ⟨⟨hl1, hl6⟩, hok⟩ := Fl.validate_ok.1 Hv.out.symm
    have hc1 : Hid ((f < 0 ∨ t ≤ f ∨ Fl.len l < t) → C = 1) := Lib.hid (fun h => by
      have := HC.out
      unfold Fl.partW at this
      rw [if_neg (by rw [← Hv.out]; simp), if_pos h] at this
      exact this.symm)
    by_cases hf : f < 0
    · have hC1 := Lib.hid (hc1.out (.inl hf))
      go_wp2
      go_ret2
      rw [hC1.out]
      exact ⟨⟨_, rfl, fieldMade_no (by decide)⟩, Below.refl _ _⟩
    · by_cases hft : t ≤ f
      · have hC1 := Lib.hid (hc1.out (.inr (.inl hft)))
        go_wp2
        go_ret2
        rw [hC1.out]
        exact ⟨⟨_, rfl, fieldMade_no (by decide)⟩, Below.refl _ _⟩
      · go_wp2_with fail
        refine (units_any l _ _ _ _ hp Hn.out hok hl6).mono ?_
        rintro e w2 ⟨ao3, cap3, rfl, -, hB⟩
        have hul := Fl.units_length hok
        obtain ⟨UL, hUL⟩ : ∃ u, u = (Fl.units l).length := ⟨_, rfl⟩
        rw [← hUL] at hul ⊢
        have hp2 := hp.below hB
        have Hul := Lib.hid hul
        clear hUL hp
        by_cases hlt : (UL : Int) < t
        · have hC1 := Lib.hid (hc1.out (.inr (.inr (by omega))))
          clear hul
          go_wp2
          go_ret2
          rw [hC1.out]
          exact ⟨⟨_, rfl, fieldMade_no (by decide)⟩, hB⟩
        · have hC0 : Hid (C = 0) := Lib.hid (by
            have := HC.out
            unfold Fl.partW at this
            rw [if_neg (by rw [← Hv.out]; simp), if_neg (by omega)] at this
            exact this.symm)
          have hlb := Fl.len_bound hok
          have hf120 : 0 ≤ f ∧ f ≤ 120 := by omega
          have ht120 : 0 ≤ t ∧ t ≤ 120 := by omega
          have hn6 : n ≤ 6 := by have := Hn.out; omega
          have HP := Lib.hid hp2
          have hs2 := hB.size
          clear hul hp2
          go_wp2
          go_loopw [9, 10, 11] (fun v a i wr => ∃ (k : Nat) (A : Int), k ≤ n ∧ i = .int .i64 k ∧ a = .int .i64 A ∧ 0 ≤ A ∧ A ≤ 120 ∧ Hid (A = Fl.len (l.take k)) ∧ Hid (wr.ownsRow w2.heap.size 52 2 v (Fl.partF f t 0 (l.take k)).length (flat2 (Fl.partF f t 0 (l.take k)))) ∧ Hid ((Fl.partF f t 0 (l.take k)).length ≤ k) ∧ Below w2.heap.size w2 wr) (fun _ _ i _ => n - (intOf i).toNat)
          case atStart => exact ⟨0, 0, Nat.zero_le _, rfl, rfl, by omega, by omega, Lib.hid rfl, Lib.hid ⟨rfl, .inl ⟨rfl, rfl⟩⟩, Lib.hid (Nat.le_refl _), Below.refl _ _⟩
          case round =>
            obtain ⟨k, A, hk, rfl, rfl, hA0, hA120, HA, hown, hkl2, hb⟩ := hrel
            by_cases hlt : k < n
            · have hkl : k < l.length := by have := Hn.out; omega
              obtain ⟨b, off, rfl, hbs, hc⟩ := HP.out.cells (by omega)
              obtain ⟨c0, c1⟩ := hc k hkl
              have HC0 := Lib.hid c0
              replace c0 := keep_cell hb c0
              replace c1 := keep_cell hb c1
              have hst := Fl.partF_take (f := f) (t := t) hkl (s := 0)
              rw [Int.zero_add, ← HA.out] at hst
              have hls := len_step hkl
              rw [← HA.out] at hls
              have b1 := len_take_bound hok hl6 (k + 1)
              have b2 := ok_at hok hkl
              rw [hls] at b1
              have i1 : (k : Int) < (n : Int) := by omega
              obtain ⟨zz, hzz⟩ : ∃ x, x = l.getD k (0, 0) := ⟨_, rfl⟩
              obtain ⟨x, y⟩ := zz
              rw [← hzz] at hst b2 c0 c1 hls b1 HC0
              simp only at c0 c1 b2 b1 hls HC0
              obtain ⟨U, hU⟩ : ∃ u, u = Fl.partF f t 0 (l.take k) := ⟨_, rfl⟩
              rw [← hU] at hst hown hkl2
              have HA2 : Hid (A + x = Fl.len (l.take (k + 1))) := Lib.hid hls.symm
              clear hU hzz hls hc
              have hs := hb.size
              have hbl : b < wr.heap.size := by omega
              obtain ⟨N, hN⟩ : ∃ N, N = (if A + x < t then A + x else t) - (if f < A then A else f) := ⟨_, rfl⟩
              have eN : min (A + x) t - max A f = N := by rw [hN]; split <;> split <;> omega
              have y0 : IntKind.i64.wrap (A + x) = A + x := IntWalk.i64_in _ (by omega)
              have y1 : IntKind.i64.wrap ((if A + x < t then A + x else t) - (if f < A then A else f)) = N := by rw [← hN]; exact IntWalk.i64_in _ (by omega)
              have bN : N ≤ 200 := by omega
              have hxA : 0 ≤ A + x ∧ A + x ≤ 120 := by omega
              unfold Fl.partZ at hst
              simp only at hst
              rw [eN] at hst
              by_cases hlh : 0 < N
              · rw [if_pos (by omega)] at hst
                have Hst := Lib.hid hst
                have hk6 := hkl2.out
                have hsz : U.length ≤ 6 := by omega
                clear hst hN eN
                go_wp2_with (first | (at_builtin; refine wpList_append_own _ rfl _ _ 22 rfl w2.heap.size 52 i0 (.agg #[.int .i64 0, .int .i64 0]) 2 16 Try.underlying22 hi0 hz0 hz1 hz2 rfl (by decide) _ U.length _ rfl (hown.out.alloc _) ⟨wr.heap.size, 0, none⟩ 1 1 [.int .i64 N, .int .i64 y] rfl rfl (World.news_of_block (cs := #[.int .i64 N, .int .i64 y]) (t := 52) (fr := (0, 0)) (heap_alloc_new wr _)) (by simp [Value.oneCell']) (by unfold maxLen; omega) (by omega) (by simp; omega) ?_; intro v' w7 hown7 hgrow7 hnil7; have hb7 : Below w2.heap.size w2 w7 := (hb.alloc hs _).grown hgrow7 (by simp; omega) (fun q hq => (hown.out.lt _ hq).1); replace c0 : w7.cell? ⟨b, off + k * 2, none⟩ = some (.int .i64 x) := (keep_cell hb7 HC0.out); clear hgrow7 hnil7))
                go_roundw
                case rel => exact ⟨k + 1, A + x, by omega, by go_num, rfl, by omega, by omega, HA2, Lib.hid (by rw [Hst.out, flat2_app, List.length_append]; exact hown7), Lib.hid (by rw [Hst.out, List.length_append]; have := hkl2.out; simp; omega), hb7⟩
                case measure => simp [intOf]; omega
              · rw [if_neg (by omega), List.append_nil] at hst
                have Hst := Lib.hid hst
                clear hst hN eN
                go_wp2
                go_roundw
                case rel => exact ⟨k + 1, A + x, by omega, by go_num, rfl, by omega, by omega, HA2, Lib.hid (by rw [Hst.out]; exact hown.out), Lib.hid (by rw [Hst.out]; have := hkl2.out; omega), hb⟩
                case measure => simp [intOf]; omega
            · have hk2 : k = n := by omega
              have ho := hown.out
              rw [hk2, Hn.out, List.take_length] at ho
              have Ho := Lib.hid (fieldMade_own ho)
              have hB2 := hB.trans (hb.mono hs2)
              clear ho hown hk2
              go_wp2
              go_ret2
              rw [hC0.out]
              exact ⟨⟨_, rfl, Ho.out⟩, hB2⟩
  · have hcv : Hid (C = v) := Lib.hid (by
      have := HC.out
      unfold Fl.partW at this
      rw [if_pos (by rw [← Hv.out]; exact code_ne hv0), ← Hv.out] at this
      exact this.symm)
    go_wp2
    go_ret2
    rw [hcv.out]
    exact ⟨⟨_, rfl, fieldMade_no (code_ne hv0)⟩, Below.refl _ _⟩
end Go.Proofs.Ytkpabehjehbidaa
