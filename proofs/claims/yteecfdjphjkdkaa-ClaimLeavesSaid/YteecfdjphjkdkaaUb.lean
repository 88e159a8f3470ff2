import Derived.Test.YteecfdjphjkdkaaUa
import Derived.Test.YteecfdjphjkdkaaQc
namespace Go.Proofs.Yteecfdjphjkdkaa
open Go.RowKit
namespace Cl
def wo (L : List Int) (k j : Nat) : List Int := (L.take j).eraseIdx k
theorem wo_low {L : List Int} {k j : Nat} (h : j ≤ k) : wo L k j = L.take j := List.eraseIdx_of_length_le (by rw [List.length_take]; omega)
theorem wo_skip {L : List Int} {k : Nat} (h : k < L.length) : wo L k (k + 1) = wo L k k := by
  rw [wo_low (Nat.le_refl k)]
  unfold wo
  rw [List.take_succ_eq_append_getElem h, List.eraseIdx_append_of_length_le (by rw [List.length_take]; omega)]
  rw [List.length_take, Nat.min_eq_left (by omega)]
  simp
theorem wo_take {L : List Int} {k j : Nat} (h : j < L.length) (hne : j ≠ k) : wo L k (j + 1) = wo L k j ++ [L[j]] := by
  rcases Nat.lt_or_ge j k with h2 | h2
  · rw [wo_low (by omega), wo_low (by omega), List.take_succ_eq_append_getElem h]
  · unfold wo
    rw [List.take_succ_eq_append_getElem h, List.eraseIdx_append_of_lt_length (by rw [List.length_take]; omega)]
theorem wo_all {L : List Int} {k : Nat} (_ : k < L.length) : wo L k L.length = L.take k ++ L.drop (k + 1) := by
  unfold wo
  rw [List.take_length, List.eraseIdx_eq_take_drop_succ]
theorem wo_len {L : List Int} {k j : Nat} : (wo L k j).length ≤ j := by
  have h1 := List.length_eraseIdx_le (L.take j) k
  have h2 : (L.take j).length ≤ j := by rw [List.length_take]; omega
  unfold wo
  omega
end Cl
theorem own_ints2 {w : World} {base n : Nat} {e : TypeId} {v : Value} {L : List Int} (h : w.ownsRow base e 1 v n (L.map (Value.int .i64))) (hn : n = L.length) :
    ∃ ao cap, v = .slice ao n cap ∧ Ints w ao L ∧ ∀ b off, ao = some ⟨b, off, none⟩ → base ≤ b := by
  obtain ⟨ao, cap, rfl, -, hI⟩ := own_ints h hn
  refine ⟨ao, cap, rfl, hI, fun b off e => ?_⟩
  rcases h.2 with ⟨h0, _⟩ | ⟨g, cap', cur, he, hb, _⟩
  · cases h0; cases e
  · cases he; cases e; exact hb
theorem Ints.set_other2 {w : World} {ao : Option Addr} {G : Nat} {l : List Int} (h : Ints w ao l) (hne : ∀ b off, ao = some ⟨b, off, none⟩ → b ≠ G) (o : Nat) (v : Value) : Ints (w.setCell ⟨G, o, none⟩ v) ao l := by
  refine ⟨fun h0 => ?_⟩
  obtain ⟨b, off, e, hb, hc⟩ := h.cells h0
  refine ⟨b, off, e, by simp [World.setCell]; exact hb, fun i hi => ?_⟩
  rw [← hc i hi]
  exact World.cell?_of_block (heap_setCell_other w ⟨G, o, none⟩ b v (hne b off e))
set_option maxRecDepth 100000 in
set_option maxHeartbeats 4000000 in
theorem rleave_any (L : List Int) (E : Int) (A : List (Int × Int)) (i : Int) (ao : Option Addr) (n cap : Nat) (aoA : Option Addr) (nA capA : Nat) (w : World) (hI : Ints w ao L) (hJ : Pts w aoA A) (hln : n = L.length) (hlA : nA = A.length) (hn : n ≤ 100000) (hnA : nA ≤ 100000) :
    Calls Try.prog 51 #[.slice ao n cap, .int .i64 E, .slice aoA nA capA, .int .i64 i] w fun e w' => ∃ ao2 cap2, e = .returned (.tuple #[.slice ao2 (Cl.lvL L E A i).length cap2, Cl.lvQ L E A i, .int .i64 (Cl.lvC L E A i)]) ∧ Ints w' ao2 (Cl.lvL L E A i) ∧ Below w.heap.size w w' := by
  obtain ⟨i0, hi0, hz0, hz1, hz2⟩ := info_in
  have Hn := Lib.hid hln
  have HA := Lib.hid hlA
  have HI0 := Lib.hid hI
  have HJ0 := Lib.hid hJ
  have r0 := heap_alloc_new w (.cells #[.int .i64 0, .int .i64 0] 35)
  have hB : Below w.heap.size w (w.alloc (.cells #[.int .i64 0, .int .i64 0] 35)) := (Below.refl _ w).alloc (Nat.le_refl _) _
  have F1 := Lib.hid (@Cl.lv_bad L E A i)
  have F2 := Lib.hid (@Cl.lv_none L E A i)
  have F3 := Lib.hid (fun (k : Nat) => @Cl.lv_ok L E A k)
  have HLQ : Hid (∀ C LL Q, Cl.lvC L E A i = C ∧ Cl.lvL L E A i = LL ∧ Cl.lvQ L E A i = Q → ∀ w' ao2 cap2, Ints w' ao2 LL → Below w.heap.size w w' → ∃ ao3 cap3, Ending.returned (.tuple #[.slice ao2 LL.length cap2, Q, .int .i64 C]) = .returned (.tuple #[.slice ao3 (Cl.lvL L E A i).length cap3, Cl.lvQ L E A i, .int .i64 (Cl.lvC L E A i)]) ∧ Ints w' ao3 (Cl.lvL L E A i) ∧ Below w.heap.size w w') := Lib.hid (by
    rintro C LL Q ⟨rfl, rfl, rfl⟩ w' ao2 cap2 h2 h3
    exact ⟨ao2, cap2, rfl, h2, h3⟩)
  clear hln hlA hI hJ
  go_enter Try.func51, Try.ntmps51
  go_upto_region 1 with fail
  generalize w.alloc (.cells #[.int .i64 0, .int .i64 0] 35) = W at r0 hB ⊢
  obtain ⟨G, hG⟩ : ∃ G, G = w.heap.size := ⟨_, rfl⟩
  rw [← hG] at r0 ⊢
  have HG := Lib.hid hG
  have hGw : w.heap.size ≤ G := by omega
  clear hG
  go_wp2_with fail
  refine ((rcheck_any L E A ao n cap aoA nA capA W (HI0.out.below hB) (HJ0.out.below hB) Hn.out HA.out hn hnA)).mono ?_
  rintro e w1 ⟨rfl, hbb⟩
  replace r0 := heap_keep hbb r0
  replace hB := hB.trans (hbb.mono hB.size)
  clear hbb
  obtain ⟨⟨c0, c1⟩, f0, f1⟩ := row_fr r0
  have r1 := two_cells r0 (.int .i64 0) (.int .i64 0)
  by_cases hc : Cl.chC L E A = 0
  · have e1 : IntKind.i64.wrap ((n : Int) - 1) = (n : Int) - 1 := IntWalk.i64_in _ (by omega)
    rw [hc]
    go_wp2_with fail
    refine (rwithin_any i 0 ((n : Int) - 1) w1).mono ?_
    rintro e w2 ⟨rfl, hw2⟩
    rw [hw2]
    clear hw2 w2
    by_cases g1 : 0 ≤ i ∧ i ≤ (n : Int) - 1
    · rw [show (decide ((0 : Int) ≤ i) && decide (i ≤ (n : Int) - 1)) = true by simp; omega]
      obtain ⟨k, rfl⟩ := Int.eq_ofNat_of_zero_le g1.1
      have hkn : k < n := by omega
      have hkA : k < A.length := by rw [(Cl.ch_ok hc).2.1, ← Hn.out]; exact hkn
      have hR : Hid (Cl.lvC L E A (k : Int) = 0 ∧ Cl.lvL L E A (k : Int) = Cl.wo L k n ∧ Cl.lvQ L E A (k : Int) = Fr (Cl.lsF E A[k])) := Lib.hid (by
        have h := F3.out k hc (by have := Hn.out; omega)
        rw [List.getD_eq_getElem?_getD, List.getElem?_eq_getElem hkA] at h
        rw [Hn.out, Cl.wo_all (by have := Hn.out; omega)]
        exact h)
      have hn8 : n ≤ 8 := by have := Hn.out; have := (Cl.okC_iff.1 (Cl.caseC_ok.1 (Cl.ch_ok hc).1).1).2.1; omega
      have hnAn : nA = n := by rw [HA.out, Hn.out]; exact (Cl.ch_ok hc).2.1
      have HE : Hid (0 ≤ E ∧ E ≤ 8000) := Lib.hid (by
        obtain ⟨a1, a2, a3⟩ := Cl.caseC_ok.1 (Cl.ch_ok hc).1
        have HC := Cl.okC_iff.1 a1
        have h := Cl.sum_small (B := 1000) (by omega) (l := L) (fun x hx => by have := HC.2.2 x hx; omega)
        omega)
      have hrt := Cl.rtOk_iff.1 (Cl.com_all (Cl.ch_ok hc).2.2.1 _ (List.getElem_mem hkA))
      have hle := Cl.ch_leE hc (List.getElem_mem hkA)
      obtain ⟨b2, off2, rfl, hb2, hx1, hx2⟩ := pts_at HJ0.out hkA
      generalize A[k] = x at hx1 hx2 hrt hle hR
      obtain ⟨x1, x2⟩ := x
      simp only at hx1 hx2 hrt hle
      have hxb : 0 ≤ x1 ∧ x1 ≤ 10000000 ∧ 1 ≤ x2 ∧ x2 ≤ 10000 := ⟨hrt.1, hrt.2.1, hrt.2.2.1, hrt.2.2.2.1⟩
      have HX := Lib.hid (And.intro hx1 (And.intro hx2 hle))
      clear hrt hx1 hx2 hle F1 F2 F3 c0 c1 f0 f1 r1
      have hBc := Below.refl w1.heap.size w1
      go_wp2_with fail
      go_loopw [12, 13] (fun v j wr => ∃ (q : Nat), q ≤ n ∧ j = .int .i64 q ∧ Hid (wr.ownsRow w1.heap.size 3 1 v (Cl.wo L k q).length ((Cl.wo L k q).map (Value.int .i64))) ∧ Below w1.heap.size w1 wr) (fun _ j _ => n - (intOf j).toNat)
      case atStart => exact ⟨0, Nat.zero_le _, rfl, Lib.hid (by rw [Cl.wo_low (Nat.zero_le _)]; exact ⟨rfl, .inl ⟨rfl, rfl⟩⟩), hBc⟩
      case round =>
        clear hBc
        obtain ⟨q, hq, rfl, hown, hBw⟩ := hrel
        by_cases hlt : q < n
        · have hqL : q < L.length := by have := Hn.out; omega
          have i1 : (q : Int) < (n : Int) := by omega
          by_cases hqk : q = k
          · have Hst := Lib.hid (Cl.wo_skip hqL)
            subst hqk
            go_wp2_with fail
            go_roundw
            case rel => exact ⟨q + 1, by omega, by go_num, Lib.hid (by rw [Hst.out]; exact hown.out), hBw⟩
            case measure => simp [intOf]; omega
          · have i2 : ¬ ((q : Int) = (k : Int)) := by omega
            have Hst := Lib.hid (Cl.wo_take hqL hqk)
            obtain ⟨b, off, rfl, hbs, hcx⟩ := ((HI0.out.below hB).below hBw).at hqL
            rw [Cl.gd hqL] at hcx
            generalize L[q] = x at hcx Hst
            have hlen : (Cl.wo L k q).length ≤ q := Cl.wo_len
            obtain ⟨cnt, hcnt⟩ : ∃ cnt, cnt = (Cl.wo L k q).length := ⟨_, rfl⟩
            have Hcnt := Lib.hid hcnt
            rw [← hcnt] at hown hlen
            clear hcnt
            go_wp2_with (first | (at_builtin; refine wpList_append_own _ rfl _ _ 22 rfl w1.heap.size 3 i0 (.int .i64 0) 1 8 Try.underlying22 hi0 hz0 hz1 hz2 rfl (by decide) _ cnt _ rfl (hown.out.alloc _) ⟨wr.heap.size, 0, none⟩ 1 1 [.int .i64 x] rfl rfl (World.news_of_block (cs := #[.int .i64 x]) (t := 3) (fr := (0, 0)) (heap_alloc_new wr _)) (by simp [Value.oneCell']) (by unfold maxLen; omega) (by omega) (by have := hBw.size; simp; omega) ?_; intro v' w3 hown3 hgrow3 hnil3; have hb3 : Below w1.heap.size w1 w3 := (hBw.alloc hBw.size _).grown hgrow3 (by have := hBw.size; simp; omega) (fun g hg => (hown.out.lt _ hg).1); clear hgrow3 hnil3))
            have hown4 : Hid (w3.ownsRow w1.heap.size 3 1 v' (Cl.wo L k (q + 1)).length ((Cl.wo L k (q + 1)).map (Value.int .i64))) := Lib.hid (by
              rw [Hst.out, List.length_append, ← Hcnt.out, List.map_append]
              exact hown3)
            clear hown3
            go_roundw
            case rel => exact ⟨q + 1, by omega, by go_num, hown4, hb3⟩
            case measure => simp [intOf]; omega
        · have hqn : q = n := by omega
          subst hqn
          obtain ⟨ao2, cap2, rfl, hI2, hao⟩ := own_ints2 hown.out rfl
          have hao2 : ∀ b off, ao2 = some ⟨b, off, none⟩ → b ≠ G := fun b off e => by
            have h1 := hao b off e
            have h2 := heap_lt r0
            omega
          clear hao
          replace r0 := heap_keep hBw r0
          have hB1 := hB.trans (hBw.mono hB.size)
          obtain ⟨⟨c0, c1⟩, f0, f1⟩ := row_fr r0
          obtain ⟨hx1, hx2, hle⟩ := HX.out
          rw [← hB1.cell (p := ⟨b2, _, none⟩) hb2] at hx1 hx2
          have hbG : b2 ≠ G := by omega
          have hk1 : (k : Int) < (q : Int) := by omega
          obtain ⟨d, rfl⟩ := Int.eq_ofNat_of_zero_le (show 0 ≤ x2 by omega)
          have p2 : E * (d : Int) ≤ 8000 * 10000 := Int.mul_le_mul HE.out.2 hxb.2.2.2 (by omega) (by omega)
          have p3 : 0 ≤ E * (d : Int) := Int.mul_nonneg HE.out.1 (by omega)
          obtain ⟨V, hV⟩ : ∃ V : Nat, (V : Int) = E * (d : Int) - x1 := ⟨(E * (d : Int) - x1).toNat, by omega⟩
          have hVb : V ≤ 100000000 := by omega
          obtain ⟨p, hp⟩ : ∃ p, p = E * (d : Int) := ⟨_, rfl⟩
          have e2 : IntKind.i64.wrap (E * (d : Int)) = p := by rw [hp]; exact IntWalk.i64_in _ (by omega)
          have e3 : IntKind.i64.wrap (p - x1) = (V : Int) := by rw [hV, hp]; exact IntWalk.i64_in _ (by omega)
          have hq : Cl.lsF E (x1, (d : Int)) = mkRat V d := by unfold Cl.lsF; simp only [Int.toNat_natCast]; rw [hV]
          have hdb : 1 ≤ d ∧ d ≤ 10000 := by omega
          rw [hq] at hR
          obtain ⟨Q, hqd⟩ : ∃ Q, Q = mkRat V d := ⟨_, rfl⟩
          rw [← hqd] at hR
          have hRt : Hid (∀ w', Calls Try.prog 54 #[.int .i64 V, .int .i64 d] w' fun e w'' => e = .returned (.agg #[.int .i64 Q.num, .int .i64 Q.den]) ∧ Below w'.heap.size w' w'') := Lib.hid (fun w' => by
            have h := ratio_any V d w' (by omega) (by omega) (by omega)
            rw [← hqd] at h
            exact h)
          clear hq hqd hV hp p2 p3 hle hown hc
          obtain ⟨m, hm⟩ : ∃ m, m = (Cl.wo L k q).length := ⟨_, rfl⟩
          rw [← hm]
          have HM := Lib.hid hm.symm
          clear hm
          go_upto_region 12 with fail
          refine wp_region_held_drew (S := fun w' => w'.cell? ⟨b2, off2 + k * 2, none⟩ = some (.int .i64 x1) ∧ w'.cell? ⟨b2, off2 + k * 2 + 1, none⟩ = some (.int .i64 (d : Int))) (by kernel_rfl) ⟨hx1, hx2⟩ (fun hHeld => ?_)
          refine wpAnyH_take (i := 0) (v := .slice ao2 m cap2) rfl (by kernel_rfl) (by kernel_rfl) (by kernel_rfl) (fun _ _ _ h => h) (Or.inl ⟨by rfl, fun w hSw => ?_⟩) (by assumption) ?_
          · (try dsimp only at hSw); (go_simp <;> omega)
          try simp only [List.getElem_toArray, List.getElem_cons_zero, Act.put, List.setIfInBounds_toArray, List.set_cons_zero, List.set_cons_succ]
          refine wpAnyH_take (i := 1) (v := .int .i64 E) rfl (by kernel_rfl) (by kernel_rfl) (by kernel_rfl) (fun _ _ _ h => h) (Or.inl ⟨by rfl, fun w hSw => ?_⟩) (by assumption) ?_
          · (try dsimp only at hSw); (go_simp <;> omega)
          try simp only [List.getElem_toArray, List.getElem_cons_zero, List.getElem_cons_succ, Act.put, List.setIfInBounds_toArray, List.set_cons_zero, List.set_cons_succ]
          refine wpAnyH_take (i := 2) (v := .slice (some ⟨b2, off2, none⟩) nA capA) rfl (by kernel_rfl) (by kernel_rfl) (by kernel_rfl) (fun _ _ _ h => h) (Or.inl ⟨by rfl, fun w hSw => ?_⟩) (by assumption) ?_
          · (try dsimp only at hSw); (go_simp <;> omega)
          try simp only [List.getElem_toArray, List.getElem_cons_zero, List.getElem_cons_succ, Act.put, List.setIfInBounds_toArray, List.set_cons_zero, List.set_cons_succ]
          refine wpAnyH_take (i := 3) (v := .int .i64 k) rfl (by kernel_rfl) (by kernel_rfl) (by kernel_rfl) (fun _ _ _ h => h) (Or.inl ⟨by rfl, fun w hSw => ?_⟩) (by assumption) ?_
          · (try dsimp only at hSw); (go_simp <;> omega)
          try simp only [List.getElem_toArray, List.getElem_cons_zero, List.getElem_cons_succ, Act.put, List.setIfInBounds_toArray, List.set_cons_zero, List.set_cons_succ]
          refine wpAnyH_take (i := 4) (v := .pointer (some ⟨b2, off2 + k * 2, none⟩)) rfl (by kernel_rfl) (by kernel_rfl) (by kernel_rfl) (fun _ _ _ h => h) (Or.inl ⟨by rfl, fun w hSw => ?_⟩) (by assumption) ?_
          · (try dsimp only at hSw); (go_simp <;> omega)
          try simp only [List.getElem_toArray, List.getElem_cons_zero, List.getElem_cons_succ, Act.put, List.setIfInBounds_toArray, List.set_cons_zero, List.set_cons_succ]
          refine wpAnyH_take (i := 5) (v := .pointer (some ⟨b2, off2 + k * 2 + 1, none⟩)) rfl (by kernel_rfl) (by kernel_rfl) (by kernel_rfl) (fun _ _ _ h => h) (Or.inl ⟨by rfl, fun w hSw => ?_⟩) (by assumption) ?_
          · (try dsimp only at hSw); (go_simp <;> omega)
          try simp only [List.getElem_toArray, List.getElem_cons_zero, List.getElem_cons_succ, Act.put, List.setIfInBounds_toArray, List.set_cons_zero, List.set_cons_succ]
          refine wpAnyH_take (i := 6) (v := .int .i64 (d : Int)) rfl (by kernel_rfl) (by kernel_rfl) (by kernel_rfl) (fun _ _ _ h => h) (Or.inl ⟨by rfl, fun w hSw => ?_⟩) (by assumption) ?_
          · (try dsimp only at hSw); (go_simp <;> omega)
          try simp only [List.getElem_toArray, List.getElem_cons_zero, List.getElem_cons_succ, Act.put, List.setIfInBounds_toArray, List.set_cons_zero, List.set_cons_succ]
          refine wpAnyH_take (i := 7) (v := .int .i64 p) rfl (by kernel_rfl) (by kernel_rfl) (by kernel_rfl) (fun _ _ _ h => h) (Or.inl ⟨by rfl, fun w hSw => ?_⟩) (by assumption) ?_
          · (try dsimp only at hSw); (go_simp <;> omega)
          try simp only [List.getElem_toArray, List.getElem_cons_zero, List.getElem_cons_succ, Act.put, List.setIfInBounds_toArray, List.set_cons_zero, List.set_cons_succ]
          refine wpAnyH_take (i := 8) (v := .slice (some ⟨b2, off2, none⟩) nA capA) rfl (by kernel_rfl) (by kernel_rfl) (by kernel_rfl) (fun _ _ _ h => h) (Or.inl ⟨by rfl, fun w hSw => ?_⟩) (by assumption) ?_
          · (try dsimp only at hSw); (go_simp <;> omega)
          try simp only [List.getElem_toArray, List.getElem_cons_zero, List.getElem_cons_succ, Act.put, List.setIfInBounds_toArray, List.set_cons_zero, List.set_cons_succ]
          refine wpAnyH_take (i := 9) (v := .int .i64 k) rfl (by kernel_rfl) (by kernel_rfl) (by kernel_rfl) (fun _ _ _ h => h) (Or.inl ⟨by rfl, fun w hSw => ?_⟩) (by assumption) ?_
          · (try dsimp only at hSw); (go_simp <;> omega)
          try simp only [List.getElem_toArray, List.getElem_cons_zero, List.getElem_cons_succ, Act.put, List.setIfInBounds_toArray, List.set_cons_zero, List.set_cons_succ]
          refine wpAnyH_take (i := 10) (v := .pointer (some ⟨b2, off2 + k * 2, none⟩)) rfl (by kernel_rfl) (by kernel_rfl) (by kernel_rfl) (fun _ _ _ h => h) (Or.inl ⟨by rfl, fun w hSw => ?_⟩) (by assumption) ?_
          · (try dsimp only at hSw); (go_simp <;> omega)
          try simp only [List.getElem_toArray, List.getElem_cons_zero, List.getElem_cons_succ, Act.put, List.setIfInBounds_toArray, List.set_cons_zero, List.set_cons_succ]
          refine wpAnyH_take (i := 11) (v := .pointer (some ⟨b2, off2 + k * 2, none⟩)) rfl (by kernel_rfl) (by kernel_rfl) (by kernel_rfl) (fun _ _ _ h => h) (Or.inl ⟨by rfl, fun w hSw => ?_⟩) (by assumption) ?_
          · (try dsimp only at hSw); (go_simp <;> omega)
          try simp only [List.getElem_toArray, List.getElem_cons_zero, List.getElem_cons_succ, Act.put, List.setIfInBounds_toArray, List.set_cons_zero, List.set_cons_succ]
          refine wpAnyH_take (i := 12) (v := .int .i64 x1) rfl (by kernel_rfl) (by kernel_rfl) (by kernel_rfl) (fun _ _ _ h => h) (Or.inl ⟨by rfl, fun w hSw => ?_⟩) (by assumption) ?_
          · (try dsimp only at hSw); (go_simp <;> omega)
          try simp only [List.getElem_toArray, List.getElem_cons_zero, List.getElem_cons_succ, Act.put, List.setIfInBounds_toArray, List.set_cons_zero, List.set_cons_succ]
          refine wpAnyH_take (i := 13) (v := .int .i64 (V : Int)) rfl (by kernel_rfl) (by kernel_rfl) (by kernel_rfl) (fun _ _ _ h => h) (Or.inl ⟨by rfl, fun w hSw => ?_⟩) (by assumption) ?_
          · (try dsimp only at hSw); (go_simp <;> omega)
          try simp only [List.getElem_toArray, List.getElem_cons_zero, List.getElem_cons_succ, Act.put, List.setIfInBounds_toArray, List.set_cons_zero, List.set_cons_succ]
          refine wpAnyH_take (i := 14) (v := .slice (some ⟨b2, off2, none⟩) nA capA) rfl (by kernel_rfl) (by kernel_rfl) (by kernel_rfl) (fun _ _ _ h => h) (Or.inl ⟨by rfl, fun w hSw => ?_⟩) (by assumption) ?_
          · (try dsimp only at hSw); (go_simp <;> omega)
          try simp only [List.getElem_toArray, List.getElem_cons_zero, List.getElem_cons_succ, Act.put, List.setIfInBounds_toArray, List.set_cons_zero, List.set_cons_succ]
          refine wpAnyH_take (i := 15) (v := .int .i64 k) rfl (by kernel_rfl) (by kernel_rfl) (by kernel_rfl) (fun _ _ _ h => h) (Or.inl ⟨by rfl, fun w hSw => ?_⟩) (by assumption) ?_
          · (try dsimp only at hSw); (go_simp <;> omega)
          try simp only [List.getElem_toArray, List.getElem_cons_zero, List.getElem_cons_succ, Act.put, List.setIfInBounds_toArray, List.set_cons_zero, List.set_cons_succ]
          refine wpAnyH_take (i := 16) (v := .pointer (some ⟨b2, off2 + k * 2, none⟩)) rfl (by kernel_rfl) (by kernel_rfl) (by kernel_rfl) (fun _ _ _ h => h) (Or.inl ⟨by rfl, fun w hSw => ?_⟩) (by assumption) ?_
          · (try dsimp only at hSw); (go_simp <;> omega)
          try simp only [List.getElem_toArray, List.getElem_cons_zero, List.getElem_cons_succ, Act.put, List.setIfInBounds_toArray, List.set_cons_zero, List.set_cons_succ]
          refine wpAnyH_take (i := 17) (v := .pointer (some ⟨b2, off2 + k * 2 + 1, none⟩)) rfl (by kernel_rfl) (by kernel_rfl) (by kernel_rfl) (fun _ _ _ h => h) (Or.inl ⟨by rfl, fun w hSw => ?_⟩) (by assumption) ?_
          · (try dsimp only at hSw); (go_simp <;> omega)
          try simp only [List.getElem_toArray, List.getElem_cons_zero, List.getElem_cons_succ, Act.put, List.setIfInBounds_toArray, List.set_cons_zero, List.set_cons_succ]
          refine wpAnyH_take (i := 18) (v := .int .i64 (d : Int)) rfl (by kernel_rfl) (by kernel_rfl) (by kernel_rfl) (fun _ _ _ h => h) (Or.inl ⟨by rfl, fun w hSw => ?_⟩) (by assumption) ?_
          · (try dsimp only at hSw); (go_simp <;> omega)
          try simp only [List.getElem_toArray, List.getElem_cons_zero, List.getElem_cons_succ, Act.put, List.setIfInBounds_toArray, List.set_cons_zero, List.set_cons_succ]
          refine wpAnyH_ready (rs := [19]) (by kernel_rfl) (by simp) ?_
          refine AllReadyH.cons rfl (fun K hK => ?_) AllReadyH.nil
          go_simp
          go_at_call 54
          refine (hRt.out _).mono ?_
          rintro e w9 ⟨rfl, hb9⟩
          have hbq := below_drewN (Below.refl wr.heap.size wr) 1
          have hbw9 : Below wr.heap.size wr w9 := hbq.trans (hb9.mono hbq.size)
          have k1 := keep_cell hbw9 hx1
          have k2 := keep_cell hbw9 hx2
          have r9 := heap_keep hbw9 r0
          have hI9 := Lib.hid (hI2.below hbw9)
          have hB9 := hB1.trans (hbw9.mono hB1.size)
          obtain ⟨⟨d0, d1⟩, f2, f3⟩ := row_fr r9
          clear hb9 c0 c1 f0 f1
          (try dsimp only)
          refine hK.out _ _ ⟨k1, k2⟩ (fun hHeld => ?_)
          clear hK K
          try simp only [List.getElem_toArray, List.getElem_cons_zero, List.getElem_cons_succ, Act.put, List.setIfInBounds_toArray, List.set_cons_zero, List.set_cons_succ]
          refine wpAnyH_take (i := 20) (v := .slice ao2 m cap2) rfl (by kernel_rfl) (by kernel_rfl) (by kernel_rfl) (fun _ _ _ h => h) (Or.inl ⟨by rfl, fun w hSw => ?_⟩) (by assumption) ?_
          · (try dsimp only at hSw); (go_simp <;> omega)
          try simp only [List.getElem_toArray, List.getElem_cons_zero, List.getElem_cons_succ, Act.put, List.setIfInBounds_toArray, List.set_cons_zero, List.set_cons_succ]
          refine wpAnyH_ready (rs := [21]) (by kernel_rfl) (by simp) ?_
          refine AllReadyH.cons rfl (fun K hK => ?_) AllReadyH.nil
          go_simp
          have hh : ∀ u v, ((w9.setCell ⟨G, 0, none⟩ u).setCell ⟨G, 1, none⟩ v).heap[b2]? = w9.heap[b2]? := fun u v => (heap_setCell_other _ ⟨G, 1, none⟩ b2 _ hbG).trans (heap_setCell_other _ ⟨G, 0, none⟩ b2 _ hbG)
          have s1 := fun u v => (World.cell?_of_block (a := ⟨b2, off2 + k * 2, none⟩) (hh u v)).trans k1
          have s2 := fun u v => (World.cell?_of_block (a := ⟨b2, off2 + k * 2 + 1, none⟩) (hh u v)).trans k2
          (try dsimp only)
          refine hK.out _ _ ⟨s1 _ _, s2 _ _⟩ (fun hHeld => ?_)
          clear hK K
          try simp only [List.getElem_toArray, List.getElem_cons_zero, List.getElem_cons_succ, Act.put, List.setIfInBounds_toArray, List.set_cons_zero, List.set_cons_succ]
          clear hh s1 s2 k1 k2
          refine wpAnyH_take (i := 22) (v := .int .i64 0) rfl (by kernel_rfl) (by kernel_rfl) (by kernel_rfl) (fun _ _ _ h => h) (Or.inl ⟨by rfl, fun w hSw => ?_⟩) (by assumption) ?_
          · (try dsimp only at hSw); (go_simp <;> omega)
          try simp only [List.getElem_toArray, List.getElem_cons_zero, List.getElem_cons_succ, Act.put, List.setIfInBounds_toArray, List.set_cons_zero, List.set_cons_succ]
          refine wpAnyH_done (by kernel_rfl) ?_ _
          go_wp2_with fail
          refine bodyPost_ret (results_tct (p := 9) (q := 8) (r := 10) rfl _ _ _ _ _ _ _ rfl (two_cells r9 (.int .i64 Q.num) (.int .i64 Q.den)) Try.underlying35 rfl infoRat2) rfl ?_
          have h := HLQ.out _ _ _ hR.out _ ao2 cap2 ((hI9.out.set_other2 hao2 0 (.int .i64 Q.num)).set_other2 hao2 1 (.int .i64 Q.den)) (below_setCell (below_setCell hB9 hGw _) hGw _)
          rw [HM.out] at h
          exact h
    · have hR := Lib.hid (F2.out hc (by have := Hn.out; omega))
      rw [show (decide ((0 : Int) ≤ i) && decide (i ≤ (n : Int) - 1)) = false by simp; omega]
      clear F1 F2 F3 hc
      go_wp2_with fail
      exact bodyPost_ret (results_tct (p := 9) (q := 8) (r := 10) rfl _ _ _ _ _ _ _ rfl r1 Try.underlying35 rfl infoRat2) rfl (HLQ.out _ _ _ hR.out _ none 0 ⟨fun h => by cases h⟩ (below_setCell (below_setCell hB hGw _) hGw _))
  · have e3 : (Cl.chC L E A != 0) = true := by simp [hc]
    have hR := Lib.hid (F1.out hc)
    clear F1 F2 F3
    generalize Cl.chC L E A = C at hc e3 hR ⊢
    go_wp2_with fail
    exact bodyPost_ret (results_tct (p := 9) (q := 8) (r := 10) rfl _ _ _ _ _ _ _ rfl r1 Try.underlying35 rfl infoRat2) rfl (HLQ.out _ _ _ hR.out _ none 0 ⟨fun h => by cases h⟩ (below_setCell (below_setCell hB hGw _) hGw _))
end Go.Proofs.Yteecfdjphjkdkaa
