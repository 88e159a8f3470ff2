import Derived.Test.YteecfdjphjkdkaaRa
namespace Go.Proofs.Yteecfdjphjkdkaa
open Go.RowKit
set_option maxRecDepth 100000 in
set_option maxHeartbeats 4000000 in
theorem rlosses_any (L : List Int) (E : Int) (A : List (Int × Int)) (ao : Option Addr) (n cap : Nat) (aoA : Option Addr) (nA capA : Nat) (w : World) (hI : Ints w ao L) (hJ : Pts w aoA A) (hln : n = L.length) (hlA : nA = A.length) (hn : n ≤ 100000) (hnA : nA ≤ 100000) :
    Calls Try.prog 34 #[.slice ao n cap, .int .i64 E, .slice aoA nA capA] w fun e w' => ∃ ao2 cap2, e = .returned (.tuple #[.slice ao2 (Cl.lsR L E A).length cap2, .int .i64 (Cl.chC L E A)]) ∧ Pts w' ao2 ((Cl.lsR L E A).map pr) ∧ Below w.heap.size w w' := by
  obtain ⟨i0, hi0, hz0, hz1, hz2⟩ := info_rt
  have HI := Lib.hid hI
  have HJ := Lib.hid hJ
  have Hn := Lib.hid hln
  have HnA := Lib.hid hlA
  clear hln hlA hI hJ
  go_enter Try.func34, Try.ntmps34
  go_wp2_with fail
  refine (rcheck_any L E A ao n cap aoA nA capA w HI.out HJ.out Hn.out HnA.out hn hnA).mono ?_
  rintro e w1 ⟨rfl, hB⟩
  by_cases hc : Cl.chC L E A = 0
  · have Hr := Lib.hid (Cl.lsR_ok hc)
    have Hc := Lib.hid hc
    rw [hc]
    clear hc
    have hok := Cl.ch_ok Hc.out
    have HC := Lib.hid (Cl.okC_iff.1 (Cl.caseC_ok.1 hok.1).1)
    have Hne := Lib.hid hok.2.1
    have hn8 : n ≤ 8 := by have := HC.out; have := Hn.out; omega
    clear hok
    go_wp2_with fail
    go_loopw [9, 10] (fun v i wr => ∃ k : Nat, k ≤ n ∧ i = .int .i64 k ∧ Hid (wr.ownsRow w.heap.size 35 2 v k (flat2 ((Cl.lsL (L.take k) (A.take k)).map pr))) ∧ Below w.heap.size w wr) (fun _ i _ => n - (intOf i).toNat)
    case atStart => exact ⟨0, Nat.zero_le _, rfl, Lib.hid ⟨rfl, .inl ⟨rfl, rfl⟩⟩, hB⟩
    case round =>
      clear hB
      obtain ⟨k, hk, rfl, hown, hB⟩ := hrel
      by_cases hlt : k < n
      · have hkL : k < L.length := by have := Hn.out; omega
        have hkA : k < A.length := by have := Hne.out; omega
        obtain ⟨b, off, rfl, hbs, hcx⟩ := HI.out.at hkL
        obtain ⟨b2, off2, rfl, hbs2, hx1, hx2⟩ := pts_at HJ.out hkA
        rw [← hB.cell (p := ⟨b, _, none⟩) hbs] at hcx
        rw [← hB.cell (p := ⟨b2, _, none⟩) hbs2] at hx1 hx2
        rw [Cl.gd hkL] at hcx
        have hcb := HC.out.2.2 _ (List.getElem_mem hkL)
        have hea := Cl.ch_each Hc.out hkL hkA
        have Hst := Lib.hid (Cl.lsL_take hkL hkA)
        generalize L[k] = c at hcx hcb hea Hst
        generalize A[k] = x at hx1 hx2 hea Hst
        obtain ⟨x1, x2⟩ := x
        simp only at hx1 hx2 hea
        have hxr := Cl.rtOk_iff.1 hea.1
        have hxb : 0 ≤ x1 ∧ x1 ≤ 10000000 ∧ 1 ≤ x2 ∧ x2 ≤ 10000 := ⟨hxr.1, hxr.2.1, hxr.2.2.1, hxr.2.2.2.1⟩
        have hle := hea.2
        clear hxr hea
        have i1 : (k : Int) < (n : Int) := by omega
        have i2 : (k : Int) < (nA : Int) := by have := HnA.out; have := Hne.out; have := Hn.out; omega
        obtain ⟨d, rfl⟩ := Int.eq_ofNat_of_zero_le (show 0 ≤ x2 by omega)
        have p2 : c * (d : Int) ≤ 1000 * 10000 := Int.mul_le_mul hcb.2 hxb.2.2.2 (by omega) (by omega)
        obtain ⟨V, hV⟩ : ∃ V : Nat, (V : Int) = c * (d : Int) - x1 := ⟨(c * (d : Int) - x1).toNat, by omega⟩
        have hVb : V ≤ 10000000 := by omega
        have e1 : IntKind.i64.wrap (c * (d : Int)) = c * (d : Int) := IntWalk.i64_in _ (by have := Int.mul_nonneg hcb.1 (show 0 ≤ (d : Int) by omega); omega)
        have e2 : IntKind.i64.wrap (c * (d : Int) - x1) = (V : Int) := by rw [hV]; exact IntWalk.i64_in _ (by omega)
        have hq : Cl.lsF c (x1, (d : Int)) = mkRat V d := by unfold Cl.lsF; simp only [Int.toNat_natCast]; rw [hV]
        have hdb : 1 ≤ d ∧ d ≤ 10000 := by omega
        rw [hq] at Hst
        obtain ⟨q, hqd⟩ : ∃ q, q = mkRat V d := ⟨_, rfl⟩
        rw [← hqd] at Hst
        have hR : Hid (∀ w', Calls Try.prog 54 #[.int .i64 V, .int .i64 d] w' fun e w'' => e = .returned (.agg #[.int .i64 q.num, .int .i64 q.den]) ∧ Below w'.heap.size w' w'') := Lib.hid (fun w' => by
          have h := ratio_any V d w' (by omega) (by omega) (by omega)
          rw [← hqd] at h
          exact h)
        clear hq hqd hV p2 hle
        have hsz := hB.size
        go_upto_region 8 with fail
        have hbq := below_drewN (Below.refl wr.heap.size wr) 1
        refine wp_region_held_drew (S := fun w' => w'.cell? ⟨b, off + k, none⟩ = some (.int .i64 c) ∧ w'.cell? ⟨b2, off2 + k * 2, none⟩ = some (.int .i64 x1) ∧ w'.cell? ⟨b2, off2 + k * 2 + 1, none⟩ = some (.int .i64 (d : Int))) (by kernel_rfl) ⟨hcx, hx1, hx2⟩ (fun hHeld => ?_)
        refine wpAnyH_take (i := 0) (v := u9) rfl (by kernel_rfl) (by kernel_rfl) (by kernel_rfl) (fun _ _ _ h => h) (Or.inl ⟨by rfl, fun w hSw => ?_⟩) (by assumption) ?_
        · (try dsimp only at hSw); (go_simp <;> omega)
        try simp only [List.getElem_toArray, List.getElem_cons_zero, Act.put, List.setIfInBounds_toArray, List.set_cons_zero, List.set_cons_succ]
        refine wpAnyH_take (i := 1) (v := .slice (some ⟨b, off, none⟩) n cap) rfl (by kernel_rfl) (by kernel_rfl) (by kernel_rfl) (fun _ _ _ h => h) (Or.inl ⟨by rfl, fun w hSw => ?_⟩) (by assumption) ?_
        · (try dsimp only at hSw); (go_simp <;> omega)
        try simp only [List.getElem_toArray, List.getElem_cons_zero, List.getElem_cons_succ, Act.put, List.setIfInBounds_toArray, List.set_cons_zero, List.set_cons_succ]
        refine wpAnyH_take (i := 2) (v := .int .i64 k) rfl (by kernel_rfl) (by kernel_rfl) (by kernel_rfl) (fun _ _ _ h => h) (Or.inl ⟨by rfl, fun w hSw => ?_⟩) (by assumption) ?_
        · (try dsimp only at hSw); (go_simp <;> omega)
        try simp only [List.getElem_toArray, List.getElem_cons_zero, List.getElem_cons_succ, Act.put, List.setIfInBounds_toArray, List.set_cons_zero, List.set_cons_succ]
        refine wpAnyH_take (i := 3) (v := .pointer (some ⟨b, off + k, none⟩)) rfl (by kernel_rfl) (by kernel_rfl) (by kernel_rfl) (fun _ _ _ h => h) (Or.inl ⟨by rfl, fun w hSw => ?_⟩) (by assumption) ?_
        · (try dsimp only at hSw); (go_simp <;> omega)
        try simp only [List.getElem_toArray, List.getElem_cons_zero, List.getElem_cons_succ, Act.put, List.setIfInBounds_toArray, List.set_cons_zero, List.set_cons_succ]
        refine wpAnyH_take (i := 4) (v := .int .i64 c) rfl (by kernel_rfl) (by kernel_rfl) (by kernel_rfl) (fun _ _ _ h => h) (Or.inl ⟨by rfl, fun w hSw => ?_⟩) (by assumption) ?_
        · (try dsimp only at hSw); (go_simp <;> omega)
        try simp only [List.getElem_toArray, List.getElem_cons_zero, List.getElem_cons_succ, Act.put, List.setIfInBounds_toArray, List.set_cons_zero, List.set_cons_succ]
        refine wpAnyH_take (i := 5) (v := .slice (some ⟨b2, off2, none⟩) nA capA) rfl (by kernel_rfl) (by kernel_rfl) (by kernel_rfl) (fun _ _ _ h => h) (Or.inl ⟨by rfl, fun w hSw => ?_⟩) (by assumption) ?_
        · (try dsimp only at hSw); (go_simp <;> omega)
        try simp only [List.getElem_toArray, List.getElem_cons_zero, List.getElem_cons_succ, Act.put, List.setIfInBounds_toArray, List.set_cons_zero, List.set_cons_succ]
        refine wpAnyH_take (i := 6) (v := .int .i64 k) rfl (by kernel_rfl) (by kernel_rfl) (by kernel_rfl) (fun _ _ _ h => h) (Or.inl ⟨by rfl, fun w hSw => ?_⟩) (by assumption) ?_
        · (try dsimp only at hSw); (go_simp <;> omega)
        try simp only [List.getElem_toArray, List.getElem_cons_zero, List.getElem_cons_succ, Act.put, List.setIfInBounds_toArray, List.set_cons_zero, List.set_cons_succ]
        refine wpAnyH_take (i := 7) (v := .pointer (some ⟨b2, off2 + k * 2, none⟩)) rfl (by kernel_rfl) (by kernel_rfl) (by kernel_rfl) (fun _ _ _ h => h) (Or.inl ⟨by rfl, fun w hSw => ?_⟩) (by assumption) ?_
        · (try dsimp only at hSw); (go_simp <;> omega)
        try simp only [List.getElem_toArray, List.getElem_cons_zero, List.getElem_cons_succ, Act.put, List.setIfInBounds_toArray, List.set_cons_zero, List.set_cons_succ]
        refine wpAnyH_take (i := 8) (v := .pointer (some ⟨b2, off2 + k * 2 + 1, none⟩)) rfl (by kernel_rfl) (by kernel_rfl) (by kernel_rfl) (fun _ _ _ h => h) (Or.inl ⟨by rfl, fun w hSw => ?_⟩) (by assumption) ?_
        · (try dsimp only at hSw); (go_simp <;> omega)
        try simp only [List.getElem_toArray, List.getElem_cons_zero, List.getElem_cons_succ, Act.put, List.setIfInBounds_toArray, List.set_cons_zero, List.set_cons_succ]
        refine wpAnyH_take (i := 9) (v := .int .i64 (d : Int)) rfl (by kernel_rfl) (by kernel_rfl) (by kernel_rfl) (fun _ _ _ h => h) (Or.inl ⟨by rfl, fun w hSw => ?_⟩) (by assumption) ?_
        · (try dsimp only at hSw); (go_simp <;> omega)
        try simp only [List.getElem_toArray, List.getElem_cons_zero, List.getElem_cons_succ, Act.put, List.setIfInBounds_toArray, List.set_cons_zero, List.set_cons_succ]
        refine wpAnyH_take (i := 10) (v := .int .i64 (c * (d : Int))) rfl (by kernel_rfl) (by kernel_rfl) (by kernel_rfl) (fun _ _ _ h => h) (Or.inl ⟨by rfl, fun w hSw => ?_⟩) (by assumption) ?_
        · (try dsimp only at hSw); (go_simp <;> omega)
        try simp only [List.getElem_toArray, List.getElem_cons_zero, List.getElem_cons_succ, Act.put, List.setIfInBounds_toArray, List.set_cons_zero, List.set_cons_succ]
        refine wpAnyH_take (i := 11) (v := .slice (some ⟨b2, off2, none⟩) nA capA) rfl (by kernel_rfl) (by kernel_rfl) (by kernel_rfl) (fun _ _ _ h => h) (Or.inl ⟨by rfl, fun w hSw => ?_⟩) (by assumption) ?_
        · (try dsimp only at hSw); (go_simp <;> omega)
        try simp only [List.getElem_toArray, List.getElem_cons_zero, List.getElem_cons_succ, Act.put, List.setIfInBounds_toArray, List.set_cons_zero, List.set_cons_succ]
        refine wpAnyH_take (i := 12) (v := .int .i64 k) rfl (by kernel_rfl) (by kernel_rfl) (by kernel_rfl) (fun _ _ _ h => h) (Or.inl ⟨by rfl, fun w hSw => ?_⟩) (by assumption) ?_
        · (try dsimp only at hSw); (go_simp <;> omega)
        try simp only [List.getElem_toArray, List.getElem_cons_zero, List.getElem_cons_succ, Act.put, List.setIfInBounds_toArray, List.set_cons_zero, List.set_cons_succ]
        refine wpAnyH_take (i := 13) (v := .pointer (some ⟨b2, off2 + k * 2, none⟩)) rfl (by kernel_rfl) (by kernel_rfl) (by kernel_rfl) (fun _ _ _ h => h) (Or.inl ⟨by rfl, fun w hSw => ?_⟩) (by assumption) ?_
        · (try dsimp only at hSw); (go_simp <;> omega)
        try simp only [List.getElem_toArray, List.getElem_cons_zero, List.getElem_cons_succ, Act.put, List.setIfInBounds_toArray, List.set_cons_zero, List.set_cons_succ]
        refine wpAnyH_take (i := 14) (v := .pointer (some ⟨b2, off2 + k * 2, none⟩)) rfl (by kernel_rfl) (by kernel_rfl) (by kernel_rfl) (fun _ _ _ h => h) (Or.inl ⟨by rfl, fun w hSw => ?_⟩) (by assumption) ?_
        · (try dsimp only at hSw); (go_simp <;> omega)
        try simp only [List.getElem_toArray, List.getElem_cons_zero, List.getElem_cons_succ, Act.put, List.setIfInBounds_toArray, List.set_cons_zero, List.set_cons_succ]
        refine wpAnyH_take (i := 15) (v := .int .i64 x1) rfl (by kernel_rfl) (by kernel_rfl) (by kernel_rfl) (fun _ _ _ h => h) (Or.inl ⟨by rfl, fun w hSw => ?_⟩) (by assumption) ?_
        · (try dsimp only at hSw); (go_simp <;> omega)
        try simp only [List.getElem_toArray, List.getElem_cons_zero, List.getElem_cons_succ, Act.put, List.setIfInBounds_toArray, List.set_cons_zero, List.set_cons_succ]
        refine wpAnyH_take (i := 16) (v := .int .i64 (V : Int)) rfl (by kernel_rfl) (by kernel_rfl) (by kernel_rfl) (fun _ _ _ h => h) (Or.inl ⟨by rfl, fun w hSw => ?_⟩) (by assumption) ?_
        · (try dsimp only at hSw); (go_simp <;> omega)
        try simp only [List.getElem_toArray, List.getElem_cons_zero, List.getElem_cons_succ, Act.put, List.setIfInBounds_toArray, List.set_cons_zero, List.set_cons_succ]
        refine wpAnyH_take (i := 17) (v := .slice (some ⟨b2, off2, none⟩) nA capA) rfl (by kernel_rfl) (by kernel_rfl) (by kernel_rfl) (fun _ _ _ h => h) (Or.inl ⟨by rfl, fun w hSw => ?_⟩) (by assumption) ?_
        · (try dsimp only at hSw); (go_simp <;> omega)
        try simp only [List.getElem_toArray, List.getElem_cons_zero, List.getElem_cons_succ, Act.put, List.setIfInBounds_toArray, List.set_cons_zero, List.set_cons_succ]
        refine wpAnyH_take (i := 18) (v := .int .i64 k) rfl (by kernel_rfl) (by kernel_rfl) (by kernel_rfl) (fun _ _ _ h => h) (Or.inl ⟨by rfl, fun w hSw => ?_⟩) (by assumption) ?_
        · (try dsimp only at hSw); (go_simp <;> omega)
        try simp only [List.getElem_toArray, List.getElem_cons_zero, List.getElem_cons_succ, Act.put, List.setIfInBounds_toArray, List.set_cons_zero, List.set_cons_succ]
        refine wpAnyH_take (i := 19) (v := .pointer (some ⟨b2, off2 + k * 2, none⟩)) rfl (by kernel_rfl) (by kernel_rfl) (by kernel_rfl) (fun _ _ _ h => h) (Or.inl ⟨by rfl, fun w hSw => ?_⟩) (by assumption) ?_
        · (try dsimp only at hSw); (go_simp <;> omega)
        try simp only [List.getElem_toArray, List.getElem_cons_zero, List.getElem_cons_succ, Act.put, List.setIfInBounds_toArray, List.set_cons_zero, List.set_cons_succ]
        refine wpAnyH_take (i := 20) (v := .pointer (some ⟨b2, off2 + k * 2 + 1, none⟩)) rfl (by kernel_rfl) (by kernel_rfl) (by kernel_rfl) (fun _ _ _ h => h) (Or.inl ⟨by rfl, fun w hSw => ?_⟩) (by assumption) ?_
        · (try dsimp only at hSw); (go_simp <;> omega)
        try simp only [List.getElem_toArray, List.getElem_cons_zero, List.getElem_cons_succ, Act.put, List.setIfInBounds_toArray, List.set_cons_zero, List.set_cons_succ]
        refine wpAnyH_take (i := 21) (v := .int .i64 (d : Int)) rfl (by kernel_rfl) (by kernel_rfl) (by kernel_rfl) (fun _ _ _ h => h) (Or.inl ⟨by rfl, fun w hSw => ?_⟩) (by assumption) ?_
        · (try dsimp only at hSw); (go_simp <;> omega)
        try simp only [List.getElem_toArray, List.getElem_cons_zero, List.getElem_cons_succ, Act.put, List.setIfInBounds_toArray, List.set_cons_zero, List.set_cons_succ]
        refine wpAnyH_ready (rs := [22]) (by kernel_rfl) (by simp) ?_
        refine AllReadyH.cons rfl (fun K hK => ?_) AllReadyH.nil
        go_simp
        go_at_call 54
        refine (hR.out _).mono ?_
        rintro e w9 ⟨rfl, hb9⟩
        have hbw9 : Below wr.heap.size wr w9 := hbq.trans (hb9.mono hbq.size)
        have k1 : w9.cell? ⟨b, off + k, none⟩ = some (.int .i64 c) := (hbw9.cell (p := ⟨b, _, none⟩) (show b < wr.heap.size by omega)).trans hcx
        have k2 : w9.cell? ⟨b2, off2 + k * 2, none⟩ = some (.int .i64 x1) := (hbw9.cell (p := ⟨b2, _, none⟩) (show b2 < wr.heap.size by omega)).trans hx1
        have k3 : w9.cell? ⟨b2, off2 + k * 2 + 1, none⟩ = some (.int .i64 (d : Int)) := (hbw9.cell (p := ⟨b2, _, none⟩) (show b2 < wr.heap.size by omega)).trans hx2
        have hown9 := Lib.hid (own_below hown.out hbw9)
        have hB9 := hB.trans (hbw9.mono hsz)
        clear hb9
        (try dsimp only)
        refine hK.out _ _ ⟨k1, k2, k3⟩ (fun hHeld => ?_)
        clear hK K
        try simp only [List.getElem_toArray, List.getElem_cons_zero, List.getElem_cons_succ, Act.put, List.setIfInBounds_toArray, List.set_cons_zero, List.set_cons_succ]
        refine wpAnyH_ready (rs := [23]) (by kernel_rfl) (by simp) ?_
        refine AllReadyH.cons rfl (fun K hK => ?_) AllReadyH.nil
        go_simp
        have hal := (Below.refl _ w9).alloc (Nat.le_refl _) (.cells #[.int .i64 q.num, .int .i64 q.den] 35)
        (try dsimp only)
        refine hK.out _ _ ⟨keep_cell hal k1, keep_cell hal k2, keep_cell hal k3⟩ (fun hHeld => ?_)
        clear hK K
        try simp only [List.getElem_toArray, List.getElem_cons_zero, List.getElem_cons_succ, Act.put, List.setIfInBounds_toArray, List.set_cons_zero, List.set_cons_succ]
        refine wpAnyH_ready (rs := [24]) (by kernel_rfl) (by simp) ?_
        refine AllReadyH.cons rfl (fun K hK => ?_) AllReadyH.nil
        refine step_append_lies _ (by rfl) _ _ _ (by rfl) w.heap.size 35 i0 _ 2 16 Try.underlying27 hi0 hz0 hz1 hz2 rfl (by omega) _ k _ (by rfl) (hown9.out.alloc _) ⟨w9.heap.size, 0, none⟩ 1 1 [.int .i64 q.num, .int .i64 q.den] (by rfl) (by rfl) (World.news_of_block (cs := #[.int .i64 q.num, .int .i64 q.den]) (t := 35) (fr := (0, 0)) (heap_alloc_new w9 _)) (by simp [Value.oneCell']) (by omega) (by unfold maxLen; omega) (by omega) (by have := hB9.size; simp; omega) (w9.heap.size + 1) (by simp) ?_
        intro gg cap7 w7 hown1 hgrow hat hlt5
        have hb7 : Below w.heap.size w w7 := (hB9.alloc hB9.size _).grown hgrow (by have := hB9.size; simp; omega) (fun q hq => (hown9.out.lt _ hq).1)
        have z1 := (hgrow.cell_far ⟨b, off + k, none⟩ (by have := hB9.size; simp; omega) (fun h => absurd (hown9.out.lt b h.symm).1 (by omega))).trans (keep_cell hal k1)
        have z2 := (hgrow.cell_far ⟨b2, off2 + k * 2, none⟩ (by have := hB9.size; simp; omega) (fun h => absurd (hown9.out.lt b2 h.symm).1 (by omega))).trans (keep_cell hal k2)
        have z3 := (hgrow.cell_far ⟨b2, off2 + k * 2 + 1, none⟩ (by have := hB9.size; simp; omega) (fun h => absurd (hown9.out.lt b2 h.symm).1 (by omega))).trans (keep_cell hal k3)
        (try dsimp only)
        refine hK.out _ _ ⟨z1, z2, z3⟩ (fun hHeld => ?_)
        clear hK K
        try simp only [List.getElem_toArray, List.getElem_cons_zero, List.getElem_cons_succ, Act.put, List.setIfInBounds_toArray, List.set_cons_zero, List.set_cons_succ]
        clear hgrow hat hlt5 hal k1 k2 k3 z1 z2 z3
        refine wpAnyH_take (i := 25) (v := .slice (some ⟨gg, 0, none⟩) (k + 1) cap7) rfl (by kernel_rfl) (by kernel_rfl) (by kernel_rfl) (fun _ _ _ h => h) (Or.inl ⟨by rfl, fun w hSw => ?_⟩) (by assumption) ?_
        · (try dsimp only at hSw); (go_simp <;> omega)
        try simp only [List.getElem_toArray, List.getElem_cons_zero, List.getElem_cons_succ, Act.put, List.setIfInBounds_toArray, List.set_cons_zero, List.set_cons_succ]
        refine wpAnyH_done (by kernel_rfl) ?_ _
        go_wp2_with fail
        go_roundw
        case rel => exact ⟨k + 1, by omega, by go_num, Lib.hid (by rw [Hst.out]; exact hown1), hb7⟩
        case measure => simp [intOf]; omega
      · have hkn : k = n := by omega
        have Ho : Hid (wr.ownsRow w.heap.size 35 2 u9 n (flat2 ((Cl.lsR L E A).map pr)) ∧ n = (Cl.lsR L E A).length) := Lib.hid (by
          have h := hown.out
          rw [hkn, Hn.out, List.take_length, ← Hne.out, List.take_length, Hne.out] at h
          rw [Hr.out, Hn.out]
          exact ⟨h, by unfold Cl.lsL; rw [List.length_zipWith, Hne.out, Nat.min_self]⟩)
        clear hkn hown
        obtain ⟨ao8, cap8, rfl, -, hP⟩ := own_pts2 Ho.out.1 (by rw [List.length_map]; exact Ho.out.2)
        go_wp2_with fail
        go_ret2
        exact ⟨ao8, cap8, by rw [← Ho.out.2, Hc.out]; rfl, hP, hB⟩
  · have Hr := Lib.hid (Cl.lsR_no hc)
    have hcn : (Cl.chC L E A != 0) = true := by simpa using hc
    obtain ⟨C, hC⟩ : ∃ C, C = Cl.chC L E A := ⟨_, rfl⟩
    have HCC := Lib.hid hC
    rw [← hC] at hcn ⊢
    clear hc hC
    go_wp2_with fail
    go_ret2
    exact ⟨none, 0, by rw [Hr.out, ← HCC.out]; rfl, by rw [Hr.out]; exact ⟨fun h => by cases h⟩, hB⟩
end Go.Proofs.Yteecfdjphjkdkaa
