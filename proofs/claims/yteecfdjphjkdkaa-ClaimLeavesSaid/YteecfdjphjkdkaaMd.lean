import Derived.Test.YteecfdjphjkdkaaMc
import Derived.Test.YteecfdjphjkdkaaFq
import Derived.Test.YteecfdjphjkdkaaFr
namespace Go.Proofs.Yteecfdjphjkdkaa
open Go.RowKit
set_option maxRecDepth 100000 in
set_option maxHeartbeats 4000000 in
theorem rbyPartsU (L : List Int) (E : Int) (ao : Option Addr) (n cap : Nat) (w : World) (hI : Ints w ao L) (hln : n = L.length) (hn : n ≤ 100000) :
    Calls Try.prog 18 #[.slice ao n cap, .int .i64 E] w fun e w' => ∃ ao2 cap2, e = .returned (.tuple #[.slice ao2 (Cl.orR L E (Cl.paL L E)).length cap2, .int .i64 (Cl.caseC L E)]) ∧ Pts w' ao2 ((Cl.orR L E (Cl.paL L E)).map pr) ∧ Below w.heap.size w w' := by
  by_cases hc : Cl.caseC L E = 0
  · obtain ⟨a1, a2, a3⟩ := Cl.caseC_ok.1 hc
    have hl : n = (Cl.paL L E).length := by unfold Cl.paL; simp [hln]
    have HALL := Lib.hid (And.intro a1 (And.intro a2 a3))
    have HC := Lib.hid (Cl.okC_iff.1 a1)
    have Hn := Lib.hid hln
    have Hl := Lib.hid hl
    have Hc := Lib.hid hc
    have hn8 : n ≤ 8 := by have := HC.out; omega
    have hS8 : 0 ≤ Fl.sumI L ∧ Fl.sumI L ≤ 8000 := by
      have h := Cl.sum_small (B := 1000) (by omega) (l := L) (fun x hx => by have := HC.out.2.2 x hx; omega)
      have h2 := Cl.sum_nonneg (l := L) (fun x hx => by have := HC.out.2.2 x hx; omega)
      have := HC.out; omega
    have hE : 0 ≤ E ∧ E ≤ 8000 := by omega
    have hB := Below.refl w.heap.size w
    have HI0 := Lib.hid hI
    rw [Cl.orR_ok hc, hc]
    clear hln hl a1 a2 a3
    go_enter Try.func18, Try.ntmps18
    go_wp2_with fail
    refine (rvalidate_any L E ao n cap w hI Hn.out hn).mono ?_
    rintro e w1 ⟨rfl, hw0⟩; obtain rfl := hw0.symm
    rw [Hc.out]
    clear hw0 hc
    obtain ⟨i0, hi0, hz0, hz1, hz2⟩ := info_rt
    obtain ⟨S, hS⟩ : ∃ S, S = Fl.sumI L := ⟨_, rfl⟩
    obtain ⟨m, hm⟩ : ∃ m : Nat, (m : Int) = max 1 (Fl.sumI L) := ⟨(max 1 (Fl.sumI L)).toNat, by omega⟩
    have hspec : Hid (Cl.paL L E = L.map fun c => mkRat (c * E) m) := Lib.hid (by unfold Cl.paL; rw [← hm, Int.toNat_natCast])
    rw [← hS] at hS8 hm
    have HS := Lib.hid hS
    clear hS
    have hmb : 1 ≤ m ∧ m ≤ 8000 := by omega
    by_cases hS1 : 1 < S
    · have hSm : S = (m : Int) := by omega
      rw [hSm] at hS1 HS
      clear hSm hm hS8
      go_wp2_with fail
      go_loopw [7, 8] (fun v i wr => ∃ k : Nat, k ≤ n ∧ i = .int .i64 k ∧ Hid (wr.ownsRow w.heap.size 35 2 v k (flat2 (((L.take k).map fun c => mkRat (c * E) m).map pr))) ∧ Below w.heap.size w wr) (fun _ i _ => n - (intOf i).toNat)
      case atStart => exact ⟨0, Nat.zero_le _, rfl, Lib.hid ⟨rfl, .inl ⟨rfl, rfl⟩⟩, hB⟩
      case round =>
        clear hB
        obtain ⟨k, hk, rfl, hown, hB⟩ := hrel
        by_cases hlt : k < n
        · have hkl : k < L.length := by have := Hn.out; omega
          obtain ⟨b, off, rfl, hbs, hcx⟩ := HI0.out.at hkl
          rw [← hB.cell (p := ⟨b, _, none⟩) hbs, Cl.gd hkl] at hcx
          have hxb := HC.out.2.2 _ (List.getElem_mem hkl)
          have hst : Hid (flat2 (((L.take (k + 1)).map fun c => mkRat (c * E) m).map pr) = flat2 (((L.take k).map fun c => mkRat (c * E) m).map pr) ++ [.int .i64 (mkRat (L[k] * E) m).num, .int .i64 (mkRat (L[k] * E) m).den]) := Lib.hid (by
            rw [List.take_succ_eq_append_getElem hkl, List.map_append, List.map_append, flat2_app]
            rfl)
          generalize L[k] = x at hcx hxb hst
          obtain ⟨p, hp⟩ : ∃ p : Nat, (p : Int) = x * E := ⟨(x * E).toNat, by have := Int.mul_nonneg hxb.1 hE.1; omega⟩
          have hpb : p ≤ 8000000 := by
            have p2 : x * E ≤ 1000 * 8000 := Int.mul_le_mul hxb.2 hE.2 hE.1 (by omega)
            omega
          have e1 : IntKind.i64.wrap (x * E) = (p : Int) := by rw [hp]; exact IntWalk.i64_in _ (by omega)
          rw [← hp] at hst
          clear hp
          have i1 : (k : Int) < (n : Int) := by omega
          obtain ⟨V, hV⟩ : ∃ V, V = mkRat p m := ⟨_, rfl⟩
          rw [← hV] at hst
          have hR : Hid (∀ w', Calls Try.prog 54 #[.int .i64 p, .int .i64 m] w' fun e w'' => e = .returned (.agg #[.int .i64 V.num, .int .i64 V.den]) ∧ Below w'.heap.size w' w'') := Lib.hid (fun w' => by
            have h := ratio_any p m w' (by omega) (by omega) (by omega)
            rw [← hV] at h
            exact h)
          clear hV
          have hsz := hB.size
          have hHR := HI0.out.below hB
          go_upto_region 8 with fail
          have hbq := below_drewN (Below.refl wr.heap.size wr) 1
          refine wp_region_held_drew (S := fun w' => w'.cell? ⟨b, off + k, none⟩ = some (.int .i64 x)) (by kernel_rfl) hcx (fun hHeld => ?_)
          refine wpAnyH_take (i := 0) (v := u7) rfl (by kernel_rfl) (by kernel_rfl) (by kernel_rfl) (fun _ _ _ h => h) (Or.inl ⟨by rfl, fun w hSw => ?_⟩) (by assumption) ?_
          · (try dsimp only at hSw); (go_simp <;> omega)
          try simp only [List.getElem_toArray, List.getElem_cons_zero, Act.put, List.setIfInBounds_toArray, List.set_cons_zero, List.set_cons_succ]
          refine wpAnyH_take (i := 1) (v := .slice (some ⟨b, off, none⟩) n cap) rfl (by kernel_rfl) (by kernel_rfl) (by kernel_rfl) (fun _ _ _ h => h) (Or.inl ⟨by rfl, fun w hSw => ?_⟩) (by assumption) ?_
          · (try dsimp only at hSw); (go_simp <;> omega)
          try simp only [List.getElem_toArray, List.getElem_cons_zero, List.getElem_cons_succ, Act.put, List.setIfInBounds_toArray, List.set_cons_zero, List.set_cons_succ]
          refine wpAnyH_take (i := 2) (v := .int .i64 k) rfl (by kernel_rfl) (by kernel_rfl) (by kernel_rfl) (fun _ _ _ h => h) (Or.inl ⟨by rfl, fun w hSw => ?_⟩) (by assumption) ?_
          · (try dsimp only at hSw); (go_simp <;> omega)
          try simp only [List.getElem_toArray, List.getElem_cons_zero, List.getElem_cons_succ, Act.put, List.setIfInBounds_toArray, List.set_cons_zero, List.set_cons_succ]
          refine wpAnyH_take (i := 3) (v := .pointer (some ⟨b, off + k, none⟩)) rfl (by kernel_rfl) (by kernel_rfl) (by kernel_rfl) (fun _ _ _ h => h) (Or.inl ⟨by rfl, fun w hSw => ?_⟩) (by assumption) ?_
          · (try dsimp only at hSw); (go_simp <;> omega)
          try simp only [List.getElem_toArray, List.getElem_cons_zero, List.getElem_cons_succ, Act.put, List.setIfInBounds_toArray, List.set_cons_zero, List.set_cons_succ]
          refine wpAnyH_take (i := 4) (v := .int .i64 x) rfl (by kernel_rfl) (by kernel_rfl) (by kernel_rfl) (fun _ _ _ h => h) (Or.inl ⟨by rfl, fun w hSw => ?_⟩) (by assumption) ?_
          · (try dsimp only at hSw); (go_simp <;> omega)
          try simp only [List.getElem_toArray, List.getElem_cons_zero, List.getElem_cons_succ, Act.put, List.setIfInBounds_toArray, List.set_cons_zero, List.set_cons_succ]
          refine wpAnyH_take (i := 5) (v := .int .i64 E) rfl (by kernel_rfl) (by kernel_rfl) (by kernel_rfl) (fun _ _ _ h => h) (Or.inl ⟨by rfl, fun w hSw => ?_⟩) (by assumption) ?_
          · (try dsimp only at hSw); (go_simp <;> omega)
          try simp only [List.getElem_toArray, List.getElem_cons_zero, List.getElem_cons_succ, Act.put, List.setIfInBounds_toArray, List.set_cons_zero, List.set_cons_succ]
          refine wpAnyH_take (i := 6) (v := .int .i64 p) rfl (by kernel_rfl) (by kernel_rfl) (by kernel_rfl) (fun _ _ _ h => h) (Or.inl ⟨by rfl, fun w hSw => ?_⟩) (by assumption) ?_
          · (try dsimp only at hSw); (go_simp <;> omega)
          try simp only [List.getElem_toArray, List.getElem_cons_zero, List.getElem_cons_succ, Act.put, List.setIfInBounds_toArray, List.set_cons_zero, List.set_cons_succ]
          refine wpAnyH_take (i := 7) (v := .slice (some ⟨b, off, none⟩) n cap) rfl (by kernel_rfl) (by kernel_rfl) (by kernel_rfl) (fun _ _ _ h => h) (Or.inl ⟨by rfl, fun w hSw => ?_⟩) (by assumption) ?_
          · (try dsimp only at hSw); (go_simp <;> omega)
          try simp only [List.getElem_toArray, List.getElem_cons_zero, List.getElem_cons_succ, Act.put, List.setIfInBounds_toArray, List.set_cons_zero, List.set_cons_succ]
          refine wpAnyH_ready (rs := [8]) (by kernel_rfl) (by simp) ?_
          refine AllReadyH.cons rfl (fun K hK => ?_) AllReadyH.nil
          go_simp
          go_at_call 36
          refine (rSum_any L _ n cap _ (hHR.below hbq) Hn.out (by omega) (fun x hx => by have := HC.out.2.2 x hx; omega)).mono ?_
          rintro e w8 ⟨rfl, hw0⟩; obtain rfl := hw0.symm
          clear hw0
          rw [← HS.out]
          (try dsimp only)
          refine hK.out _ _ hcx (fun hHeld => ?_)
          clear hK K
          try simp only [List.getElem_toArray, List.getElem_cons_zero, List.getElem_cons_succ, Act.put, List.setIfInBounds_toArray, List.set_cons_zero, List.set_cons_succ]
          refine wpAnyH_take (i := 9) (v := .int .i64 m) rfl (by kernel_rfl) (by kernel_rfl) (by kernel_rfl) (fun _ _ _ h => h) (Or.inl ⟨by rfl, fun w hSw => ?_⟩) (by assumption) ?_
          · (try dsimp only at hSw); (go_simp <;> omega)
          try simp only [List.getElem_toArray, List.getElem_cons_zero, List.getElem_cons_succ, Act.put, List.setIfInBounds_toArray, List.set_cons_zero, List.set_cons_succ]
          refine wpAnyH_ready (rs := [10]) (by kernel_rfl) (by simp) ?_
          refine AllReadyH.cons rfl (fun K hK => ?_) AllReadyH.nil
          go_simp
          go_at_call 54
          refine (hR.out _).mono ?_
          rintro e w9 ⟨rfl, hb9⟩
          have hbw9 : Below wr.heap.size wr w9 := hbq.trans (hb9.mono hbq.size)
          have ka : w9.cell? ⟨b, off + k, none⟩ = some (.int .i64 x) := (hbw9.cell (p := ⟨b, _, none⟩) (show b < wr.heap.size by omega)).trans hcx
          have hown9 := Lib.hid (own_below hown.out hbw9)
          have hB9 := hB.trans (hbw9.mono hsz)
          clear hb9
          (try dsimp only)
          refine hK.out _ _ ka (fun hHeld => ?_)
          clear hK K
          try simp only [List.getElem_toArray, List.getElem_cons_zero, List.getElem_cons_succ, Act.put, List.setIfInBounds_toArray, List.set_cons_zero, List.set_cons_succ]
          refine wpAnyH_ready (rs := [11]) (by kernel_rfl) (by simp) ?_
          refine AllReadyH.cons rfl (fun K hK => ?_) AllReadyH.nil
          go_simp
          have kc := keep_cell ((Below.refl _ w9).alloc (Nat.le_refl _) (.cells #[.int .i64 V.num, .int .i64 V.den] 35)) ka
          (try dsimp only)
          refine hK.out _ _ kc (fun hHeld => ?_)
          clear hK K
          try simp only [List.getElem_toArray, List.getElem_cons_zero, List.getElem_cons_succ, Act.put, List.setIfInBounds_toArray, List.set_cons_zero, List.set_cons_succ]
          refine wpAnyH_ready (rs := [12]) (by kernel_rfl) (by simp) ?_
          refine AllReadyH.cons rfl (fun K hK => ?_) AllReadyH.nil
          refine step_append_lies _ (by rfl) _ _ _ (by rfl) w.heap.size 35 i0 _ 2 16 Try.underlying27 hi0 hz0 hz1 hz2 rfl (by omega) _ k _ (by rfl) (hown9.out.alloc _) ⟨w9.heap.size, 0, none⟩ 1 1 [.int .i64 V.num, .int .i64 V.den] (by rfl) (by rfl) (World.news_of_block (cs := #[.int .i64 V.num, .int .i64 V.den]) (t := 35) (fr := (0, 0)) (heap_alloc_new w9 _)) (by simp [Value.oneCell']) (by omega) (by unfold maxLen; omega) (by omega) (by have := hB9.size; simp; omega) (w9.heap.size + 1) (by simp) ?_
          intro gg cap7 w7 hown1 hgrow hat hlt5
          have hb7 : Below w.heap.size w w7 := (hB9.alloc hB9.size _).grown hgrow (by have := hB9.size; simp; omega) (fun q hq => (hown9.out.lt _ hq).1)
          have kd := (hgrow.cell_far ⟨b, off + k, none⟩ (by have := hB9.size; simp; omega) (fun h => absurd (hown9.out.lt b h.symm).1 (by omega))).trans kc
          (try dsimp only)
          refine hK.out _ _ kd (fun hHeld => ?_)
          clear hK K
          try simp only [List.getElem_toArray, List.getElem_cons_zero, List.getElem_cons_succ, Act.put, List.setIfInBounds_toArray, List.set_cons_zero, List.set_cons_succ]
          clear hgrow hat hlt5 kc kd ka
          refine wpAnyH_take (i := 13) (v := .slice (some ⟨gg, 0, none⟩) (k + 1) cap7) rfl (by kernel_rfl) (by kernel_rfl) (by kernel_rfl) (fun _ _ _ h => h) (Or.inl ⟨by rfl, fun w hSw => ?_⟩) (by assumption) ?_
          · (try dsimp only at hSw); (go_simp <;> omega)
          try simp only [List.getElem_toArray, List.getElem_cons_zero, List.getElem_cons_succ, Act.put, List.setIfInBounds_toArray, List.set_cons_zero, List.set_cons_succ]
          refine wpAnyH_done (by kernel_rfl) ?_ _
          go_wp2_with fail
          go_roundw
          case rel => exact ⟨k + 1, by omega, by go_num, Lib.hid (by rw [hst.out]; exact hown1), hb7⟩
          case measure => simp [intOf]; omega
        · have hkn : k = n := by omega
          have Ho : Hid (wr.ownsRow w.heap.size 35 2 u7 n (flat2 ((Cl.paL L E).map pr))) := Lib.hid (by
            have h := hown.out
            rw [hkn, Hn.out, List.take_length] at h
            rw [hspec.out, Hn.out]
            exact h)
          clear hkn hown
          obtain ⟨ao8, cap8, rfl, -, hP⟩ := own_pts2 Ho.out (by rw [List.length_map]; exact Hl.out)
          go_wp2_with fail
          go_ret2
          exact ⟨ao8, cap8, by rw [← Hl.out]; rfl, hP, hB⟩
    · have hm1 : m = 1 := by omega
      clear hm
      go_wp2_with fail
      go_loopw [7, 8] (fun v i wr => ∃ k : Nat, k ≤ n ∧ i = .int .i64 k ∧ Hid (wr.ownsRow w.heap.size 35 2 v k (flat2 (((L.take k).map fun c => mkRat (c * E) m).map pr))) ∧ Below w.heap.size w wr) (fun _ i _ => n - (intOf i).toNat)
      case atStart => exact ⟨0, Nat.zero_le _, rfl, Lib.hid ⟨rfl, .inl ⟨rfl, rfl⟩⟩, hB⟩
      case round =>
        clear hB
        obtain ⟨k, hk, rfl, hown, hB⟩ := hrel
        by_cases hlt : k < n
        · have hkl : k < L.length := by have := Hn.out; omega
          obtain ⟨b, off, rfl, hbs, hcx⟩ := HI0.out.at hkl
          rw [← hB.cell (p := ⟨b, _, none⟩) hbs, Cl.gd hkl] at hcx
          have hxb := HC.out.2.2 _ (List.getElem_mem hkl)
          have hst : Hid (flat2 (((L.take (k + 1)).map fun c => mkRat (c * E) m).map pr) = flat2 (((L.take k).map fun c => mkRat (c * E) m).map pr) ++ [.int .i64 (mkRat (L[k] * E) m).num, .int .i64 (mkRat (L[k] * E) m).den]) := Lib.hid (by
            rw [List.take_succ_eq_append_getElem hkl, List.map_append, List.map_append, flat2_app]
            rfl)
          generalize L[k] = x at hcx hxb hst
          obtain ⟨p, hp⟩ : ∃ p : Nat, (p : Int) = x * E := ⟨(x * E).toNat, by have := Int.mul_nonneg hxb.1 hE.1; omega⟩
          have hpb : p ≤ 8000000 := by
            have p2 : x * E ≤ 1000 * 8000 := Int.mul_le_mul hxb.2 hE.2 hE.1 (by omega)
            omega
          have e1 : IntKind.i64.wrap (x * E) = (p : Int) := by rw [hp]; exact IntWalk.i64_in _ (by omega)
          rw [← hp] at hst
          clear hp
          have i1 : (k : Int) < (n : Int) := by omega
          obtain ⟨V, hV⟩ : ∃ V, V = mkRat p m := ⟨_, rfl⟩
          rw [← hV] at hst
          have hR : Hid (∀ w', Calls Try.prog 54 #[.int .i64 p, .int .i64 1] w' fun e w'' => e = .returned (.agg #[.int .i64 V.num, .int .i64 V.den]) ∧ Below w'.heap.size w' w'') := Lib.hid (fun w' => by
            have h := ratio_any p m w' (by omega) (by omega) (by omega)
            rw [← hV] at h
            rw [hm1] at h; simpa using h)
          clear hV
          have hsz := hB.size
          have hHR := HI0.out.below hB
          go_upto_region 8 with fail
          have hbq := below_drewN (Below.refl wr.heap.size wr) 1
          refine wp_region_held_drew (S := fun w' => w'.cell? ⟨b, off + k, none⟩ = some (.int .i64 x)) (by kernel_rfl) hcx (fun hHeld => ?_)
          refine wpAnyH_take (i := 0) (v := u7) rfl (by kernel_rfl) (by kernel_rfl) (by kernel_rfl) (fun _ _ _ h => h) (Or.inl ⟨by rfl, fun w hSw => ?_⟩) (by assumption) ?_
          · (try dsimp only at hSw); (go_simp <;> omega)
          try simp only [List.getElem_toArray, List.getElem_cons_zero, Act.put, List.setIfInBounds_toArray, List.set_cons_zero, List.set_cons_succ]
          refine wpAnyH_take (i := 1) (v := .slice (some ⟨b, off, none⟩) n cap) rfl (by kernel_rfl) (by kernel_rfl) (by kernel_rfl) (fun _ _ _ h => h) (Or.inl ⟨by rfl, fun w hSw => ?_⟩) (by assumption) ?_
          · (try dsimp only at hSw); (go_simp <;> omega)
          try simp only [List.getElem_toArray, List.getElem_cons_zero, List.getElem_cons_succ, Act.put, List.setIfInBounds_toArray, List.set_cons_zero, List.set_cons_succ]
          refine wpAnyH_take (i := 2) (v := .int .i64 k) rfl (by kernel_rfl) (by kernel_rfl) (by kernel_rfl) (fun _ _ _ h => h) (Or.inl ⟨by rfl, fun w hSw => ?_⟩) (by assumption) ?_
          · (try dsimp only at hSw); (go_simp <;> omega)
          try simp only [List.getElem_toArray, List.getElem_cons_zero, List.getElem_cons_succ, Act.put, List.setIfInBounds_toArray, List.set_cons_zero, List.set_cons_succ]
          refine wpAnyH_take (i := 3) (v := .pointer (some ⟨b, off + k, none⟩)) rfl (by kernel_rfl) (by kernel_rfl) (by kernel_rfl) (fun _ _ _ h => h) (Or.inl ⟨by rfl, fun w hSw => ?_⟩) (by assumption) ?_
          · (try dsimp only at hSw); (go_simp <;> omega)
          try simp only [List.getElem_toArray, List.getElem_cons_zero, List.getElem_cons_succ, Act.put, List.setIfInBounds_toArray, List.set_cons_zero, List.set_cons_succ]
          refine wpAnyH_take (i := 4) (v := .int .i64 x) rfl (by kernel_rfl) (by kernel_rfl) (by kernel_rfl) (fun _ _ _ h => h) (Or.inl ⟨by rfl, fun w hSw => ?_⟩) (by assumption) ?_
          · (try dsimp only at hSw); (go_simp <;> omega)
          try simp only [List.getElem_toArray, List.getElem_cons_zero, List.getElem_cons_succ, Act.put, List.setIfInBounds_toArray, List.set_cons_zero, List.set_cons_succ]
          refine wpAnyH_take (i := 5) (v := .int .i64 E) rfl (by kernel_rfl) (by kernel_rfl) (by kernel_rfl) (fun _ _ _ h => h) (Or.inl ⟨by rfl, fun w hSw => ?_⟩) (by assumption) ?_
          · (try dsimp only at hSw); (go_simp <;> omega)
          try simp only [List.getElem_toArray, List.getElem_cons_zero, List.getElem_cons_succ, Act.put, List.setIfInBounds_toArray, List.set_cons_zero, List.set_cons_succ]
          refine wpAnyH_take (i := 6) (v := .int .i64 p) rfl (by kernel_rfl) (by kernel_rfl) (by kernel_rfl) (fun _ _ _ h => h) (Or.inl ⟨by rfl, fun w hSw => ?_⟩) (by assumption) ?_
          · (try dsimp only at hSw); (go_simp <;> omega)
          try simp only [List.getElem_toArray, List.getElem_cons_zero, List.getElem_cons_succ, Act.put, List.setIfInBounds_toArray, List.set_cons_zero, List.set_cons_succ]
          refine wpAnyH_take (i := 7) (v := .slice (some ⟨b, off, none⟩) n cap) rfl (by kernel_rfl) (by kernel_rfl) (by kernel_rfl) (fun _ _ _ h => h) (Or.inl ⟨by rfl, fun w hSw => ?_⟩) (by assumption) ?_
          · (try dsimp only at hSw); (go_simp <;> omega)
          try simp only [List.getElem_toArray, List.getElem_cons_zero, List.getElem_cons_succ, Act.put, List.setIfInBounds_toArray, List.set_cons_zero, List.set_cons_succ]
          refine wpAnyH_ready (rs := [8]) (by kernel_rfl) (by simp) ?_
          refine AllReadyH.cons rfl (fun K hK => ?_) AllReadyH.nil
          go_simp
          go_at_call 36
          refine (rSum_any L _ n cap _ (hHR.below hbq) Hn.out (by omega) (fun x hx => by have := HC.out.2.2 x hx; omega)).mono ?_
          rintro e w8 ⟨rfl, hw0⟩; obtain rfl := hw0.symm
          clear hw0
          rw [← HS.out]
          (try dsimp only)
          refine hK.out _ _ hcx (fun hHeld => ?_)
          clear hK K
          try simp only [List.getElem_toArray, List.getElem_cons_zero, List.getElem_cons_succ, Act.put, List.setIfInBounds_toArray, List.set_cons_zero, List.set_cons_succ]
          refine wpAnyH_take (i := 9) (v := .int .i64 1) rfl (by kernel_rfl) (by kernel_rfl) (by kernel_rfl) (fun _ _ _ h => h) (Or.inl ⟨by rfl, fun w hSw => ?_⟩) (by assumption) ?_
          · (try dsimp only at hSw); (go_simp <;> omega)
          try simp only [List.getElem_toArray, List.getElem_cons_zero, List.getElem_cons_succ, Act.put, List.setIfInBounds_toArray, List.set_cons_zero, List.set_cons_succ]
          refine wpAnyH_ready (rs := [10]) (by kernel_rfl) (by simp) ?_
          refine AllReadyH.cons rfl (fun K hK => ?_) AllReadyH.nil
          go_simp
          go_at_call 54
          refine (hR.out _).mono ?_
          rintro e w9 ⟨rfl, hb9⟩
          have hbw9 : Below wr.heap.size wr w9 := hbq.trans (hb9.mono hbq.size)
          have ka : w9.cell? ⟨b, off + k, none⟩ = some (.int .i64 x) := (hbw9.cell (p := ⟨b, _, none⟩) (show b < wr.heap.size by omega)).trans hcx
          have hown9 := Lib.hid (own_below hown.out hbw9)
          have hB9 := hB.trans (hbw9.mono hsz)
          clear hb9
          (try dsimp only)
          refine hK.out _ _ ka (fun hHeld => ?_)
          clear hK K
          try simp only [List.getElem_toArray, List.getElem_cons_zero, List.getElem_cons_succ, Act.put, List.setIfInBounds_toArray, List.set_cons_zero, List.set_cons_succ]
          refine wpAnyH_ready (rs := [11]) (by kernel_rfl) (by simp) ?_
          refine AllReadyH.cons rfl (fun K hK => ?_) AllReadyH.nil
          go_simp
          have kc := keep_cell ((Below.refl _ w9).alloc (Nat.le_refl _) (.cells #[.int .i64 V.num, .int .i64 V.den] 35)) ka
          (try dsimp only)
          refine hK.out _ _ kc (fun hHeld => ?_)
          clear hK K
          try simp only [List.getElem_toArray, List.getElem_cons_zero, List.getElem_cons_succ, Act.put, List.setIfInBounds_toArray, List.set_cons_zero, List.set_cons_succ]
          refine wpAnyH_ready (rs := [12]) (by kernel_rfl) (by simp) ?_
          refine AllReadyH.cons rfl (fun K hK => ?_) AllReadyH.nil
          refine step_append_lies _ (by rfl) _ _ _ (by rfl) w.heap.size 35 i0 _ 2 16 Try.underlying27 hi0 hz0 hz1 hz2 rfl (by omega) _ k _ (by rfl) (hown9.out.alloc _) ⟨w9.heap.size, 0, none⟩ 1 1 [.int .i64 V.num, .int .i64 V.den] (by rfl) (by rfl) (World.news_of_block (cs := #[.int .i64 V.num, .int .i64 V.den]) (t := 35) (fr := (0, 0)) (heap_alloc_new w9 _)) (by simp [Value.oneCell']) (by omega) (by unfold maxLen; omega) (by omega) (by have := hB9.size; simp; omega) (w9.heap.size + 1) (by simp) ?_
          intro gg cap7 w7 hown1 hgrow hat hlt5
          have hb7 : Below w.heap.size w w7 := (hB9.alloc hB9.size _).grown hgrow (by have := hB9.size; simp; omega) (fun q hq => (hown9.out.lt _ hq).1)
          have kd := (hgrow.cell_far ⟨b, off + k, none⟩ (by have := hB9.size; simp; omega) (fun h => absurd (hown9.out.lt b h.symm).1 (by omega))).trans kc
          (try dsimp only)
          refine hK.out _ _ kd (fun hHeld => ?_)
          clear hK K
          try simp only [List.getElem_toArray, List.getElem_cons_zero, List.getElem_cons_succ, Act.put, List.setIfInBounds_toArray, List.set_cons_zero, List.set_cons_succ]
          clear hgrow hat hlt5 kc kd ka
          refine wpAnyH_take (i := 13) (v := .slice (some ⟨gg, 0, none⟩) (k + 1) cap7) rfl (by kernel_rfl) (by kernel_rfl) (by kernel_rfl) (fun _ _ _ h => h) (Or.inl ⟨by rfl, fun w hSw => ?_⟩) (by assumption) ?_
          · (try dsimp only at hSw); (go_simp <;> omega)
          try simp only [List.getElem_toArray, List.getElem_cons_zero, List.getElem_cons_succ, Act.put, List.setIfInBounds_toArray, List.set_cons_zero, List.set_cons_succ]
          refine wpAnyH_done (by kernel_rfl) ?_ _
          go_wp2_with fail
          go_roundw
          case rel => exact ⟨k + 1, by omega, by go_num, Lib.hid (by rw [hst.out]; exact hown1), hb7⟩
          case measure => simp [intOf]; omega
        · have hkn : k = n := by omega
          have Ho : Hid (wr.ownsRow w.heap.size 35 2 u7 n (flat2 ((Cl.paL L E).map pr))) := Lib.hid (by
            have h := hown.out
            rw [hkn, Hn.out, List.take_length] at h
            rw [hspec.out, Hn.out]
            exact h)
          clear hkn hown
          obtain ⟨ao8, cap8, rfl, -, hP⟩ := own_pts2 Ho.out (by rw [List.length_map]; exact Hl.out)
          go_wp2_with fail
          go_ret2
          exact ⟨ao8, cap8, by rw [← Hl.out]; rfl, hP, hB⟩
  · have hc1 : Cl.caseC L E = 1 := by unfold Cl.caseC at hc ⊢; split at hc <;> simp_all
    rw [Cl.orR_no hc, hc1]
    have Hn := Lib.hid hln
    have Hc := Lib.hid hc1
    have hB := Below.refl w.heap.size w
    clear hc hc1 hln
    go_enter Try.func18, Try.ntmps18
    go_wp2_with fail
    refine (rvalidate_any L E ao n cap w hI Hn.out hn).mono ?_
    rintro e w1 ⟨rfl, hw0⟩; obtain rfl := hw0.symm
    rw [Hc.out]
    go_wp2_with fail
    go_ret2
    exact ⟨none, 0, rfl, ⟨fun h => by cases h⟩, hB⟩
end Go.Proofs.Yteecfdjphjkdkaa
