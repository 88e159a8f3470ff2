import Derived.Test.YtemlfklipkpacaaLe
import Derived.Test.YtemlfklipkpacaaLb
/- The reference of package knife: owners. -/
namespace Go.Proofs.Ytemlfklipkpacaa
open Go.RowKit
theorem swithin_same (n lo hi : Int) (w : World) :
    Calls Try.prog 116 #[.int .i64 n, .int .i64 lo, .int .i64 hi] w fun e w' => e = .returned (.bool (decide (lo ≤ n) && decide (n ≤ hi))) ∧ w' = w :=
  (swithin_any n lo hi w).mono fun _ _ h => ⟨h.1, h.2.symm⟩

set_option maxRecDepth 100000 in
set_option maxHeartbeats 4000000 in
theorem sowned_any (L : List Int) (V : List (List Int)) (o : Int) (aoL : Option Addr) (nL cL : Nat) (aoV : Option Addr) (nV cV : Nat) (ao : Option Addr) (cap : Nat) (w : World) (hf : Fld w aoL nL aoV nV L V) (hI : Ints w ao [o]) (hl : nL ≤ 100) (hv : nV ≤ 100) (hr : ∀ r ∈ V, r.length ≤ 100) :
    Calls Try.prog 115 #[.agg #[.slice aoL nL cL, .slice aoV nV cV], .slice ao 1 cap] w fun e w' => e = .returned (.int .i64 (Kn.ocode L V o)) ∧ Below w.heap.size w w' := by
  obtain ⟨R, hR⟩ : ∃ r, r = Kn.ocode L V o := ⟨_, rfl⟩
  rw [← hR]
  have HR := Lib.hid hR
  have HnV := Lib.hid hf.nv
  clear hR
  obtain ⟨b, off, rfl, hbs, z0⟩ := hI.at (k := 0) (by simp)
  rw [show [o].getD 0 0 = o from rfl, Nat.add_zero] at z0
  have hA := (Below.refl _ w).alloc (Nat.le_refl _) (.cells #[.slice aoL nL cL, .slice aoV nV cV] 57)
  have rf := heap_alloc_new w (.cells #[.slice aoL nL cL, .slice aoV nV cV] 57)
  replace z0 := keep_cell hA z0
  go_enter Try.func115, Try.ntmps115
  go_upto_region 1 with fail
  generalize w.alloc (.cells #[.slice aoL nL cL, .slice aoV nV cV] 57) = W0 at hA rf z0 ⊢
  obtain ⟨⟨c0, c1⟩, -, -⟩ := row_fr rf
  obtain ⟨G, hG⟩ : ∃ g, g = w.heap.size := ⟨_, rfl⟩
  rw [← hG] at rf c0 c1 ⊢
  have HG := Lib.hid hG
  clear hG
  go_wp2_with fail
  refine (sValidate_any L V _ _ _ _ _ _ W0 (hf.below hA) hl hv hr).mono ?_
  rintro e w1 ⟨rfl, hb1⟩
  have hB1 := hA.trans (hb1.mono hA.size)
  replace c0 := keep_cell hb1 c0
  replace c1 := keep_cell hb1 c1
  replace z0 := keep_cell hb1 z0
  clear rf hb1 hA
  by_cases hz : Kn.val L V = 0
  · have hR1 : R = if Kn.isO V o then 0 else 4 := by rw [HR.out]; unfold Kn.ocode; rw [if_neg (by simpa using hz)]
    have HR1 := Lib.hid hR1
    clear hR1
    rw [hz]
    obtain ⟨N1, hN1⟩ : ∃ x : Int, x = (nV : Int) - 1 := ⟨_, rfl⟩
    have e1 : IntKind.i64.wrap ((nV : Int) - 1) = N1 := by rw [hN1]; exact IntWalk.i64_in _ (by omega)
    have hO : (decide ((0 : Int) ≤ o) && decide (o ≤ N1)) = Kn.isO V o := by
      unfold Kn.isO
      rw [hN1, ← HnV.out]
      congr 1
      rw [decide_eq_decide]
      omega
    have hW := fun w' => swithin_same o 0 N1 w'
    rw [hO] at hW
    clear hN1 hO
    obtain ⟨bv, hbv⟩ : ∃ b, b = Kn.isO V o := ⟨_, rfl⟩
    rw [← hbv] at HR1 hW
    have HW := Lib.hid hW
    clear hbv hW
    go_wp2_with fail
    go_loopw [6] (fun i wr => ∃ k : Nat, k ≤ 1 ∧ i = .int .i64 k ∧ Hid (0 < k → bv = true) ∧ Below w1.heap.size w1 wr) (fun i _ => 1 - (intOf i).toNat)
    case atStart => exact ⟨0, by omega, rfl, Lib.hid (fun h => by omega), Below.refl _ _⟩
    case round =>
      obtain ⟨k, hk, rfl, HK, hb⟩ := hrel
      have hbw := hB1.trans (hb.mono hB1.size)
      have q0 := keep_cell hb c0
      have q1 := keep_cell hb c1
      have q2 := keep_cell hb z0
      by_cases hlt : k < 1
      · have hk0 : k = 0 := by omega
        subst hk0
        cases bv with
        | true =>
          go_wp2_with fail
          have hdr : Below wr.heap.size wr wr.drew := below_drewN (Below.refl wr.heap.size wr) 1
          refine wp_region_held_drew (S := fun w' => w'.cell? ⟨G, 1, none⟩ = some (.slice aoV nV cV) ∧ w'.cell? ⟨b, off, none⟩ = some (.int .i64 o)) (by kernel_rfl) ⟨q1, q2⟩ (fun hHeld => ?_)
          refine wpAnyH_take (i := 0) (v := .slice (some ⟨b, off, none⟩) 1 cap) rfl (by kernel_rfl) (by kernel_rfl) (by kernel_rfl) (fun _ _ _ h => h) (Or.inl ⟨by rfl, fun w hSw => ?_⟩) (by assumption) ?_
          · obtain ⟨s0, s1⟩ := hSw
            (go_simp <;> omega)
          try simp only [List.getElem_toArray, List.getElem_cons_zero, Act.put, List.setIfInBounds_toArray, List.set_cons_zero, List.set_cons_succ]
          refine wpAnyH_take (i := 1) (v := .int .i64 0) rfl (by kernel_rfl) (by kernel_rfl) (by kernel_rfl) (fun _ _ _ h => h) (Or.inl ⟨by rfl, fun w hSw => ?_⟩) (by assumption) ?_
          · obtain ⟨s0, s1⟩ := hSw
            (go_simp <;> omega)
          try simp only [List.getElem_toArray, List.getElem_cons_zero, List.getElem_cons_succ, Act.put, List.setIfInBounds_toArray, List.set_cons_zero, List.set_cons_succ]
          refine wpAnyH_take (i := 2) (v := .pointer (some ⟨b, off, none⟩)) rfl (by kernel_rfl) (by kernel_rfl) (by kernel_rfl) (fun _ _ _ h => h) (Or.inl ⟨by rfl, fun w hSw => ?_⟩) (by assumption) ?_
          · obtain ⟨s0, s1⟩ := hSw
            (go_simp <;> omega)
          try simp only [List.getElem_toArray, List.getElem_cons_zero, List.getElem_cons_succ, Act.put, List.setIfInBounds_toArray, List.set_cons_zero, List.set_cons_succ]
          refine wpAnyH_take (i := 3) (v := .int .i64 o) rfl (by kernel_rfl) (by kernel_rfl) (by kernel_rfl) (fun _ _ _ h => h) (Or.inl ⟨by rfl, fun w hSw => ?_⟩) (by assumption) ?_
          · obtain ⟨s0, s1⟩ := hSw
            (go_simp <;> omega)
          try simp only [List.getElem_toArray, List.getElem_cons_zero, List.getElem_cons_succ, Act.put, List.setIfInBounds_toArray, List.set_cons_zero, List.set_cons_succ]
          refine wpAnyH_take (i := 4) (v := .pointer (some ⟨G, 1, none⟩)) rfl (by kernel_rfl) (by kernel_rfl) (by kernel_rfl) (fun _ _ _ h => h) (Or.inl ⟨by rfl, fun w hSw => ?_⟩) (by assumption) ?_
          · obtain ⟨s0, s1⟩ := hSw
            (go_simp <;> omega)
          try simp only [List.getElem_toArray, List.getElem_cons_zero, List.getElem_cons_succ, Act.put, List.setIfInBounds_toArray, List.set_cons_zero, List.set_cons_succ]
          refine wpAnyH_take (i := 5) (v := .slice aoV nV cV) rfl (by kernel_rfl) (by kernel_rfl) (by kernel_rfl) (fun _ _ _ h => h) (Or.inl ⟨by rfl, fun w hSw => ?_⟩) (by assumption) ?_
          · obtain ⟨s0, s1⟩ := hSw
            (go_simp <;> omega)
          try simp only [List.getElem_toArray, List.getElem_cons_zero, List.getElem_cons_succ, Act.put, List.setIfInBounds_toArray, List.set_cons_zero, List.set_cons_succ]
          refine wpAnyH_take (i := 6) (v := .int .i64 nV) rfl (by kernel_rfl) (by kernel_rfl) (by kernel_rfl) (fun _ _ _ h => h) (Or.inl ⟨by rfl, fun w hSw => ?_⟩) (by assumption) ?_
          · obtain ⟨s0, s1⟩ := hSw
            (go_simp <;> omega)
          try simp only [List.getElem_toArray, List.getElem_cons_zero, List.getElem_cons_succ, Act.put, List.setIfInBounds_toArray, List.set_cons_zero, List.set_cons_succ]
          refine wpAnyH_take (i := 7) (v := .int .i64 N1) rfl (by kernel_rfl) (by kernel_rfl) (by kernel_rfl) (fun _ _ _ h => h) (Or.inl ⟨by rfl, fun w hSw => ?_⟩) (by assumption) ?_
          · obtain ⟨s0, s1⟩ := hSw
            (go_simp <;> omega)
          try simp only [List.getElem_toArray, List.getElem_cons_zero, List.getElem_cons_succ, Act.put, List.setIfInBounds_toArray, List.set_cons_zero, List.set_cons_succ]
          refine wpAnyH_ready (rs := [8]) (by kernel_rfl) (by simp) ?_
          refine AllReadyH.cons rfl (fun K hK => ?_) AllReadyH.nil
          go_simp
          go_at_call 116
          refine (HW.out _).mono ?_
          rintro e z1 ⟨rfl, rfl⟩
          (try dsimp only)
          refine hK.out _ _ ⟨q1, q2⟩ (fun hHeld => ?_)
          clear hK K
          try simp only [List.getElem_toArray, List.getElem_cons_zero, List.getElem_cons_succ, Act.put, List.setIfInBounds_toArray, List.set_cons_zero, List.set_cons_succ]
          refine wpAnyH_take (i := 9) (v := .bool false) rfl (by kernel_rfl) (by kernel_rfl) (by kernel_rfl) (fun _ _ _ h => h) (Or.inl ⟨by rfl, fun w hSw => ?_⟩) (by assumption) ?_
          · obtain ⟨s0, s1⟩ := hSw
            (go_simp <;> omega)
          try simp only [List.getElem_toArray, List.getElem_cons_zero, List.getElem_cons_succ, Act.put, List.setIfInBounds_toArray, List.set_cons_zero, List.set_cons_succ]
          refine wpAnyH_done (by kernel_rfl) ?_ _
          go_wp2_with fail
          go_roundw
          case rel => exact ⟨1, by omega, by go_num, Lib.hid (by simp), hb.trans (hdr.mono hb.size)⟩
          case measure => simp [intOf]
        | false =>
          go_wp2_with fail
          have hdr : Below wr.heap.size wr wr.drew := below_drewN (Below.refl wr.heap.size wr) 1
          refine wp_region_held_drew (S := fun w' => w'.cell? ⟨G, 1, none⟩ = some (.slice aoV nV cV) ∧ w'.cell? ⟨b, off, none⟩ = some (.int .i64 o)) (by kernel_rfl) ⟨q1, q2⟩ (fun hHeld => ?_)
          refine wpAnyH_take (i := 0) (v := .slice (some ⟨b, off, none⟩) 1 cap) rfl (by kernel_rfl) (by kernel_rfl) (by kernel_rfl) (fun _ _ _ h => h) (Or.inl ⟨by rfl, fun w hSw => ?_⟩) (by assumption) ?_
          · obtain ⟨s0, s1⟩ := hSw
            (go_simp <;> omega)
          try simp only [List.getElem_toArray, List.getElem_cons_zero, Act.put, List.setIfInBounds_toArray, List.set_cons_zero, List.set_cons_succ]
          refine wpAnyH_take (i := 1) (v := .int .i64 0) rfl (by kernel_rfl) (by kernel_rfl) (by kernel_rfl) (fun _ _ _ h => h) (Or.inl ⟨by rfl, fun w hSw => ?_⟩) (by assumption) ?_
          · obtain ⟨s0, s1⟩ := hSw
            (go_simp <;> omega)
          try simp only [List.getElem_toArray, List.getElem_cons_zero, List.getElem_cons_succ, Act.put, List.setIfInBounds_toArray, List.set_cons_zero, List.set_cons_succ]
          refine wpAnyH_take (i := 2) (v := .pointer (some ⟨b, off, none⟩)) rfl (by kernel_rfl) (by kernel_rfl) (by kernel_rfl) (fun _ _ _ h => h) (Or.inl ⟨by rfl, fun w hSw => ?_⟩) (by assumption) ?_
          · obtain ⟨s0, s1⟩ := hSw
            (go_simp <;> omega)
          try simp only [List.getElem_toArray, List.getElem_cons_zero, List.getElem_cons_succ, Act.put, List.setIfInBounds_toArray, List.set_cons_zero, List.set_cons_succ]
          refine wpAnyH_take (i := 3) (v := .int .i64 o) rfl (by kernel_rfl) (by kernel_rfl) (by kernel_rfl) (fun _ _ _ h => h) (Or.inl ⟨by rfl, fun w hSw => ?_⟩) (by assumption) ?_
          · obtain ⟨s0, s1⟩ := hSw
            (go_simp <;> omega)
          try simp only [List.getElem_toArray, List.getElem_cons_zero, List.getElem_cons_succ, Act.put, List.setIfInBounds_toArray, List.set_cons_zero, List.set_cons_succ]
          refine wpAnyH_take (i := 4) (v := .pointer (some ⟨G, 1, none⟩)) rfl (by kernel_rfl) (by kernel_rfl) (by kernel_rfl) (fun _ _ _ h => h) (Or.inl ⟨by rfl, fun w hSw => ?_⟩) (by assumption) ?_
          · obtain ⟨s0, s1⟩ := hSw
            (go_simp <;> omega)
          try simp only [List.getElem_toArray, List.getElem_cons_zero, List.getElem_cons_succ, Act.put, List.setIfInBounds_toArray, List.set_cons_zero, List.set_cons_succ]
          refine wpAnyH_take (i := 5) (v := .slice aoV nV cV) rfl (by kernel_rfl) (by kernel_rfl) (by kernel_rfl) (fun _ _ _ h => h) (Or.inl ⟨by rfl, fun w hSw => ?_⟩) (by assumption) ?_
          · obtain ⟨s0, s1⟩ := hSw
            (go_simp <;> omega)
          try simp only [List.getElem_toArray, List.getElem_cons_zero, List.getElem_cons_succ, Act.put, List.setIfInBounds_toArray, List.set_cons_zero, List.set_cons_succ]
          refine wpAnyH_take (i := 6) (v := .int .i64 nV) rfl (by kernel_rfl) (by kernel_rfl) (by kernel_rfl) (fun _ _ _ h => h) (Or.inl ⟨by rfl, fun w hSw => ?_⟩) (by assumption) ?_
          · obtain ⟨s0, s1⟩ := hSw
            (go_simp <;> omega)
          try simp only [List.getElem_toArray, List.getElem_cons_zero, List.getElem_cons_succ, Act.put, List.setIfInBounds_toArray, List.set_cons_zero, List.set_cons_succ]
          refine wpAnyH_take (i := 7) (v := .int .i64 N1) rfl (by kernel_rfl) (by kernel_rfl) (by kernel_rfl) (fun _ _ _ h => h) (Or.inl ⟨by rfl, fun w hSw => ?_⟩) (by assumption) ?_
          · obtain ⟨s0, s1⟩ := hSw
            (go_simp <;> omega)
          try simp only [List.getElem_toArray, List.getElem_cons_zero, List.getElem_cons_succ, Act.put, List.setIfInBounds_toArray, List.set_cons_zero, List.set_cons_succ]
          refine wpAnyH_ready (rs := [8]) (by kernel_rfl) (by simp) ?_
          refine AllReadyH.cons rfl (fun K hK => ?_) AllReadyH.nil
          go_simp
          go_at_call 116
          refine (HW.out _).mono ?_
          rintro e z1 ⟨rfl, rfl⟩
          (try dsimp only)
          refine hK.out _ _ ⟨q1, q2⟩ (fun hHeld => ?_)
          clear hK K
          try simp only [List.getElem_toArray, List.getElem_cons_zero, List.getElem_cons_succ, Act.put, List.setIfInBounds_toArray, List.set_cons_zero, List.set_cons_succ]
          refine wpAnyH_take (i := 9) (v := .bool true) rfl (by kernel_rfl) (by kernel_rfl) (by kernel_rfl) (fun _ _ _ h => h) (Or.inl ⟨by rfl, fun w hSw => ?_⟩) (by assumption) ?_
          · obtain ⟨s0, s1⟩ := hSw
            (go_simp <;> omega)
          try simp only [List.getElem_toArray, List.getElem_cons_zero, List.getElem_cons_succ, Act.put, List.setIfInBounds_toArray, List.set_cons_zero, List.set_cons_succ]
          refine wpAnyH_done (by kernel_rfl) ?_ _
          go_wp2_with fail
          go_ret
          exact ⟨ret_int HR1.out.symm, hbw.trans (hdr.mono hbw.size)⟩
      · have hbt := HK.out (by omega)
        have hr' : Hid (R = 0) := Lib.hid (by rw [HR1.out, hbt]; rfl)
        clear hbt
        go_wp2_with fail
        go_ret
        exact ⟨ret_int hr'.out.symm, hbw⟩
  · have hr' := Lib.hid (show R = Kn.val L V by rw [HR.out]; unfold Kn.ocode; rw [if_pos hz])
    have hne : (Kn.val L V != 0) = true := by simp [hz]
    generalize Kn.val L V = C at hz hne hr' ⊢
    go_wp2_with fail
    go_ret
    exact ⟨ret_int hr'.out.symm, hB1⟩
end Go.Proofs.Ytemlfklipkpacaa
