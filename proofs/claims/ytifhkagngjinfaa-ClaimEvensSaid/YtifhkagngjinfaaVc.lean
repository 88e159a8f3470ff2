import Derived.Test.YtifhkagngjinfaaVb
import Derived.Test.YtifhkagngjinfaaQb
namespace Go.Proofs.Ytifhkagngjinfaa
open Go.RowKit
theorem own_x {w : World} {base g n cap : Nat} {L0 : List Int} (ho : w.ownsRow base 3 1 (.slice (some ⟨g, 0, none⟩) n cap) n (L0.map (Value.int .i64))) :
    ∃ X, w.heap[g]? = some (.cells (Cl.xarr L0 X) 3 (0, 0)) ∧ base ≤ g ∧ n ≤ cap ∧ cap ≤ maxLen ∧ (Cl.xarr L0 X).size = cap := by
  obtain ⟨h1, ⟨h0, _⟩ | ⟨g', cap', cur, he, hb, hg, hnc, hcm, hcs, htk⟩⟩ := ho
  · cases h0
  · cases he
    have hx : cur = Cl.xarr L0 (cur.toList.drop n).toArray := by
      apply Array.ext'
      unfold Cl.xarr Cl.iarr
      rw [Array.toList_append]
      simp only
      rw [← htk, Nat.mul_one]
      exact (List.take_append_drop n cur.toList).symm
    exact ⟨_, by rw [← hx]; exact hg, hb, hnc, hcm, by rw [← hx, hcs, Nat.mul_one]⟩
theorem x_own {w : World} {base g n cap : Nat} {S : List Int} {X : Array Value} (hg : w.heap[g]? = some (.cells (Cl.xarr S X) 3 (0, 0))) (hb : base ≤ g) (hnc : n ≤ cap) (hcm : cap ≤ maxLen) (hcs : (Cl.xarr S X).size = cap) (hl : S.length = n) :
    w.ownsRow base 3 1 (.slice (some ⟨g, 0, none⟩) n cap) n (S.map (Value.int .i64)) := by
  refine ⟨by simp [hl], .inr ⟨g, cap, _, rfl, hb, hg, hnc, hcm, by rw [hcs, Nat.mul_one], ?_⟩⟩
  unfold Cl.xarr Cl.iarr
  rw [Array.toList_append, Nat.mul_one]
  simp only
  rw [List.take_append_of_le_length (by simp [hl])]
  rw [List.take_of_length_le (by simp [hl])]
theorem xarr_size (S : List Int) (X : Array Value) : (Cl.xarr S X).size = S.length + X.size := by
  unfold Cl.xarr
  rw [Array.size_append, Cl.iarr_size]
set_option maxRecDepth 100000 in
set_option maxHeartbeats 4000000 in
theorem sorted_any (L0 : List Int) (ao : Option Addr) (n cap : Nat) (w : World) (hI : Ints w ao L0) (hln : n = L0.length) (hn : n ≤ 1000) (hn1 : 1 ≤ n) :
    Calls Try.prog 72 #[.slice ao n cap] w fun e w' => ∃ v, e = .returned v ∧ w'.ownsRow w.heap.size 3 1 v n ((Cl.srt L0).map (Value.int .i64)) ∧ (Cl.srt L0).Perm L0 ∧ Below w.heap.size w w' := by
  obtain ⟨i0, hi0, hz0, hz1, hz2⟩ := info_in
  have Hn := Lib.hid hln
  have HI := Lib.hid hI
  have hB := Below.refl w.heap.size w
  obtain ⟨b, off, rfl, hbs, hc⟩ := hI.cells (by omega)
  have HC : Hid (∀ (o : Obj) (j : Nat) (u : Value), (L0.map (Value.int .i64))[j]? = some u → (w.alloc o).cell? ((⟨b, off, none⟩ : Addr).add j) = some u) := Lib.hid (by
    intro o j u hu
    have hj : j < (L0.map (Value.int .i64)).length := (List.getElem?_eq_some_iff.1 hu).1
    rw [List.length_map] at hj
    have h := keep_cell ((Below.refl w.heap.size w).alloc (Nat.le_refl _) o) (hc j hj)
    rw [List.getElem?_map, List.getElem?_eq_getElem hj] at hu
    rw [List.getD_eq_getElem?_getD, List.getElem?_eq_getElem hj] at h
    cases hu
    have e : (⟨b, off, none⟩ : Addr).add j = ⟨b, off + j, none⟩ := by cases j <;> rfl
    rw [e]
    simpa using h)
  clear hln hI hc
  go_enter Try.func72, Try.ntmps72
  go_wp2_with (first | (at_builtin; refine wpList_append_own _ rfl _ _ 22 rfl w.heap.size 3 i0 (.int .i64 0) 1 8 Try.underlying22 hi0 hz0 hz1 hz2 rfl (by decide) _ 0 [] rfl (World.ownsRow_made w #[] 0 (Nat.le_refl _) (by unfold maxLen; omega) rfl) ⟨b, off, none⟩ n cap (L0.map (Value.int .i64)) rfl (by rw [List.length_map, Nat.mul_one]; exact Hn.out.symm) (HC.out _) (fun u hu => by obtain ⟨z, _, rfl⟩ := List.mem_map.1 hu; rfl) (by unfold maxLen; omega) (by omega) (by simp) ?_; intro v' w3 hown3 hgrow3 hnil3; have hb3 : Below w.heap.size w w3 := ((Below.refl w.heap.size w).alloc (Nat.le_refl _) _).grown hgrow3 (by simp) (fun q hq => by cases hq; exact Nat.le_refl _); clear hgrow3 hnil3))
  clear HC HI hB hi0 hz0 hz1 hz2 i0 hbs
  rw [List.nil_append, Nat.zero_add] at hown3
  obtain ⟨g, c3, rfl, -, -, -, -⟩ := own_cells hown3 (by omega)
  obtain ⟨X, hg, hge, hnc, hcm, hcs⟩ := own_x hown3
  clear hown3
  have hcs := Lib.hid hcs
  go_wp2_with fail
  go_loopw [4, 5] (fun i _ wr => ∃ (k : Nat) (L : List Int), k ≤ n ∧ i = .int .i64 k ∧ Hid (L.Perm L0) ∧ Hid (Cl.Sorted L k) ∧ wr.heap[g]? = some (.cells (Cl.xarr L X) 3 (0, 0)) ∧ w3.grownBy wr (some g)) (fun i _ _ => n - (intOf i).toNat)
  case atStart => exact ⟨0, L0, Nat.zero_le _, rfl, Lib.hid (List.Perm.refl _), Lib.hid (fun p q h1 h2 => by omega), hg, gb_refl _ _⟩
  case round =>
    clear hg
    obtain ⟨k, L, hk, rfl, hP, hS, hg, hb⟩ := hrel
    by_cases hlt : k < n
    · have i1 : (k : Int) < (n : Int) := by omega
      go_wp2_with fail
      go_loopw [5] (fun j ws => ∃ (m : Nat) (M : List Int), m ≤ k ∧ j = .int .i64 m ∧ Hid (M.Perm L0) ∧ Hid (Cl.Up M k m) ∧ ws.heap[g]? = some (.cells (Cl.xarr M X) 3 (0, 0)) ∧ w3.grownBy ws (some g)) (fun j _ => (intOf j).toNat)
      case atStart => exact ⟨k, L, Nat.le_refl _, rfl, hP, Lib.hid (Cl.up_start hS.out), hg, hb⟩
      case round =>
        clear hg hb hP hS
        obtain ⟨m, M, hm, rfl, hP, hU, hg, hb⟩ := hrel
        have hlen : M.length = n := by rw [Hn.out]; exact hP.out.length_eq
        have Hl := Lib.hid hlen
        clear hlen
        by_cases h0 : 0 < m
        · have i0 : decide ((0 : Int) < (m : Int)) = true := by simp; omega
          have c1 := (cell_of_row wr g m _ _ _ hg).trans (Cl.xarr_at (L := M) (X := X) (k := m) (by have := Hl.out; omega))
          have c2 := (cell_of_row wr g (m - 1) _ _ _ hg).trans (Cl.xarr_at (L := M) (X := X) (k := m - 1) (by have := Hl.out; omega))
          have e1 : IntKind.i64.wrap ((m : Int) - 1) = ((m - 1 : Nat) : Int) := by rw [IntWalk.i64_in _ (by omega)]; omega
          have i2 : (m : Int) < (n : Int) := by omega
          have i3 : ((m - 1 : Nat) : Int) < (n : Int) := by omega
          obtain ⟨x, hx⟩ : ∃ x, x = M.getD m 0 := ⟨_, rfl⟩
          obtain ⟨y, hy⟩ : ∃ x, x = M.getD (m - 1) 0 := ⟨_, rfl⟩
          rw [← hx] at c1
          rw [← hy] at c2
          have Hx := Lib.hid hx
          have Hy := Lib.hid hy
          clear hx hy
          go_wp2_with fail
          by_cases hxy : x < y
          · go_quiet (fail)
            have hg1 : (wr.drewN nq).heap[g]? = some (.cells (Cl.xarr M X) 3 (0, 0)) := hg
            have hb1 : w3.grownBy (wr.drewN nq) (some g) := gb_drew hb nq
            clear c1 c2 hg hb
            generalize (wr.drewN nq) = W at hg1 hb1 ⊢
            have c1 := (cell_of_row W g m _ _ _ hg1).trans (Cl.xarr_at (L := M) (X := X) (k := m) (by have := Hl.out; omega))
            have c2 := (cell_of_row W g (m - 1) _ _ _ hg1).trans (Cl.xarr_at (L := M) (X := X) (k := m - 1) (by have := Hl.out; omega))
            rw [← Hx.out] at c1
            rw [← Hy.out] at c2
            have f1 := frozen_of_row W g m _ _ hg1
            have f2 := frozen_of_row W g (m - 1) _ _ hg1
            go_wp2_with fail
            go_region
            have g1 := heap_setCell_same _ g (m - 1) _ 3 (.int .i64 x) (heap_setCell_same W g m _ 3 (.int .i64 y) hg1)
            rw [Cl.xarr_set _ _ (by have := Hl.out; omega), Cl.xarr_set _ _ (by rw [List.length_set]; have := Hl.out; omega), show (M.set m y).set (m - 1) x = Cl.swap M m by unfold Cl.swap; rw [Hx.out, Hy.out]] at g1
            have hP2 := Lib.hid ((Cl.swap_perm h0 (by have := Hl.out; omega)).trans hP.out)
            have hU2 := Lib.hid (Cl.up_swap h0 hm (by have := Hl.out; omega) hU.out (by rw [← Hx.out, ← Hy.out]; exact hxy))
            go_wp2_with fail
            go_roundw
            case rel => exact ⟨m - 1, Cl.swap M m, by omega, rfl, hP2, hU2, g1, gb_drew (gb_set (gb_set hb1 _ _) _ _) _⟩
            case measure => simp [intOf]; omega
          · have hf : decide (x < y) = false := by simp; omega
            go_quiet (fail)
            have hg1 : (wr.drewN nq).heap[g]? = some (.cells (Cl.xarr M X) 3 (0, 0)) := hg
            have hb1 : w3.grownBy (wr.drewN nq) (some g) := gb_drew hb nq
            clear c1 c2 hg hb
            generalize (wr.drewN nq) = W at hg1 hb1 ⊢
            have hS2 := Lib.hid (Cl.up_stop hU.out h0 (by rw [← Hx.out, ← Hy.out]; exact hxy))
            go_wp2_with fail
            go_roundw
            case rel => exact ⟨k + 1, M, by omega, by go_num, hP, hS2, hg1, hb1⟩
            case measure => simp [intOf]; omega
        · have hf : decide ((0 : Int) < (m : Int)) = false := by simp; omega
          go_wp2_with fail
          go_quiet (fail)
          have hg1 : (wr.drewN nq).heap[g]? = some (.cells (Cl.xarr M X) 3 (0, 0)) := hg
          have hb1 : w3.grownBy (wr.drewN nq) (some g) := gb_drew hb nq
          clear hg hb
          generalize (wr.drewN nq) = W at hg1 hb1 ⊢
          have hS2 := Lib.hid (Cl.up_zero (L := M) (i := k) (by have := hU.out; rwa [show m = 0 by omega] at this))
          go_wp2_with fail
          go_roundw
          case rel => exact ⟨k + 1, M, by omega, by go_num, hP, hS2, hg1, hb1⟩
          case measure => simp [intOf]; omega
    · have hSl : L.length = n := by rw [Hn.out]; exact hP.out.length_eq
      have hfin : Hid (Cl.Sorted L L.length) := Lib.hid (fun p q h1 h2 => hS.out p q h1 (by omega))
      have hs := Cl.srt_eq hP.out hfin.out
      have hsz : (Cl.xarr L X).size = c3 := by
        rw [← hcs.out, xarr_size, xarr_size, hP.out.length_eq]
      have hfo : Hid (wr.ownsRow w.heap.size 3 1 (.slice (some ⟨g, 0, none⟩) n c3) n ((Cl.srt L0).map (Value.int .i64))) := Lib.hid (by
        rw [← hs]
        exact x_own hg hge hnc hcm hsz hSl)
      have hfp : Hid ((Cl.srt L0).Perm L0) := Lib.hid (by rw [← hs]; exact hP.out)
      have hfb := gb_below hb3 hb hge hb3.size
      clear hs hsz hSl hS hg hb
      go_wp2_with fail
      go_ret
      exact ⟨_, rfl, hfo.out, hfp.out, hfb⟩
end Go.Proofs.Ytifhkagngjinfaa
