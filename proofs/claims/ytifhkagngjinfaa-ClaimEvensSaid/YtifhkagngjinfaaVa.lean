import Derived.Test.YtifhkagngjinfaaFd
import Derived.Test.YtifhkagngjinfaaGb
namespace Go.Proofs.Ytifhkagngjinfaa
open Go.RowKit
theorem gb_refl (w : World) (r : Option Nat) : w.grownBy w r := ⟨rfl, rfl, rfl, Nat.le_refl _, fun _ _ _ => rfl⟩
theorem gb_drew {w w' : World} {r : Option Nat} (h : w.grownBy w' r) (n : Nat) : w.grownBy (w'.drewN n) r := ⟨h.os, h.tape, h.output, h.size, h.block⟩
theorem gb_set {w w' : World} {g : Nat} (h : w.grownBy w' (some g)) (o : Nat) (v : Value) : w.grownBy (w'.setCell ⟨g, o, none⟩ v) (some g) :=
  ⟨h.os, h.tape, h.output, by rw [show (w'.setCell ⟨g, o, none⟩ v).heap.size = w'.heap.size by simp [World.setCell]]; exact h.size,
   fun k hk hne => (heap_setCell_other w' ⟨g, o, none⟩ k v (by intro e; exact hne (by rw [e]))).trans (h.block k hk hne)⟩
theorem gb_below {w0 w w' : World} {B g : Nat} (h : Below B w0 w) (hg : w.grownBy w' (some g)) (hB : B ≤ g) (hs : B ≤ w.heap.size) : Below B w0 w' := h.grown hg hs (fun q hq => by cases hq; exact hB)
namespace Cl
def xarr (L : List Int) (X : Array Value) : Array Value := iarr L ++ X
theorem xarr_at {L : List Int} {X : Array Value} {k : Nat} (h : k < L.length) : (xarr L X)[k]? = some (.int .i64 (L.getD k 0)) := by
  unfold xarr
  rw [Array.getElem?_append_left (by rw [iarr_size]; exact h)]
  exact iarr_at h
theorem xarr_set {L : List Int} {X : Array Value} (k : Nat) (v : Int) (h : k < L.length) : (xarr L X).setIfInBounds k (.int .i64 v) = xarr (L.set k v) X := by
  unfold xarr
  rw [← iarr_set]
  apply Array.ext'
  simp [iarr, h]
end Cl
set_option maxRecDepth 100000 in
set_option maxHeartbeats 2000000 in
theorem insertX_any (X : Array Value) (L0 : List Int) (g n cap : Nat) (w : World) (hg : w.heap[g]? = some (.cells (Cl.xarr L0 X) 3 (0, 0))) (hln : n = L0.length) (hn : n ≤ 100000) (hn1 : 1 ≤ n) (_ : n ≤ cap) :
    Calls Try.prog 94 #[.slice (some ⟨g, 0, none⟩) n cap, .int .i64 0, .int .i64 n] w fun e w' => e = .returned (.tuple #[]) ∧ ∃ L, L.Perm L0 ∧ Cl.Sorted L n ∧ w'.heap[g]? = some (.cells (Cl.xarr L X) 3 (0, 0)) ∧ w.grownBy w' (some g) := by
  have Hn := Lib.hid hln
  clear hln
  go_enter Try.func94, Try.ntmps94
  go_wp2
  go_loopw [6, 7] (fun i _ wr => ∃ (k : Nat) (L : List Int), 1 ≤ k ∧ k ≤ n ∧ i = .int .i64 k ∧ Hid (L.Perm L0) ∧ Hid (Cl.Sorted L k) ∧ wr.heap[g]? = some (.cells (Cl.xarr L X) 3 (0, 0)) ∧ w.grownBy wr (some g)) (fun i _ _ => n - (intOf i).toNat)
  case atStart => exact ⟨1, L0, Nat.le_refl _, hn1, rfl, Lib.hid (List.Perm.refl _), Lib.hid (fun p q h1 h2 => by omega), hg, gb_refl _ _⟩
  case round =>
    clear hg
    obtain ⟨k, L, hk1, hk, rfl, hP, hS, hg, hb⟩ := hrel
    by_cases hlt : k < n
    · have i1 : (k : Int) < (n : Int) := by omega
      go_wp2
      go_loopw [7] (fun j ws => ∃ (m : Nat) (M : List Int), m ≤ k ∧ j = .int .i64 m ∧ Hid (M.Perm L0) ∧ Hid (Cl.Up M k m) ∧ ws.heap[g]? = some (.cells (Cl.xarr M X) 3 (0, 0)) ∧ w.grownBy ws (some g)) (fun j _ => (intOf j).toNat)
      case atStart => exact ⟨k, L, Nat.le_refl _, rfl, hP, Lib.hid (Cl.up_start hS.out), hg, hb⟩
      case round =>
        clear hg hb hP hS
        obtain ⟨m, M, hm, rfl, hP, hU, hg, hb⟩ := hrel
        have hlen : M.length = n := by rw [Hn.out]; exact hP.out.length_eq
        have Hl := Lib.hid hlen
        clear hlen
        by_cases h0 : 0 < m
        · have i0 : decide ((0 : Int) < (m : Int)) = true := by simp; omega
          have c1 := (cell_of_row wr g m _ _ _ hg).trans (Cl.xarr_at (L := M) (X := X) (k := m) (by have := Hl.out; omega))
          have c2 := (cell_of_row wr g (m - 1) _ _ _ hg).trans (Cl.xarr_at (L := M) (X := X) (k := m - 1) (by have := Hl.out; omega))
          have e1 : IntKind.i64.wrap ((m : Int) - 1) = ((m - 1 : Nat) : Int) := by rw [IntWalk.i64_in _ (by omega)]; omega
          have i2 : (m : Int) < (n : Int) := by omega
          have i3 : ((m - 1 : Nat) : Int) < (n : Int) := by omega
          obtain ⟨x, hx⟩ : ∃ x, x = M.getD m 0 := ⟨_, rfl⟩
          obtain ⟨y, hy⟩ : ∃ x, x = M.getD (m - 1) 0 := ⟨_, rfl⟩
          rw [← hx] at c1
          rw [← hy] at c2
          have Hx := Lib.hid hx
          have Hy := Lib.hid hy
          clear hx hy
          have hlts : Hid (decide (x < y) = decide (M.getD m 0 < M.getD (m - 1) 0)) := Lib.hid (by rw [Hx.out, Hy.out])
          go_wp2
          by_cases hxy : x < y
          · go_quiet ((go_at_call 100; exact Calls.quiet_of_same (less_any _ _ _)))
            have hg1 : (wr.drewN nq).heap[g]? = some (.cells (Cl.xarr M X) 3 (0, 0)) := hg
            have hb1 : w.grownBy (wr.drewN nq) (some g) := gb_drew hb nq
            clear c1 c2 hg hb
            generalize (wr.drewN nq) = W at hg1 hb1 ⊢
            have c1 := (cell_of_row W g m _ _ _ hg1).trans (Cl.xarr_at (L := M) (X := X) (k := m) (by have := Hl.out; omega))
            have c2 := (cell_of_row W g (m - 1) _ _ _ hg1).trans (Cl.xarr_at (L := M) (X := X) (k := m - 1) (by have := Hl.out; omega))
            rw [← Hx.out] at c1
            rw [← Hy.out] at c2
            have f1 := frozen_of_row W g m _ _ hg1
            have f2 := frozen_of_row W g (m - 1) _ _ hg1
            go_wp2_with fail
            go_region
            have g1 := heap_setCell_same _ g (m - 1) _ 3 (.int .i64 x) (heap_setCell_same W g m _ 3 (.int .i64 y) hg1)
            rw [Cl.xarr_set _ _ (by have := Hl.out; omega), Cl.xarr_set _ _ (by rw [List.length_set]; have := Hl.out; omega), show (M.set m y).set (m - 1) x = Cl.swap M m by unfold Cl.swap; rw [Hx.out, Hy.out]] at g1
            have hP2 := Lib.hid ((Cl.swap_perm h0 (by have := Hl.out; omega)).trans hP.out)
            have hU2 := Lib.hid (Cl.up_swap h0 hm (by have := Hl.out; omega) hU.out (by rw [← Hx.out, ← Hy.out]; exact hxy))
            go_wp2
            go_roundw
            case rel => exact ⟨m - 1, Cl.swap M m, by omega, rfl, hP2, hU2, g1, gb_drew (gb_set (gb_set hb1 _ _) _ _) _⟩
            case measure => simp [intOf]; omega
          · have hf : decide (x < y) = false := by simp; omega
            go_quiet ((go_at_call 100; exact Calls.quiet_of_same (less_any _ _ _)))
            have hg1 : (wr.drewN nq).heap[g]? = some (.cells (Cl.xarr M X) 3 (0, 0)) := hg
            have hb1 : w.grownBy (wr.drewN nq) (some g) := gb_drew hb nq
            clear c1 c2 hg hb
            generalize (wr.drewN nq) = W at hg1 hb1 ⊢
            have hS2 := Lib.hid (Cl.up_stop hU.out h0 (by rw [← Hx.out, ← Hy.out]; exact hxy))
            go_wp2
            go_roundw
            case rel => exact ⟨k + 1, M, by omega, by omega, by go_num, hP, hS2, hg1, hb1⟩
            case measure => simp [intOf]; omega
        · have hf : decide ((0 : Int) < (m : Int)) = false := by simp; omega
          go_wp2
          go_quiet ((go_at_call 100; exact Calls.quiet_of_same (less_any _ _ _)))
          have hg1 : (wr.drewN nq).heap[g]? = some (.cells (Cl.xarr M X) 3 (0, 0)) := hg
          have hb1 : w.grownBy (wr.drewN nq) (some g) := gb_drew hb nq
          clear hg hb
          generalize (wr.drewN nq) = W at hg1 hb1 ⊢
          have hS2 := Lib.hid (Cl.up_zero (L := M) (i := k) (by have := hU.out; rwa [show m = 0 by omega] at this))
          go_wp2
          go_roundw
          case rel => exact ⟨k + 1, M, by omega, by omega, by go_num, hP, hS2, hg1, hb1⟩
          case measure => simp [intOf]; omega
    · go_wp2
      go_end0
      exact ⟨rfl, L, hP.out, fun p q h1 h2 => hS.out p q h1 (by omega), hg, hb⟩
set_option maxRecDepth 100000 in
set_option maxHeartbeats 1000000 in
theorem pdqX_any (X : Array Value) (L0 : List Int) (g n cap : Nat) (r : Int) (w : World) (hg : w.heap[g]? = some (.cells (Cl.xarr L0 X) 3 (0, 0))) (hln : n = L0.length) (hn : n ≤ 12) (hn1 : 1 ≤ n) (hc : n ≤ cap) :
    Calls Try.prog 80 #[.slice (some ⟨g, 0, none⟩) n cap, .int .i64 0, .int .i64 n, .int .i64 r] w fun e w' => e = .returned (.tuple #[]) ∧ ∃ L, L.Perm L0 ∧ Cl.Sorted L n ∧ w'.heap[g]? = some (.cells (Cl.xarr L X) 3 (0, 0)) ∧ w.grownBy w' (some g) := by
  have Hn := Lib.hid hln
  clear hln
  go_enter Try.func80, Try.ntmps80
  go_wp2_with fail
  refine wp_loop_once ?_
  go_wp2_with fail
  refine (insertX_any X L0 g n cap w hg Hn.out (by omega) hn1 hc).mono ?_
  rintro e w1 ⟨rfl, L, h1, h2, h3, h4⟩
  have H := Lib.hid (And.intro h1 (And.intro h2 (And.intro h3 h4)))
  clear h1 h2 h3 h4
  go_wp2_with fail
  exact bodyPost_ret (results_none rfl _ _ _) rfl ⟨rfl, L, H.out⟩
set_option maxRecDepth 100000 in
set_option maxHeartbeats 1000000 in
theorem sortX_any (X : Array Value) (L0 : List Int) (g n cap : Nat) (w : World) (hg : w.heap[g]? = some (.cells (Cl.xarr L0 X) 3 (0, 0))) (hln : n = L0.length) (hn : n ≤ 12) (hn1 : 1 ≤ n) (hc : n ≤ cap) :
    Calls Try.prog 71 #[.slice (some ⟨g, 0, none⟩) n cap] w fun e w' => e = .returned (.tuple #[]) ∧ ∃ L, L.Perm L0 ∧ Cl.Sorted L n ∧ w'.heap[g]? = some (.cells (Cl.xarr L X) 3 (0, 0)) ∧ w.grownBy w' (some g) := by
  have Hn := Lib.hid hln
  clear hln
  go_enter Try.func71, Try.ntmps71
  go_wp2_with fail
  refine (len_any n (by omega) (by omega) w).mono ?_
  rintro e w1 ⟨r, rfl, hw0⟩; obtain rfl := hw0.symm
  go_wp2_with fail
  refine (pdqX_any X L0 g n cap r w hg Hn.out hn hn1 hc).mono ?_
  rintro e w1 ⟨rfl, L, h1, h2, h3, h4⟩
  have H := Lib.hid (And.intro h1 (And.intro h2 (And.intro h3 h4)))
  clear h1 h2 h3 h4
  go_wp2_with fail
  go_end0
  exact ⟨rfl, L, H.out⟩
namespace Cl
theorem sum_take_big {l : List Int} (h : ∀ n ∈ l, -1000000000000000 ≤ n ∧ n ≤ 1000000000000000) (hl : l.length ≤ 1000) (k : Nat) : -1000000000000000000 ≤ Fl.sumI (l.take k) ∧ Fl.sumI (l.take k) ≤ 1000000000000000000 := by
  have := sum_small (B := 1000000000000000) (by omega) (l := l.take k) fun n hn => h n (List.mem_of_mem_take hn)
  have h2 : (l.take k).length ≤ 1000 := by rw [List.length_take]; omega
  have h3 : (1000000000000000 : Int) * ((l.take k).length : Int) ≤ 1000000000000000 * 1000 := Int.mul_le_mul_of_nonneg_left (by omega) (by omega)
  omega
end Cl
theorem Ints.take {w : World} {ao : Option Addr} {l : List Int} (h : Ints w ao l) (k : Nat) : Ints w ao (l.take k) := by
  refine ⟨fun h0 => ?_⟩
  rw [List.length_take] at h0
  obtain ⟨b, off, rfl, hb, hc⟩ := h.cells (by omega)
  refine ⟨b, off, rfl, hb, fun i hi => ?_⟩
  rw [List.length_take] at hi
  rw [hc i (by omega), List.getD_eq_getElem?_getD, List.getD_eq_getElem?_getD, List.getElem?_take, if_pos (by omega)]
set_option maxRecDepth 100000 in
set_option maxHeartbeats 1000000 in
theorem sumB_any (l : List Int) (ao : Option Addr) (n cap : Nat) (w : World) (hI : Ints w ao l) (hln : n = l.length) (hn : n ≤ 1000) (hb : ∀ x ∈ l, -1000000000000000 ≤ x ∧ x ≤ 1000000000000000) :
    Calls Try.prog 56 #[.slice ao n cap] w fun e w' => e = .returned (.int .i64 (Fl.sumI l)) ∧ w' = w := by
  have Hn := Lib.hid hln
  have Hb := Lib.hid (fun k => Cl.sum_take_big hb (by rw [← hln]; exact hn) k)
  clear hln
  go_enter Try.func56, Try.ntmps56
  go_wp2
  go_loopw [3, 8] (fun s i wr => ∃ (k : Nat) (S : Int), k ≤ n ∧ i = .int .i64 k ∧ s = .int .i64 S ∧ Hid (S = Fl.sumI (l.take k)) ∧ wr = w) (fun _ i _ => n - (intOf i).toNat)
  case atStart => exact ⟨0, 0, Nat.zero_le _, rfl, rfl, Lib.hid rfl, rfl⟩
  case round =>
    obtain ⟨k, S, hk, rfl, rfl, hS, hw⟩ := hrel
    rw [hw]
    clear hw wr
    by_cases hlt : k < n
    · have hkl : k < l.length := by have := Hn.out; omega
      obtain ⟨b, off, rfl, hbs, hc⟩ := hI.at hkl
      have hst := Fl.sumI_take hkl
      rw [← hS.out] at hst
      have b1 := Hb.out (k + 1)
      rw [hst] at b1
      obtain ⟨x, hx⟩ : ∃ x, x = l.getD k 0 := ⟨_, rfl⟩
      rw [← hx] at hc hst b1
      have Hst := Lib.hid hst
      have i1 : (k : Int) < (n : Int) := by omega
      have e1 : IntKind.i64.wrap (S + x) = S + x := IntWalk.i64_in _ (by omega)
      clear hx hst
      go_wp2
      go_roundw
      case rel => exact ⟨k + 1, S + x, by omega, by go_num, rfl, Lib.hid Hst.out.symm, trivial⟩
      case measure => simp [intOf]; omega
    · have hkn : k = n := by omega
      have hfin : Hid (S = Fl.sumI l) := Lib.hid (by rw [hS.out, hkn, Hn.out, List.take_length])
      clear hkn
      go_wp2
      go_ret
      exact ⟨ret_int hfin.out, rfl⟩
set_option maxRecDepth 100000 in
set_option maxHeartbeats 1000000 in
theorem rSumB_any (l : List Int) (ao : Option Addr) (n cap : Nat) (w : World) (hI : Ints w ao l) (hln : n = l.length) (hn : n ≤ 1000) (hb : ∀ x ∈ l, -1000000000000000 ≤ x ∧ x ≤ 1000000000000000) :
    Calls Try.prog 36 #[.slice ao n cap] w fun e w' => e = .returned (.int .i64 (Fl.sumI l)) ∧ w' = w := by
  have Hn := Lib.hid hln
  have Hb := Lib.hid (fun k => Cl.sum_take_big hb (by rw [← hln]; exact hn) k)
  clear hln
  go_enter Try.func36, Try.ntmps36
  go_wp2
  go_loopw [3, 4] (fun s i wr => ∃ (k : Nat) (S : Int), k ≤ n ∧ i = .int .i64 k ∧ s = .int .i64 S ∧ Hid (S = Fl.sumI (l.take k)) ∧ wr = w) (fun _ i _ => n - (intOf i).toNat)
  case atStart => exact ⟨0, 0, Nat.zero_le _, rfl, rfl, Lib.hid rfl, rfl⟩
  case round =>
    obtain ⟨k, S, hk, rfl, rfl, hS, hw⟩ := hrel
    rw [hw]
    clear hw wr
    by_cases hlt : k < n
    · have hkl : k < l.length := by have := Hn.out; omega
      obtain ⟨b, off, rfl, hbs, hc⟩ := hI.at hkl
      have hst := Fl.sumI_take hkl
      rw [← hS.out] at hst
      have b1 := Hb.out (k + 1)
      rw [hst] at b1
      obtain ⟨x, hx⟩ : ∃ x, x = l.getD k 0 := ⟨_, rfl⟩
      rw [← hx] at hc hst b1
      have Hst := Lib.hid hst
      have i1 : (k : Int) < (n : Int) := by omega
      have e1 : IntKind.i64.wrap (S + x) = S + x := IntWalk.i64_in _ (by omega)
      clear hx hst
      go_wp2
      go_roundw
      case rel => exact ⟨k + 1, S + x, by omega, by go_num, rfl, Lib.hid Hst.out.symm, trivial⟩
      case measure => simp [intOf]; omega
    · have hkn : k = n := by omega
      have hfin : Hid (S = Fl.sumI l) := Lib.hid (by rw [hS.out, hkn, Hn.out, List.take_length])
      clear hkn
      go_wp2
      go_ret
      exact ⟨ret_int hfin.out, rfl⟩
end Go.Proofs.Ytifhkagngjinfaa
