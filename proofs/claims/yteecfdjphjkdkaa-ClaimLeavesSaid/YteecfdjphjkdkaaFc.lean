import Derived.Test.YteecfdjphjkdkaaFb
namespace Go.Proofs.Yteecfdjphjkdkaa
open Go.RowKit
namespace Cl
/-- A list of numbers as a row of cells. -/
def iarr (L : List Int) : Array Value := (L.map (Value.int .i64)).toArray
theorem iarr_size (L : List Int) : (iarr L).size = L.length := by simp [iarr]
theorem iarr_at {L : List Int} {k : Nat} (h : k < L.length) : (iarr L)[k]? = some (.int .i64 (L.getD k 0)) := by
  simp [iarr, List.getD_eq_getElem?_getD, h]
theorem iarr_set (L : List Int) (k : Nat) (v : Int) : (iarr L).setIfInBounds k (.int .i64 v) = iarr (L.set k v) := by
  simp [iarr, List.map_set]
/-- The numbers of a list but for one place up to a last place are in order. -/
def Up (L : List Int) (i j : Nat) : Prop := ∀ p q, p < q → q ≤ i → q ≠ j → L.getD p 0 ≤ L.getD q 0
def Sorted (L : List Int) (m : Nat) : Prop := ∀ p q, p < q → q < m → L.getD p 0 ≤ L.getD q 0
def swap (L : List Int) (j : Nat) : List Int := (L.set j (L.getD (j - 1) 0)).set (j - 1) (L.getD j 0)
theorem swap_length (L : List Int) (j : Nat) : (swap L j).length = L.length := by simp [swap]
theorem swap_at {L : List Int} {j : Nat} (h0 : 0 < j) (h : j < L.length) (p : Nat) : (swap L j).getD p 0 = if p = j then L.getD (j - 1) 0 else if p = j - 1 then L.getD j 0 else L.getD p 0 := by
  unfold swap
  rw [List.getD_eq_getElem?_getD, List.getElem?_set, List.getElem?_set]
  by_cases h1 : p = j
  · subst h1
    rw [if_neg (by omega), if_pos rfl, if_pos h, if_pos rfl]
    rfl
  · by_cases h2 : p = j - 1
    · subst h2
      rw [if_pos rfl, if_pos (by rw [List.length_set]; omega), if_neg (by omega), if_pos rfl]
      rfl
    · rw [if_neg (fun e => h2 e.symm), if_neg (fun e => h1 e.symm), if_neg h1, if_neg h2, ← List.getD_eq_getElem?_getD]
theorem swap_perm {L : List Int} {j : Nat} (h0 : 0 < j) (h : j < L.length) : (swap L j).Perm L := by
  have h2 := @List.set_set_perm _ L j (j - 1) h (by omega)
  unfold swap
  have e1 : L.getD (j - 1) 0 = L[j - 1]'(by omega) := by rw [List.getD_eq_getElem?_getD, List.getElem?_eq_getElem (by omega)]; rfl
  have e2 : L.getD j 0 = L[j] := by rw [List.getD_eq_getElem?_getD, List.getElem?_eq_getElem h]; rfl
  rw [e1, e2]
  exact h2
theorem up_swap {L : List Int} {i j : Nat} (h0 : 0 < j) (hj : j ≤ i) (hi : i < L.length) (h : Up L i j) (hlt : L.getD j 0 < L.getD (j - 1) 0) : Up (swap L j) i (j - 1) := by
  intro p q hpq hq hne
  rw [swap_at h0 (by omega), swap_at h0 (by omega)]
  by_cases h1 : q = j
  · subst h1
    rw [if_neg (by omega), if_pos rfl]
    by_cases h2 : p = q - 1
    · rw [if_pos h2]; omega
    · rw [if_neg h2]; exact h p (q - 1) (by omega) (by omega) (by omega)
  · rw [if_neg h1, if_neg hne]
    by_cases h3 : p = j
    · rw [if_pos h3]; exact h (j - 1) q (by omega) hq h1
    · rw [if_neg h3]
      by_cases h4 : p = j - 1
      · rw [if_pos h4]; exact h j q (by omega) hq h1
      · rw [if_neg h4]; exact h p q hpq hq h1
theorem up_zero {L : List Int} {i : Nat} (h : Up L i 0) : Sorted L (i + 1) := fun p q hpq hq => h p q hpq (by omega) (by omega)
theorem up_stop {L : List Int} {i j : Nat} (h : Up L i j) (h0 : 0 < j) (hge : ¬ L.getD j 0 < L.getD (j - 1) 0) : Sorted L (i + 1) := by
  intro p q hpq hq
  by_cases h1 : q = j
  · subst h1
    by_cases h2 : p = q - 1
    · subst h2; omega
    · have := h p (q - 1) (by omega) (by omega) (by omega); omega
  · exact h p q hpq (by omega) h1
theorem up_start {L : List Int} {i : Nat} (h : Sorted L i) : Up L i i := fun p q hpq hq hne => h p q hpq (by omega)
theorem sorted_unique {L M : List Int} (hp : L.Perm M) (h1 : Sorted L L.length) (h2 : Sorted M M.length) : L = M := by
  have c : ∀ {K : List Int}, Sorted K K.length → K.Pairwise (fun a b => a ≤ b) := by
    intro K hK
    rw [List.pairwise_iff_getElem]
    intro p q hp hq hpq
    have := hK p q hpq hq
    rw [List.getD_eq_getElem?_getD, List.getD_eq_getElem?_getD, List.getElem?_eq_getElem hp, List.getElem?_eq_getElem hq] at this
    exact this
  exact List.Perm.eq_of_pairwise (fun a b _ _ => by omega) (c h1) (c h2) hp
end Cl

set_option maxHeartbeats 400000 in
theorem isNaN_any (a : Int) (w : World) :
    Calls Try.prog 111 #[.int .i64 a] w fun e w' => e = .returned (.bool false) ∧ w' = w := by
  go_enter Try.func111, Try.ntmps111
  have e1 : ((a : Int) != a) = false := by simp
  go_wp2
  go_ret
  exact ⟨rfl, rfl⟩
set_option maxHeartbeats 400000 in
theorem less_any (a b : Int) (w : World) :
    Calls Try.prog 100 #[.int .i64 a, .int .i64 b] w fun e w' => e = .returned (.bool (decide (a < b))) ∧ w' = w := by
  go_enter Try.func100, Try.ntmps100
  go_wp2_with fail
  refine (isNaN_any a w).mono ?_
  rintro e w1 ⟨rfl, hw0⟩; obtain rfl := hw0.symm
  go_wp2_with fail
  go_ret
  exact ⟨rfl, rfl⟩
set_option maxRecDepth 100000 in
set_option maxHeartbeats 2000000 in
theorem insert_any (L0 : List Int) (g n cap : Nat) (w : World) (hg : w.heap[g]? = some (.cells (Cl.iarr L0) 3 (0, 0))) (hln : n = L0.length) (hn : n ≤ 100000) (hn1 : 1 ≤ n) (_ : n ≤ cap) :
    Calls Try.prog 94 #[.slice (some ⟨g, 0, none⟩) n cap, .int .i64 0, .int .i64 n] w fun e w' => e = .returned (.tuple #[]) ∧ ∃ L, L.Perm L0 ∧ Cl.Sorted L n ∧ w'.heap[g]? = some (.cells (Cl.iarr L) 3 (0, 0)) ∧ Below g w w' := by
  have Hn := Lib.hid hln
  clear hln
  go_enter Try.func94, Try.ntmps94
  go_wp2
  go_loopw [6, 7] (fun i _ wr => ∃ (k : Nat) (L : List Int), 1 ≤ k ∧ k ≤ n ∧ i = .int .i64 k ∧ Hid (L.Perm L0) ∧ Hid (Cl.Sorted L k) ∧ wr.heap[g]? = some (.cells (Cl.iarr L) 3 (0, 0)) ∧ Below g w wr) (fun i _ _ => n - (intOf i).toNat)
  case atStart => exact ⟨1, L0, Nat.le_refl _, hn1, rfl, Lib.hid (List.Perm.refl _), Lib.hid (fun p q h1 h2 => by omega), hg, Below.refl _ _⟩
  case round =>
    clear hg
    obtain ⟨k, L, hk1, hk, rfl, hP, hS, hg, hb⟩ := hrel
    by_cases hlt : k < n
    · have i1 : (k : Int) < (n : Int) := by omega
      go_wp2
      go_loopw [7] (fun j ws => ∃ (m : Nat) (M : List Int), m ≤ k ∧ j = .int .i64 m ∧ Hid (M.Perm L0) ∧ Hid (Cl.Up M k m) ∧ ws.heap[g]? = some (.cells (Cl.iarr M) 3 (0, 0)) ∧ Below g w ws) (fun j _ => (intOf j).toNat)
      case atStart => exact ⟨k, L, Nat.le_refl _, rfl, hP, Lib.hid (Cl.up_start hS.out), hg, hb⟩
      case round =>
        clear hg hb hP hS
        obtain ⟨m, M, hm, rfl, hP, hU, hg, hb⟩ := hrel
        have hlen : M.length = n := by rw [Hn.out]; exact hP.out.length_eq
        have Hl := Lib.hid hlen
        clear hlen
        by_cases h0 : 0 < m
        · have i0 : decide ((0 : Int) < (m : Int)) = true := by simp; omega
          have c1 := (cell_of_row wr g m _ _ _ hg).trans (Cl.iarr_at (L := M) (k := m) (by have := Hl.out; omega))
          have c2 := (cell_of_row wr g (m - 1) _ _ _ hg).trans (Cl.iarr_at (L := M) (k := m - 1) (by have := Hl.out; omega))
          have e1 : IntKind.i64.wrap ((m : Int) - 1) = ((m - 1 : Nat) : Int) := by rw [IntWalk.i64_in _ (by omega)]; omega
          have i2 : (m : Int) < (n : Int) := by omega
          have i3 : ((m - 1 : Nat) : Int) < (n : Int) := by omega
          obtain ⟨x, hx⟩ : ∃ x, x = M.getD m 0 := ⟨_, rfl⟩
          obtain ⟨y, hy⟩ : ∃ x, x = M.getD (m - 1) 0 := ⟨_, rfl⟩
          rw [← hx] at c1
          rw [← hy] at c2
          have Hx := Lib.hid hx
          have Hy := Lib.hid hy
          clear hx hy
          have hlts : Hid (decide (x < y) = decide (M.getD m 0 < M.getD (m - 1) 0)) := Lib.hid (by rw [Hx.out, Hy.out])
          go_wp2
          by_cases hxy : x < y
          · go_quiet ((go_at_call 100; exact Calls.quiet_of_same (less_any _ _ _)))
            have hg1 : (wr.drewN nq).heap[g]? = some (.cells (Cl.iarr M) 3 (0, 0)) := hg
            have hb1 : Below g w (wr.drewN nq) := below_drewN hb nq
            clear c1 c2 hg hb
            generalize (wr.drewN nq) = W at hg1 hb1 ⊢
            have c1 := (cell_of_row W g m _ _ _ hg1).trans (Cl.iarr_at (L := M) (k := m) (by have := Hl.out; omega))
            have c2 := (cell_of_row W g (m - 1) _ _ _ hg1).trans (Cl.iarr_at (L := M) (k := m - 1) (by have := Hl.out; omega))
            rw [← Hx.out] at c1
            rw [← Hy.out] at c2
            have f1 := frozen_of_row W g m _ _ hg1
            have f2 := frozen_of_row W g (m - 1) _ _ hg1
            go_wp2_with fail
            go_region
            have g1 := heap_setCell_same _ g (m - 1) _ 3 (.int .i64 x) (heap_setCell_same W g m _ 3 (.int .i64 y) hg1)
            rw [Cl.iarr_set, Cl.iarr_set, show (M.set m y).set (m - 1) x = Cl.swap M m by unfold Cl.swap; rw [Hx.out, Hy.out]] at g1
            have hP2 := Lib.hid ((Cl.swap_perm h0 (by have := Hl.out; omega)).trans hP.out)
            have hU2 := Lib.hid (Cl.up_swap h0 hm (by have := Hl.out; omega) hU.out (by rw [← Hx.out, ← Hy.out]; exact hxy))
            go_wp2
            go_roundw
            case rel => exact ⟨m - 1, Cl.swap M m, by omega, rfl, hP2, hU2, g1, below_drewN (below_setCell (below_setCell hb1 (Nat.le_refl _) _) (Nat.le_refl _) _) _⟩
            case measure => simp [intOf]; omega
          · have hf : decide (x < y) = false := by simp; omega
            go_quiet ((go_at_call 100; exact Calls.quiet_of_same (less_any _ _ _)))
            have hg1 : (wr.drewN nq).heap[g]? = some (.cells (Cl.iarr M) 3 (0, 0)) := hg
            have hb1 : Below g w (wr.drewN nq) := below_drewN hb nq
            clear c1 c2 hg hb
            generalize (wr.drewN nq) = W at hg1 hb1 ⊢
            have hS2 := Lib.hid (Cl.up_stop hU.out h0 (by rw [← Hx.out, ← Hy.out]; exact hxy))
            go_wp2
            go_roundw
            case rel => exact ⟨k + 1, M, by omega, by omega, by go_num, hP, hS2, hg1, hb1⟩
            case measure => simp [intOf]; omega
        · have hf : decide ((0 : Int) < (m : Int)) = false := by simp; omega
          go_wp2
          go_quiet ((go_at_call 100; exact Calls.quiet_of_same (less_any _ _ _)))
          have hg1 : (wr.drewN nq).heap[g]? = some (.cells (Cl.iarr M) 3 (0, 0)) := hg
          have hb1 : Below g w (wr.drewN nq) := below_drewN hb nq
          clear hg hb
          generalize (wr.drewN nq) = W at hg1 hb1 ⊢
          have hS2 := Lib.hid (Cl.up_zero (L := M) (i := k) (by have := hU.out; rwa [show m = 0 by omega] at this))
          go_wp2
          go_roundw
          case rel => exact ⟨k + 1, M, by omega, by omega, by go_num, hP, hS2, hg1, hb1⟩
          case measure => simp [intOf]; omega
    · go_wp2
      go_end0
      exact ⟨rfl, L, hP.out, fun p q h1 h2 => hS.out p q h1 (by omega), hg, hb⟩
end Go.Proofs.Yteecfdjphjkdkaa
