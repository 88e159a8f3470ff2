import Derived.Test.YtmajcccdbhbkfaaB6
namespace Go.Proofs.Ytmajcccdbhbkfaa
open Go.RowKit

theorem infoZnAll : (Try.prog.info? 52).map (fun i => (i.zero, i.size, i.bytes)) = some (some (.agg #[.int .i64 0, .int .i64 0]), 2, 16) := by kernel_rfl
theorem info_zn : ∃ i, Try.prog.info? 52 = some i ∧ i.zero = some (.agg #[.int .i64 0, .int .i64 0]) ∧ i.size = 2 ∧ i.bytes = 16 := by
  have h := infoZnAll
  cases hi : Try.prog.info? 52 with
  | none => rw [hi] at h; cases h
  | some i =>
    rw [hi] at h
    simp only [Option.map_some, Option.some.injEq, Prod.mk.injEq] at h
    exact ⟨i, rfl, h.1, h.2.1, h.2.2⟩

set_option maxRecDepth 100000 in
set_option maxHeartbeats 1000000 in
theorem cloneZ_any (l : List (Int × Int)) (ao : Option Addr) (n cap : Nat) (w : World) (hp : Pts w ao l) (hln : n = l.length) (hn : n ≤ 100000) :
    Calls Try.prog 85 #[.slice ao n cap] w fun e w' => ∃ v, e = .returned v ∧ w'.ownsRow w.heap.size 52 2 v n (flat2 l) ∧ Below w.heap.size w w' := by
  obtain ⟨i0, hi, hz0, hz1, hz2⟩ := info_zn
  have q := fun (w : World) (a : Option Addr) (n c n' c' : Nat) => Lib.run_eql_slice_nil (P := Try.prog) w 22 52 a n c n' c' Try.underlying22
  cases ao with
  | none =>
    have h0 : l = [] := by
      cases l with
      | nil => rfl
      | cons z r => obtain ⟨b, off, e, -⟩ := hp.cells (by simp); cases e
    subst h0
    subst hln
    go_enter Try.func85, Try.ntmps85
    go_wp2
    go_ret
    exact ⟨_, rfl, ⟨rfl, .inl ⟨rfl, rfl⟩⟩, Below.refl _ _⟩
  | some ad =>
    have Hn := Lib.hid hln
    have hA := (Below.refl _ w).alloc (Nat.le_refl _) (.cells #[] 52)
    have Hs := Lib.hid (pts_flat (hp.below hA))
    clear hln hp hA
    go_enter Try.func85, Try.ntmps85
    go_wp2_with (first | (at_builtin; refine wpList_append_own _ rfl _ _ 22 rfl w.heap.size 52 i0 (.agg #[.int .i64 0, .int .i64 0]) 2 16 Try.underlying22 hi hz0 hz1 hz2 rfl (by decide) _ 0 [] rfl (own_new2 w _) ad n cap (flat2 l) rfl (by rw [flat2_length, Hn.out]) Hs.out (flat2_one l) (by unfold maxLen; omega) (by omega) (by simp) ?_; intro v' w3 hown' hgrow3 hnil3))
    have hgb : Below w.heap.size w w3 := ((Below.refl _ w).alloc (Nat.le_refl _) _).grown hgrow3 (by simp) (fun k hk => by cases hk; exact Nat.le_refl _)
    have hown2 : w3.ownsRow w.heap.size 52 2 v' n (flat2 l) := by
      have h := hown'
      rw [Nat.zero_add, List.nil_append] at h
      exact h
    clear hown' hgrow3 hnil3
    go_ret
    exact ⟨_, rfl, hown2, hgb⟩

/-- Element i of a list after k exchanges from both ends. -/
def swapAt (l : List (Int × Int)) (n k i : Nat) : Int × Int := if i < k ∨ n - 1 - i < k then l.getD (n - 1 - i) (0, 0) else l.getD i (0, 0)
/-- A row that holds the elements. -/
def SwapRow (l : List (Int × Int)) (n k : Nat) (cur : Array Value) : Prop :=
  ∀ i, i < n → cur[i * 2]? = some (.int .i64 (swapAt l n k i).1) ∧ cur[i * 2 + 1]? = some (.int .i64 (swapAt l n k i).2)
theorem swap_step {l : List (Int × Int)} {n k j : Nat} {cur cur' : Array Value} {x y : Int × Int} (h : SwapRow l n k cur) (hkj : k < j) (hj : j + k + 1 = n) (hx : x = l.getD k (0, 0)) (hy : y = l.getD j (0, 0))
    (hc : ∀ o, cur'[o]? = if o = k * 2 then some (.int .i64 y.1) else if o = k * 2 + 1 then some (.int .i64 y.2) else if o = j * 2 then some (.int .i64 x.1) else if o = j * 2 + 1 then some (.int .i64 x.2) else cur[o]?) : SwapRow l n (k + 1) cur' := by
  intro i hi
  obtain ⟨h1, h2⟩ := h i hi
  rw [hc, hc]
  by_cases e : i = k
  · subst e
    rw [if_pos rfl, if_neg (by omega), if_pos rfl]
    unfold swapAt
    rw [if_pos (by omega), show n - 1 - i = j by omega, ← hy]
    exact ⟨rfl, rfl⟩
  · by_cases e2 : i = j
    · subst e2
      rw [if_neg (by omega), if_neg (by omega), if_pos rfl, if_neg (by omega), if_neg (by omega), if_neg (by omega), if_pos rfl]
      unfold swapAt
      rw [if_pos (by omega), show n - 1 - i = k by omega, ← hx]
      exact ⟨rfl, rfl⟩
    · rw [if_neg (by omega), if_neg (by omega), if_neg (by omega), if_neg (by omega), if_neg (by omega), if_neg (by omega), if_neg (by omega), if_neg (by omega), h1, h2]
      have : swapAt l n (k + 1) i = swapAt l n k i := by
        unfold swapAt
        by_cases hh : i < k ∨ n - 1 - i < k
        · rw [if_pos (by omega), if_pos hh]
        · rw [if_neg (by omega), if_neg hh]
      rw [this]
      exact ⟨rfl, rfl⟩
theorem swap_end {l : List (Int × Int)} {n k : Nat} (hn : n = l.length) (hk : n ≤ 2 * k + 1) {w : World} {g : Nat} {cur : Array Value} {t : TypeId} (hg : w.heap[g]? = some (.cells cur t (0, 0))) (h : SwapRow l n k cur) : Pts w (some ⟨g, 0, none⟩) l.reverse := by
  refine ⟨fun h0 => ⟨g, 0, rfl, heap_lt hg, fun i hi => ?_⟩⟩
  rw [List.length_reverse, ← hn] at hi
  obtain ⟨h1, h2⟩ := h i hi
  have e : l.reverse.getD i (0, 0) = swapAt l n k i := by
    rw [List.getD_eq_getElem?_getD, List.getElem?_reverse (by omega)]
    unfold swapAt
    split
    · rw [List.getD_eq_getElem?_getD, hn]
    · have : n - 1 - i = i := by omega
      rw [← hn, this, List.getD_eq_getElem?_getD]
  rw [e, cell_of_row w g _ _ _ _ hg, cell_of_row w g _ _ _ _ hg, Nat.zero_add]
  exact ⟨h1, h2⟩

set_option maxRecDepth 100000 in
set_option maxHeartbeats 2000000 in
theorem reverseZ_any (l : List (Int × Int)) (g n cap : Nat) (cur : Array Value) (w : World) (hg : w.heap[g]? = some (.cells cur 52 (0, 0))) (hln : n = l.length) (hn : n ≤ 100000) (_ : n ≤ cap) (hs : SwapRow l n 0 cur) :
    Calls Try.prog 86 #[.slice (some ⟨g, 0, none⟩) n cap] w fun e w' => e = .returned (.tuple #[]) ∧ Pts w' (some ⟨g, 0, none⟩) l.reverse ∧ Below g w w' := by
  have Hn := Lib.hid hln
  have HS := Lib.hid hs
  clear hln hs
  have e1 : IntKind.i64.wrap ((n : Int) - 1) = (n : Int) - 1 := IntWalk.i64_in _ (by omega)
  go_enter Try.func86, Try.ntmps86
  go_wp2
  clear e1
  go_loopw [2, 3] (fun i j wr => ∃ (k : Nat) (z : Int), 2 * k ≤ n + 1 ∧ Hid (z = (n : Int) - 1 - k) ∧ -1 ≤ z ∧ z ≤ 100000 ∧ i = .int .i64 k ∧ j = .int .i64 z ∧ ∃ cu, wr.heap[g]? = some (.cells cu 52 (0, 0)) ∧ Hid (SwapRow l n k cu) ∧ Below g w wr) (fun i _ _ => n + 1 - (intOf i).toNat)
  case atStart => exact ⟨0, (n : Int) - 1, by omega, Lib.hid (by omega), by omega, by omega, rfl, rfl, cur, hg, HS, Below.refl _ _⟩
  case round =>
    clear hg HS
    obtain ⟨k, z, hk, Hz, hz1, hz2, rfl, rfl, cu, hg, hS, hb⟩ := hrel
    by_cases hlt : (k : Int) < z
    · obtain ⟨j, rfl⟩ := Int.eq_ofNat_of_zero_le (show 0 ≤ z by omega)
      have hz := Hz.out
      have hkj : k < j := by omega
      have hjn : j + k + 1 = n := by omega
      have hj2 : (j : Int) < (n : Int) := by omega
      have hk2 : (k : Int) < (n : Int) := by omega
      obtain ⟨a1, a2⟩ := hS.out k (by omega)
      obtain ⟨b1, b2⟩ := hS.out j (by omega)
      have ek : swapAt l n k k = l.getD k (0, 0) := by unfold swapAt; rw [if_neg (by omega)]
      have ej : swapAt l n k j = l.getD j (0, 0) := by unfold swapAt; rw [if_neg (by omega)]
      rw [ek] at a1 a2
      rw [ej] at b1 b2
      obtain ⟨x, hx⟩ : ∃ x, x = l.getD k (0, 0) := ⟨_, rfl⟩
      obtain ⟨y, hy⟩ : ∃ x, x = l.getD j (0, 0) := ⟨_, rfl⟩
      rw [← hx] at a1 a2
      rw [← hy] at b1 b2
      have hcl := fun o => cell_of_row wr g o cu 52 (0, 0) hg
      have c0 := (hcl (k * 2)).trans a1
      have c1 := (hcl (k * 2 + 1)).trans a2
      have c2 := (hcl (j * 2)).trans b1
      have c3 := (hcl (j * 2 + 1)).trans b2
      have f0 := frozen_of_row wr g (k * 2) cu _ hg
      have f1 := frozen_of_row wr g (k * 2 + 1) cu _ hg
      have f2 := frozen_of_row wr g (j * 2) cu _ hg
      have f3 := frozen_of_row wr g (j * 2 + 1) cu _ hg
      have HX := Lib.hid (And.intro hx (And.intro hy (And.intro hz (And.intro hkj (And.intro hjn (And.intro a1 (And.intro a2 (And.intro b1 b2))))))))
      clear ek ej hcl a1 a2 b1 b2 hx hy hz hk hkj hjn
      go_wp2_with fail
      go_region
      obtain ⟨hx, hy, hz, hkj, hjn, a1, a2, b1, b2⟩ := HX.out
      have g1 := heap_setCell_same wr g (k * 2) cu 52 (.int .i64 y.1) hg
      have g2 := heap_setCell_same _ g (k * 2 + 1) _ 52 (.int .i64 y.2) g1
      have g3 := heap_setCell_same _ g (j * 2) _ 52 (.int .i64 x.1) g2
      have g4 := heap_setCell_same _ g (j * 2 + 1) _ 52 (.int .i64 x.2) g3
      have hs2 := swap_step (cur' := (((cu.setIfInBounds (k * 2) (.int .i64 y.1)).setIfInBounds (k * 2 + 1) (.int .i64 y.2)).setIfInBounds (j * 2) (.int .i64 x.1)).setIfInBounds (j * 2 + 1) (.int .i64 x.2)) hS.out hkj hjn hx hy (by
        intro o
        have z1 := (Array.getElem?_eq_some_iff.1 a1).1
        have z2 := (Array.getElem?_eq_some_iff.1 a2).1
        have z3 := (Array.getElem?_eq_some_iff.1 b1).1
        have z4 := (Array.getElem?_eq_some_iff.1 b2).1
        simp only [Array.getElem?_setIfInBounds, Array.size_setIfInBounds]
        by_cases e1 : o = k * 2
        · subst e1
          rw [if_neg (by omega), if_neg (by omega), if_neg (by omega), if_pos rfl, if_pos z1, if_pos rfl]
        · by_cases e2 : o = k * 2 + 1
          · subst e2
            rw [if_neg (by omega), if_neg (by omega), if_pos rfl, if_pos z2, if_neg (by omega), if_pos rfl]
          · by_cases e3 : o = j * 2
            · subst e3
              rw [if_neg (by omega), if_pos rfl, if_pos z3, if_neg (by omega), if_neg (by omega), if_pos rfl]
            · by_cases e4 : o = j * 2 + 1
              · subst e4
                rw [if_pos rfl, if_pos z4, if_neg (by omega), if_neg (by omega), if_neg (by omega), if_pos rfl]
              · rw [if_neg (by omega), if_neg (by omega), if_neg (by omega), if_neg (by omega), if_neg e1, if_neg e2, if_neg e3, if_neg e4])
      have HS2 := Lib.hid hs2
      have hz2 : Hid ((j : Int) - 1 = (n : Int) - 1 - ((k + 1 : Nat) : Int)) := Lib.hid (by omega)
      have hk3 : 2 * (k + 1) ≤ n + 1 := by omega
      have hbb := below_setCell (below_setCell (below_setCell (below_setCell hb (Nat.le_refl _) (o := k * 2) (.int .i64 y.1)) (Nat.le_refl _) (o := k * 2 + 1) (.int .i64 y.2)) (Nat.le_refl _) (o := j * 2) (.int .i64 x.1)) (Nat.le_refl _) (o := j * 2 + 1) (.int .i64 x.2)
      clear c0 c1 c2 c3 f0 f1 f2 f3 g1 g2 g3 hs2 hx hy hz a1 a2 b1 b2 hg hS hb HX
      have w1 : IntKind.i64.wrap ((j : Int) - 1) = (j : Int) - 1 := IntWalk.i64_in _ (by omega)
      generalize (((wr.setCell ⟨g, k * 2, none⟩ (.int .i64 y.1)).setCell ⟨g, k * 2 + 1, none⟩ (.int .i64 y.2)).setCell ⟨g, j * 2, none⟩ (.int .i64 x.1)).setCell ⟨g, j * 2 + 1, none⟩ (.int .i64 x.2) = wz at g4 hbb ⊢
      go_wp2
      go_roundw
      case rel => exact ⟨k + 1, (j : Int) - 1, hk3, hz2, by omega, by omega, by go_num, by go_num, _, g4, HS2, below_drewN hbb 1⟩
      case measure => simp [intOf]; omega
    · have hz := Hz.out
      have hp := Lib.hid (swap_end Hn.out (show n ≤ 2 * k + 1 by omega) hg hS.out)
      clear hz
      go_wp2
      go_end0
      exact ⟨rfl, hp.out, hb⟩
end Go.Proofs.Ytmajcccdbhbkfaa
