import Derived.Test.YtnllhhamebmlnaaLst
import Derived.BigQuiet
import Derived.Deep.QuietTactic
import Derived.StillTailTactics
import Derived.Deep.RegionWith
namespace Go.Proofs.Ytnllhhamebmlnaa
open Go.RowKit

theorem find_at {l : List (Int × Int)} {p : Int × Int} {k : Nat} (hk : k < l.length) (he : l.getD k (0, 0) = p) (hno : ∀ j, j < k → l.getD j (0, 0) ≠ p) : Geo.find l p = k := by
  have hi : l.idxOf p = k := by
    rw [List.getD_eq_getElem?_getD, List.getElem?_eq_getElem hk] at he
    have he' : l[k] = p := by simpa using he
    have h1 : l.idxOf p ≤ k := by
      apply Nat.le_of_not_lt
      intro h
      have := List.not_of_lt_findIdx (p := (· == p)) (xs := l) (i := k) (by simpa [List.idxOf] using h)
      simp [he'] at this
    rcases Nat.lt_or_ge (l.idxOf p) k with h | h
    · have h2 := hno _ h
      rw [List.getD_eq_getElem?_getD, List.getElem?_eq_getElem (by omega)] at h2
      exact absurd (by simp) h2
    · omega
  unfold Geo.find
  rw [hi, if_pos hk]

theorem find_none {l : List (Int × Int)} {p : Int × Int} (hno : ∀ j, j < l.length → l.getD j (0, 0) ≠ p) : Geo.find l p = -1 := by
  unfold Geo.find
  rw [if_neg]
  intro h
  have h2 := hno _ h
  rw [List.getD_eq_getElem?_getD, List.getElem?_eq_getElem h] at h2
  exact absurd (by simp) h2

set_option maxHeartbeats 800000 in
theorem index_any (l : List (Int × Int)) (ao : Option Addr) (n cap : Nat) (x y : Int) (w : World) (hp : Pts w ao l) (hln : n = l.length) (hn : n ≤ 100000) :
    Calls Try.prog 115 #[.slice ao n cap, .agg #[.int .i64 x, .int .i64 y]] w fun e w' => e = .returned (.int .i64 (Geo.find l (x, y))) ∧ Below w.heap.size w w' := by
  have Hn := Lib.hid hln
  clear hln
  go_enter Try.func115, Try.ntmps115
  go_wp2
  go_loopw [8] (fun i wr => ∃ k : Nat, k ≤ n ∧ i = .int .i64 k ∧ Below (w.heap.size + 1) (w.alloc (.cells #[.int .i64 x, .int .i64 y] 32)) wr ∧ ∀ j, j < k → l.getD j (0, 0) ≠ (x, y)) (fun i _ => n - (intOf i).toNat)
  case atStart => exact ⟨0, Nat.zero_le _, rfl, Below.refl _ _, fun j hj => by omega⟩
  case round =>
    obtain ⟨k, hk, rfl, hb, hall⟩ := hrel
    have Hall := Lib.hid hall
    clear hall
    by_cases hlt : k < n
    · obtain ⟨b, off, rfl, hbs, hc⟩ := hp.cells (by have := Hn.out; omega)
      obtain ⟨hc1, hc2⟩ := hc k (by have := Hn.out; omega)
      clear hc hp
      rw [← World.cell?_alloc_past (w := w) (.cells #[.int .i64 x, .int .i64 y] 32) b _ hbs, ← hb.cell (p := ⟨b, _, none⟩) (by simp; omega)] at hc1 hc2
      have hv1 : wr.cell? ⟨w.heap.size, 0, none⟩ = some (.int .i64 x) := by rw [hb.cell (p := ⟨w.heap.size, 0, none⟩) (by simp)]; simp
      have hv2 : wr.cell? ⟨w.heap.size, 1, none⟩ = some (.int .i64 y) := by rw [hb.cell (p := ⟨w.heap.size, 1, none⟩) (by simp)]; simp
      obtain ⟨x2, hx⟩ : ∃ x, x = (l.getD k (0, 0)).1 := ⟨_, rfl⟩
      obtain ⟨y2, hy⟩ : ∃ y, y = (l.getD k (0, 0)).2 := ⟨_, rfl⟩
      rw [← hx] at hc1
      rw [← hy] at hc2
      have Hx := Lib.hid hx
      have Hy := Lib.hid hy
      clear hx hy
      go_wp2
      have heq := run_eq_pt x y x2 y2
      go_quiet (fail)
      clear heq
      go_wp2
      · have hq : Geo.peq x y x2 y2 = true := by assumption
        go_ret
        refine ⟨ret_int ?_, ((Below.refl _ _).alloc (Nat.le_refl _) _).trans ((below_drewN hb _).mono (by omega))⟩
        obtain ⟨rfl, rfl⟩ := Geo.peq_true.1 hq
        exact (find_at (k := k) (by have := Hn.out; omega) (by rw [Hx.out, Hy.out]) Hall.out).symm
      · have hq : Geo.peq x y x2 y2 = false := by assumption
        go_roundw
        case rel =>
          refine ⟨k + 1, by omega, by go_num, below_drewN hb _, fun j hj => ?_⟩
          by_cases e : j = k
          · subst e
            intro h
            have h3 := Geo.peq_false.1 hq
            rw [Hx.out, Hy.out, h] at h3
            exact h3 ⟨rfl, rfl⟩
          · exact Hall.out j (by omega)
        case measure => simp [intOf]; omega
    · have hk2 : k = n := by omega
      have Hk := Lib.hid hk2
      clear hk2
      go_wp2
      go_ret
      refine ⟨ret_int ?_, ((Below.refl _ _).alloc (Nat.le_refl _) _).trans (hb.mono (by omega))⟩
      exact (find_none fun j hj => Hall.out j (by rw [Hk.out, Hn.out]; exact hj)).symm

theorem find_contains (l : List (Int × Int)) (p : Int × Int) : decide (0 ≤ Geo.find l p) = l.contains p := by
  unfold Geo.find
  rw [Bool.eq_iff_iff]
  simp only [decide_eq_true_eq, List.contains_iff_mem, ← List.idxOf_lt_length_iff]
  split <;> omega

set_option maxHeartbeats 800000 in
theorem contains_any (l : List (Int × Int)) (ao : Option Addr) (n cap : Nat) (x y : Int) (w : World) (hp : Pts w ao l) (hln : n = l.length) (hn : n ≤ 100000) :
    Calls Try.prog 98 #[.slice ao n cap, .agg #[.int .i64 x, .int .i64 y]] w fun e w' => e = .returned (.bool (l.contains (x, y))) ∧ Below w.heap.size w w' := by
  have Hn := Lib.hid hln
  clear hln
  have Hc := Lib.hid (find_contains l (x, y))
  have hp2 := hp.below ((Below.refl _ _).alloc (Nat.le_refl _) (.cells #[.int .i64 x, .int .i64 y] 32))
  go_enter Try.func98, Try.ntmps98
  go_wp2_with (go_at_call 115; refine (index_any _ _ _ _ _ _ _ hp2 Hn.out hn).mono ?_; rintro e w' ⟨rfl, hb'⟩)
  go_ret
  refine ⟨ret_bool ?_, ((Below.refl _ _).alloc (Nat.le_refl _) _).trans (hb'.mono (by simp))⟩
  exact Hc.out

theorem Pts.take {w : World} {ao : Option Addr} {l : List (Int × Int)} (h : Pts w ao l) (k : Nat) : Pts w ao (l.take k) := by
  refine ⟨fun h0 => ?_⟩
  obtain ⟨b, off, rfl, hlt, hc⟩ := h.cells (by simp at h0; omega)
  refine ⟨b, off, rfl, hlt, fun i hi => ?_⟩
  have h2 := hc i (by simp at hi; omega)
  have e : (l.take k).getD i (0, 0) = l.getD i (0, 0) := by
    simp only [List.length_take] at hi
    simp only [List.getD_eq_getElem?_getD, List.getElem?_take]
    rw [if_pos (by omega)]
  rw [e]
  exact h2

theorem twice_yes {l : List (Int × Int)} {k : Nat} (hk : k < l.length) (h : (l.take k).contains (l.getD k (0, 0)) = true) : Geo.twice l = true := by
  unfold Geo.twice
  rw [List.any_eq_true]
  exact ⟨k, List.mem_range.2 hk, h⟩
theorem twice_no {l : List (Int × Int)} (h : ∀ k, k < l.length → (l.take k).contains (l.getD k (0, 0)) = false) : Geo.twice l = false := by
  unfold Geo.twice
  rw [List.any_eq_false]
  intro k hk
  rw [h k (List.mem_range.1 hk)]
  simp

set_option maxRecDepth 100000 in
set_option maxHeartbeats 800000 in
theorem hasTwice_any (l : List (Int × Int)) (ao : Option Addr) (n cap : Nat) (w : World) (hp : Pts w ao l) (hln : n = l.length) (hn : n ≤ 100000) (hcap : n ≤ cap) :
    Calls Try.prog 59 #[.slice ao n cap] w fun e w' => e = .returned (.bool (Geo.twice l)) ∧ Below w.heap.size w w' := by
  have Hn := Lib.hid hln
  clear hln
  go_enter Try.func59, Try.ntmps59
  go_wp2
  go_loopw [7] (fun i wr => ∃ k : Nat, k ≤ n ∧ i = .int .i64 k ∧ Below w.heap.size w wr ∧ ∀ j, j < k → (l.take j).contains (l.getD j (0, 0)) = false) (fun i _ => n - (intOf i).toNat)
  case atStart => exact ⟨0, Nat.zero_le _, rfl, Below.refl _ _, fun j hj => by omega⟩
  case round =>
    obtain ⟨k, hk, rfl, hb, hall⟩ := hrel
    have Hall := Lib.hid hall
    clear hall
    by_cases hlt : k < n
    · have hpk := (hp.below hb).take k
      obtain ⟨b, off, rfl, hbs, hc⟩ := hp.cells (by have := Hn.out; omega)
      obtain ⟨hc1, hc2⟩ := hc k (by have := Hn.out; omega)
      clear hc hp
      rw [← hb.cell (p := ⟨b, _, none⟩) hbs] at hc1 hc2
      obtain ⟨x, hx⟩ : ∃ x, x = (l.getD k (0, 0)).1 := ⟨_, rfl⟩
      obtain ⟨y, hy⟩ : ∃ y, y = (l.getD k (0, 0)).2 := ⟨_, rfl⟩
      rw [← hx] at hc1
      rw [← hy] at hc2
      have Hx := Lib.hid hx
      have Hy := Lib.hid hy
      clear hx hy
      have hpk2 := (hpk.below (w' := (wr.alloc (.cells #[.int .i64 x, .int .i64 y] 32))) ((Below.refl _ _).alloc (Nat.le_refl _) _))
      clear hpk
      have hkc : (k : Int) ≤ (cap : Int) := by omega
      have hkc2 : k ≤ cap := by omega
      have hpk3 := hpk2.below (below_drewN (Below.refl _ _) 1)
      go_wp2
      go_region_with (go_at_call 98; refine (contains_any (l.take k) _ _ _ _ _ _ hpk3 (by simp; have := Hn.out; omega) (by omega)).mono ?_; rintro e w' ⟨rfl, hb'⟩)
      have hbn : Below w.heap.size w w' := hb.trans (((below_drewN ((Below.refl _ wr).alloc (Nat.le_refl _) _) 1).trans (hb'.mono (by simp [World.drewN]))).mono hb.size)
      clear hpk2 hpk3 hb' hkc hkc2
      go_wp2
      · have hq : (l.take k).contains (x, y) = true := List.contains_iff_mem.2 (by assumption)
        go_ret
        refine ⟨ret_bool ?_, hbn⟩
        rw [Hx.out, Hy.out] at hq
        exact (twice_yes (k := k) (by have := Hn.out; omega) hq).symm
      · have hq : (l.take k).contains (x, y) = false := by
          have h : ¬ (x, y) ∈ l.take k := by assumption
          simpa using h
        go_roundw
        case rel =>
          refine ⟨k + 1, by omega, by go_num, hbn, fun j hj => ?_⟩
          by_cases e : j = k
          · subst e
            rw [Hx.out, Hy.out] at hq
            exact hq
          · exact Hall.out j (by omega)
        case measure => simp [intOf]; omega
    · have hk2 : k = n := by omega
      have Hk := Lib.hid hk2
      clear hk2
      go_wp2
      go_ret
      refine ⟨ret_bool ?_, hb⟩
      exact (twice_no fun j hj => Hall.out j (by rw [Hk.out, Hn.out]; exact hj)).symm
end Go.Proofs.Ytnllhhamebmlnaa
