import Derived.Test.YtnllhhamebmlnaaRows
import Derived.Test.YtnllhhamebmlnaaGeo
import Derived.Test.YtnllhhamebmlnaaWp
namespace Go.Proofs.Ytnllhhamebmlnaa
open Go.RowKit

set_option maxHeartbeats 400000 in
theorem within_any (x y lim : Int) (w : World) (h1 : 0 ≤ lim) (h2 : lim ≤ 4000) :
    Calls Try.prog 66 #[.agg #[.int .i64 x, .int .i64 y], .int .i64 lim] w fun e w' => e = .returned (.bool (Geo.within x y lim)) ∧ Below w.heap.size w w' := by
  go_enter Try.func66, Try.ntmps66
  go_wp2
  all_goals
    go_ret
    refine ⟨ret_bool ?_, (Below.refl _ _).alloc (Nat.le_refl _) _⟩
    unfold Geo.within
    rw [Bool.eq_iff_iff]
    simp
    omega

/-- A slice of points: its length, where it begins, and what its cells hold. -/
structure Pts (w : World) (ao : Option Addr) (l : List (Int × Int)) : Prop where
  cells : 0 < l.length → ∃ b off, ao = some ⟨b, off, none⟩ ∧ b < w.heap.size ∧ ∀ i, i < l.length → w.cell? ⟨b, off + i * 2, none⟩ = some (.int .i64 (l.getD i (0, 0)).1) ∧ w.cell? ⟨b, off + i * 2 + 1, none⟩ = some (.int .i64 (l.getD i (0, 0)).2)

theorem Pts.below {w w' : World} {ao : Option Addr} {l : List (Int × Int)} (h : Pts w ao l) (hb : Below w.heap.size w w') : Pts w' ao l := by
  refine ⟨fun h0 => ?_⟩
  obtain ⟨b, off, rfl, hlt, hc⟩ := h.cells h0
  have hs := hb.size
  exact ⟨b, off, rfl, by omega, fun i hi => ⟨(hb.cell (p := ⟨b, _, none⟩) hlt).trans (hc i hi).1, (hb.cell (p := ⟨b, _, none⟩) hlt).trans (hc i hi).2⟩⟩

theorem all_no {l : List (Int × Int)} {f : Int × Int → Bool} {k : Nat} (h : k < l.length) (hf : f (l.getD k (0, 0)) = false) : l.all f = false := by
  rw [List.all_eq_false]
  refine ⟨l.getD k (0, 0), ?_, by rw [hf]; simp⟩
  rw [List.getD_eq_getElem?_getD, List.getElem?_eq_getElem h]
  exact List.getElem_mem h

theorem all_yes {l : List (Int × Int)} {f : Int × Int → Bool} (h : ∀ j, j < l.length → f (l.getD j (0, 0)) = true) : l.all f = true := by
  rw [List.all_eq_true]
  intro x hx
  obtain ⟨j, hj, rfl⟩ := List.mem_iff_getElem.1 hx
  have := h j hj
  rwa [List.getD_eq_getElem?_getD, List.getElem?_eq_getElem hj] at this

set_option maxHeartbeats 800000 in
theorem allWithin_any (l : List (Int × Int)) (ao : Option Addr) (n cap : Nat) (lim : Int) (w : World) (hp : Pts w ao l) (hln : n = l.length) (hn : n ≤ 100000) (h1 : 0 ≤ lim) (h2 : lim ≤ 4000) :
    Calls Try.prog 58 #[.slice ao n cap, .int .i64 lim] w fun e w' => e = .returned (.bool (l.all fun p => Geo.within p.1 p.2 lim)) ∧ Below w.heap.size w w' := by
  have Hn := Lib.hid hln
  clear hln
  go_enter Try.func58, Try.ntmps58
  go_wp2
  go_loopw [9] (fun i wr => ∃ k : Nat, k ≤ n ∧ i = .int .i64 k ∧ Below w.heap.size w wr ∧ ∀ j, j < k → Geo.within (l.getD j (0, 0)).1 (l.getD j (0, 0)).2 lim = true) (fun i _ => n - (intOf i).toNat)
  case atStart => exact ⟨0, Nat.zero_le _, rfl, Below.refl _ _, fun j hj => by omega⟩
  case round =>
    obtain ⟨k, hk, rfl, hb, hall⟩ := hrel
    have Hall := Lib.hid hall
    clear hall
    by_cases hlt : k < n
    · obtain ⟨b, off, rfl, hbs, hc⟩ := hp.cells (by have := Hn.out; omega)
      obtain ⟨hc1, hc2⟩ := hc k (by have := Hn.out; omega)
      clear hc hp
      rw [← hb.cell (p := ⟨b, _, none⟩) hbs] at hc1 hc2
      obtain ⟨x, hx⟩ : ∃ x, x = (l.getD k (0, 0)).1 := ⟨_, rfl⟩
      obtain ⟨y, hy⟩ : ∃ y, y = (l.getD k (0, 0)).2 := ⟨_, rfl⟩
      rw [← hx] at hc1
      rw [← hy] at hc2
      have Hx := Lib.hid hx
      have Hy := Lib.hid hy
      clear hx hy
      go_wp2_with (first | (go_at_call 66; refine (within_any _ _ _ _ h1 h2).mono ?_; rintro e w' ⟨rfl, hb'⟩))
      · have hno : (!Geo.within x y lim) = true := by assumption
        go_ret
        refine ⟨ret_bool ?_, hb.trans ((((Below.refl _ _).alloc (Nat.le_refl _) _).trans (hb'.mono (by simp))).mono hb.size)⟩
        rw [Hx.out, Hy.out] at hno
        exact (all_no (f := fun p => Geo.within p.1 p.2 lim) (k := k) (by have := Hn.out; omega) (by simpa using hno)).symm
      · have hno : (!Geo.within x y lim) = false := by assumption
        go_roundw
        case rel =>
          refine ⟨k + 1, by omega, by go_num, hb.trans ((((Below.refl _ _).alloc (Nat.le_refl _) _).trans (hb'.mono (by simp))).mono hb.size), fun j hj => ?_⟩
          by_cases e : j = k
          · subst e
            rw [← Hx.out, ← Hy.out]
            simpa using hno
          · exact Hall.out j (by omega)
        case measure => simp [intOf]; omega
    · have hk2 : k = n := by omega
      have Hk := Lib.hid hk2
      clear hk2
      go_wp2
      go_ret
      refine ⟨ret_bool ?_, hb⟩
      exact (all_yes (f := fun p => Geo.within p.1 p.2 lim) fun j hj => Hall.out j (by rw [Hk.out, Hn.out]; exact hj)).symm
end Go.Proofs.Ytnllhhamebmlnaa
