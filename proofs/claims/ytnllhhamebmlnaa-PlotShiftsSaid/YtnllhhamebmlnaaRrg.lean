import Derived.Test.YtnllhhamebmlnaaRef
import Derived.Test.YtnllhhamebmlnaaLst
namespace Go.Proofs.Ytnllhhamebmlnaa
open Go.RowKit

theorem within_no_x {x y : Int} (h : (decide (-30 ≤ x) && decide (x ≤ 30)) = false) : Geo.within x y 30 = false := by
  unfold Geo.within; rw [← Bool.and_assoc, h]; rfl
theorem within_eq {x y : Int} (h : (decide (-30 ≤ x) && decide (x ≤ 30)) = true) : Geo.within x y 30 = (decide (-30 ≤ y) && decide (y ≤ 30)) := by
  unfold Geo.within; rw [← Bool.and_assoc, h]; rfl

set_option maxHeartbeats 1000000 in
theorem ranged_any (l : List (Int × Int)) (ao : Option Addr) (n cap : Nat) (w : World) (hp : Pts w ao l) (hln : n = l.length) (hn : n ≤ 100000) :
    Calls Try.prog 63 #[.slice ao n cap] w fun e w' => e = .returned (.bool (l.all fun p => Geo.within p.1 p.2 30)) ∧ w = w' := by
  have Hn := Lib.hid hln
  clear hln
  go_enter Try.func63, Try.ntmps63
  go_wp2
  go_loop [3] (fun i => ∃ k : Nat, k ≤ n ∧ i = .int .i64 k ∧ ∀ j, j < k → Geo.within (l.getD j (0, 0)).1 (l.getD j (0, 0)).2 30 = true) (fun i => n - (intOf i).toNat)
  case atStart => exact ⟨0, Nat.zero_le _, rfl, fun j hj => by omega⟩
  case round =>
    obtain ⟨k, hk, rfl, hall⟩ := hrel
    have Hall := Lib.hid hall
    clear hall
    by_cases hlt : k < n
    · obtain ⟨b, off, rfl, hbs, hc⟩ := hp.cells (by have := Hn.out; omega)
      obtain ⟨hc1, hc2⟩ := hc k (by have := Hn.out; omega)
      clear hc hp
      obtain ⟨x, hx⟩ : ∃ x, x = (l.getD k (0, 0)).1 := ⟨_, rfl⟩
      obtain ⟨y, hy⟩ : ∃ y, y = (l.getD k (0, 0)).2 := ⟨_, rfl⟩
      rw [← hx] at hc1
      rw [← hy] at hc2
      have Hx := Lib.hid hx
      have Hy := Lib.hid hy
      clear hx hy
      obtain ⟨c1, hc1'⟩ : ∃ c, c = (decide (-30 ≤ x) && decide (x ≤ 30)) := ⟨_, rfl⟩
      obtain ⟨c2, hc2'⟩ : ∃ c, c = (decide (-30 ≤ y) && decide (y ≤ 30)) := ⟨_, rfl⟩
      have H1 := Lib.hid hc1'
      have H2 := Lib.hid hc2'
      clear hc1' hc2'
      go_wp2_with fail
      refine (rwithin_any _ _ _ _).mono ?_
      rintro e w' ⟨rfl, rfl⟩
      rw [← H1.out]
      cases c1 with
      | false =>
        go_wp2_with fail
        go_ret
        refine ⟨ret_bool ?_, rfl⟩
        exact (all_no (f := fun p => Geo.within p.1 p.2 30) (k := k) (by have := Hn.out; omega) (within_no_x (by rw [← Hx.out]; exact H1.out.symm))).symm
      | true =>
        go_wp2_with fail
        refine (rwithin_any _ _ _ _).mono ?_
        rintro e w' ⟨rfl, rfl⟩
        rw [← H2.out]
        cases c2 with
        | false =>
          go_wp2_with fail
          go_ret
          refine ⟨ret_bool ?_, rfl⟩
          exact (all_no (f := fun p => Geo.within p.1 p.2 30) (k := k) (by have := Hn.out; omega) (by show Geo.within _ _ 30 = false; rw [within_eq (by rw [← Hx.out]; exact H1.out.symm), ← Hy.out]; exact H2.out.symm)).symm
        | true =>
          go_wp2_with fail
          go_round
          case rel =>
            refine ⟨k + 1, by omega, by go_num, fun j hj => ?_⟩
            by_cases e : j = k
            · subst e
              rw [within_eq (by rw [← Hx.out]; exact H1.out.symm), ← Hy.out]
              exact H2.out.symm
            · exact Hall.out j (by omega)
          case measure => simp [intOf]; omega
    · have hk2 : k = n := by omega
      have Hk := Lib.hid hk2
      clear hk2
      go_wp2
      go_ret
      refine ⟨ret_bool ?_, rfl⟩
      exact (all_yes (f := fun p => Geo.within p.1 p.2 30) fun j hj => Hall.out j (by rw [Hk.out, Hn.out]; exact hj)).symm

/-- Twice the area, as a fan from the first corner. -/
def fanOf (l : List (Int × Int)) (i : Nat) : Int := Geo.turn (Geo.px l 0) (Geo.py l 0) (Geo.px l (i + 1)) (Geo.py l (i + 1)) (Geo.px l (i + 2)) (Geo.py l (i + 2))
def fan (l : List (Int × Int)) : Int := Geo.sumOf (fanOf l) (List.range (l.length - 2))
theorem fanOf_bound {l : List (Int × Int)} (h : Geo.AllSm l) (i : Nat) : -((128000000 : Nat) : Int) ≤ fanOf l i ∧ fanOf l i ≤ (128000000 : Nat) := by
  have a := Geo.turn_bound (h.x 0) (h.y 0) (h.x (i + 1)) (h.y (i + 1)) (h.x (i + 2)) (h.y (i + 2))
  unfold fanOf Geo.turn
  omega

theorem Pts.at {w : World} {b off : Nat} {l : List (Int × Int)} {n : Nat} (hn : n = l.length) (hc : ∀ i, i < l.length → w.cell? ⟨b, off + i * 2, none⟩ = some (.int .i64 (l.getD i (0, 0)).1) ∧ w.cell? ⟨b, off + i * 2 + 1, none⟩ = some (.int .i64 (l.getD i (0, 0)).2)) {k : Nat} (hk : k < n) :
    w.cell? ⟨b, off + k * 2, none⟩ = some (.int .i64 (Geo.px l k)) ∧ w.cell? ⟨b, off + k * 2 + 1, none⟩ = some (.int .i64 (Geo.py l k)) := hc k (by omega)

set_option maxRecDepth 100000 in
set_option maxHeartbeats 2000000 in
theorem rtwice_any (l : List (Int × Int)) (ao : Option Addr) (n cap : Nat) (w : World) (hp : Pts w ao l) (hln : n = l.length) (hn : n ≤ 10) (hn3 : 3 ≤ n) (hS : Geo.AllSm l) :
    Calls Try.prog 57 #[.slice ao n cap] w fun e w' => e = .returned (.int .i64 (fan l)) ∧ Below w.heap.size w w' := by
  have Hn := Lib.hid hln
  clear hln
  go_enter Try.func57, Try.ntmps57
  go_wp2
  go_loopw [3, 4] (fun s i wr => ∃ k m : Nat, Hid (m = k + 1) ∧ m + 1 ≤ n ∧ i = .int .i64 m ∧ s = .int .i64 (Geo.sumOf (fanOf l) (List.range k)) ∧ Below w.heap.size w wr) (fun _ i _ => n - (intOf i).toNat)
  case atStart => exact ⟨0, 1, rfl, by omega, rfl, rfl, Below.refl _ _⟩
  case round =>
    obtain ⟨k, m, hm, hk, rfl, rfl, hb⟩ := hrel
    have p3 := Geo.sumOf_bound (fanOf_bound hS) (List.range k)
    rw [List.length_range] at p3
    have p4 := fanOf_bound hS k
    obtain ⟨s, hs⟩ : ∃ s, s = Geo.sumOf (fanOf l) (List.range k) := ⟨_, rfl⟩
    rw [← hs] at p3 ⊢
    have q5 : -12800000000 ≤ s := by have := p3.1; have := hm.out; omega
    have q6 : s ≤ 12800000000 := by have := p3.2; have := hm.out; omega
    have Hs := Lib.hid hs
    unfold fanOf at p4
    rw [show k + 2 = k + 1 + 1 from rfl, ← hm.out] at p4
    obtain ⟨q7, q8⟩ := p4
    clear hs p3
    by_cases hlt : m + 1 < n
    · obtain ⟨b, off, rfl, hbs, hc⟩ := hp.cells (by have := Hn.out; omega)
      obtain ⟨a1, a2⟩ := Pts.at Hn.out hc (k := 0) (by omega)
      obtain ⟨a3, a4⟩ := Pts.at Hn.out hc (k := m) (by omega)
      obtain ⟨a5, a6⟩ := Pts.at Hn.out hc (k := m + 1) (by omega)
      simp only [Nat.zero_mul, Nat.add_zero] at a1 a2
      clear hc hp
      rw [← hb.cell (p := ⟨b, _, none⟩) hbs] at a1 a2 a3 a4 a5 a6
      have hbr : b < wr.heap.size := Nat.lt_of_lt_of_le hbs hb.size
      have e1 : IntKind.i64.wrap ((m : Int) + 1) = (m : Int) + 1 := IntWalk.i64_in _ (by omega)
      have e2 : IntKind.i64.wrap (s + Geo.turn (Geo.px l 0) (Geo.py l 0) (Geo.px l m) (Geo.py l m) (Geo.px l (m + 1)) (Geo.py l (m + 1))) = s + Geo.turn (Geo.px l 0) (Geo.py l 0) (Geo.px l m) (Geo.py l m) (Geo.px l (m + 1)) (Geo.py l (m + 1)) := IntWalk.i64_in _ (by omega)
      have i1 : (0 : Int) ≤ (m : Int) := by omega
      have i2 : (m : Int) < (n : Int) := by omega
      have i3 : (0 : Int) ≤ (m : Int) + 1 := by omega
      have i4 : (m : Int) + 1 < (n : Int) := by omega
      have i5 : (0 : Int) < (n : Int) := by omega
      have i6 : 0 < n := by omega
      have t2 : ((m : Int) + 1).toNat = m + 1 := by omega
      go_wp2
      go_region_held3 (fun w' => (∀ b o, b < wr.heap.size → w'.cell? ⟨b, o, none⟩ = wr.cell? ⟨b, o, none⟩) ∧ wr.heap.size ≤ w'.heap.size) (first | exact ⟨fun _ _ _ => rfl, Nat.le_refl _⟩ | exact held_step (by assumption) hb') (first | (go_at_call 73; refine (rturn_any _ _ _ _ _ _ _ (hS.x _) (hS.y _) (hS.x _) (hS.y _) (hS.x _) (hS.y _)).mono ?_; rintro e w' ⟨rfl, hb'⟩))
      go_goals
      have hb2 : Below w.heap.size w w' := hb.drew.trans (hb'.mono hb.size)
      go_wp2
      go_roundw
      case rel =>
        refine ⟨k + 1, m + 1, Lib.hid (show m + 1 = k + 1 + 1 by have := hm.out; omega), by omega, by go_num, ?_, hb2⟩
        rw [List.range_succ, Geo.sumOf_snoc, ← Hs.out]
        unfold fanOf
        rw [show k + 2 = k + 1 + 1 from rfl, ← hm.out]
      case measure => simp [intOf]; omega
    · have hk2 : k = n - 2 := by have := hm.out; omega
      have Hk := Lib.hid hk2
      clear hk2
      go_wp2
      go_ret
      refine ⟨ret_int ?_, hb⟩
      show s = fan l
      unfold fan
      rw [Hs.out, Hk.out, Hn.out]
end Go.Proofs.Ytnllhhamebmlnaa
