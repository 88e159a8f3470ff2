import Derived.Test.YtkpabehjehbidaaRx
namespace Go.Proofs.Ytkpabehjehbidaa
open Go.RowKit

/-- Numbers with which the statements reckon. -/
def fairB (p : Int × Int) : Bool := decide (1 ≤ p.2) && (decide (p.2 ≤ 1073741824) && (decide (p.1 ≤ 35184372088832) && decide (-35184372088832 ≤ p.1)))
theorem fairB_iff {p : Int × Int} : fairB p = true ↔ 1 ≤ p.2 ∧ p.2 ≤ 1073741824 ∧ p.1 ≤ 35184372088832 ∧ -35184372088832 ≤ p.1 := by
  unfold fairB; simp
set_option maxRecDepth 100000 in
set_option maxHeartbeats 2000000 in
theorem fair_any (ps : List (Int × Int)) (ao : Option Addr) (n cap : Nat) (w : World) (hp : Pts w ao ps) (hln : n = ps.length) (hn : n ≤ 100000) :
    Calls Try.prog 27 #[.slice ao n cap] w fun e w' => e = .returned (.bool (ps.all fairB)) ∧ w = w' := by
  have Hn := Lib.hid hln
  clear hln
  obtain ⟨R, hR⟩ : ∃ r, ps.all fairB = r := ⟨_, rfl⟩
  rw [hR]
  have HR := Lib.hid hR
  clear hR
  go_enter Try.func27, Try.ntmps27
  go_wp2
  go_loop [3] (fun i => ∃ k : Nat, k ≤ n ∧ i = .int .i64 k ∧ Hid (∀ j, j < k → fairB (ps.getD j (0, 0)) = true)) (fun i => n - (intOf i).toNat)
  case atStart => exact ⟨0, Nat.zero_le _, rfl, Lib.hid fun j hj => by omega⟩
  case round =>
    obtain ⟨k, hk, rfl, hall⟩ := hrel
    by_cases hlt : k < n
    · have hkl : k < ps.length := by have := Hn.out; omega
      obtain ⟨b, off, rfl, hbs, hc⟩ := hp.cells (by omega)
      obtain ⟨hc1, hc2⟩ := hc k hkl
      clear hc hp
      have i1 : (k : Int) < (n : Int) := by omega
      have haf := all_false hkl (f := fairB)
      obtain ⟨z, hz⟩ : ∃ x, x = ps.getD k (0, 0) := ⟨_, rfl⟩
      rw [← hz] at hc1 hc2 haf
      obtain ⟨x, y⟩ := z
      simp only at hc1 hc2
      have Hz := Lib.hid hz
      clear hz
      cases hok : fairB (x, y) with
      | true =>
        obtain ⟨q1, q2, q3, q4⟩ := fairB_iff.1 hok
        simp only at q1 q2 q3 q4
        clear haf
        have Hok := Lib.hid hok
        clear hok
        go_wp2
        go_round
        case rel =>
          refine ⟨k + 1, by omega, by go_num, Lib.hid fun j hj => ?_⟩
          by_cases e : j = k
          · subst e; rw [← Hz.out]; exact Hok.out
          · exact hall.out j (by omega)
        case measure => simp [intOf]; omega
      | false =>
        have hv : Hid (R = false) := Lib.hid (HR.out.symm.trans (haf hok))
        have hq : y < 1 ∨ (1 ≤ y ∧ 1073741824 < y) ∨ (1 ≤ y ∧ y ≤ 1073741824 ∧ 35184372088832 < x) ∨ (1 ≤ y ∧ y ≤ 1073741824 ∧ x ≤ 35184372088832 ∧ x < -35184372088832) := by
          have : ¬ (1 ≤ y ∧ y ≤ 1073741824 ∧ x ≤ 35184372088832 ∧ -35184372088832 ≤ x) := fun h => by rw [fairB_iff.2 h] at hok; cases hok
          omega
        clear haf hok
        rcases hq with q | ⟨q1, q2⟩ | ⟨q1, q2, q3⟩ | ⟨q1, q2, q3, q4⟩ <;>
        · go_wp2
          go_ret
          exact ⟨ret_bool hv.out.symm, rfl⟩
    · have hk2 : k = n := by omega
      have Hk := Lib.hid hk2
      clear hk2
      have hv : Hid (R = true) := Lib.hid (HR.out.symm.trans (all_true fun j hj => hall.out j (by rw [Hk.out, Hn.out]; exact hj)))
      go_wp2
      go_ret
      exact ⟨ret_bool hv.out.symm, rfl⟩

namespace Fl
theorem wcode_inv {l : List (Int × Int)} {n1 d1 n2 d2 : Int} (h : wcode l n1 d1 n2 d2 = 0) :
    validate l = 0 ∧ plc (len l) n1 d1 1000 = true ∧ plc (len l) n2 d2 1000 = true ∧ mkRat n1 d1.toNat ≤ mkRat n2 d2.toNat := by
  unfold wcode at h
  by_cases h0 : validate l = 0
  · rw [if_neg (by simp [h0])] at h
    refine ⟨h0, ?_⟩
    by_cases h2 : (plc (len l) n1 d1 1000 && (plc (len l) n2 d2 1000 && decide (mkRat n1 d1.toNat ≤ mkRat n2 d2.toNat))) = true
    · simpa using h2
    · rw [if_neg h2] at h; omega
  · rw [if_pos h0] at h; exact absurd h h0
theorem wcode_mid {l : List (Int × Int)} {n1 d1 n2 d2 n3 d3 : Int} (h : wcode l n1 d1 n2 d2 = 0) (h' : wcode l n2 d2 n3 d3 = 0) : wcode l n1 d1 n3 d3 = 0 := by
  obtain ⟨a1, a2, a3, a4⟩ := wcode_inv h
  obtain ⟨b1, b2, b3, b4⟩ := wcode_inv h'
  exact wcode_ok a1 (by rw [a2, b3]; simpa using Rat.le_trans a4 b4)
theorem worth_mid {l : List (Int × Int)} (hok : Ok l) {a b c : Rat} (ha : 0 ≤ a) (hab : a ≤ b) (hbc : b ≤ c) : worth l a b + worth l b c = worth l a c := by
  rw [worth_before hok ha hab, worth_before hok (Rat.le_trans ha hab) hbc, worth_before hok ha (Rat.le_trans hab hbc)]
  grind
end Fl
/-- What is known of a worth between places. -/
theorem worth_known {l : List (Int × Int)} {n1 d1 n2 d2 : Int} (h : Fl.wcode l n1 d1 n2 d2 = 0) :
    0 ≤ Fl.worth l (mkRat n1 d1.toNat) (mkRat n2 d2.toNat) ∧ Fl.worth l (mkRat n1 d1.toNat) (mkRat n2 d2.toNat) ≤ ((3000 : Nat) : Rat) ∧ (Fl.worth l (mkRat n1 d1.toNat) (mkRat n2 d2.toNat)).den ≤ 1000000 ∧
    (Fl.worth l (mkRat n1 d1.toNat) (mkRat n2 d2.toNat)).num ≤ 3000000000 ∧ 0 ≤ (Fl.worth l (mkRat n1 d1.toNat) (mkRat n2 d2.toNat)).num := by
  obtain ⟨a1, a2, a3, a4⟩ := Fl.wcode_inv h
  obtain ⟨⟨hl1, hl6⟩, hok⟩ := Fl.validate_ok.1 a1
  obtain ⟨q1, hq1, x1, x2, x3, x4, x5⟩ := Fl.plc_rat a2
  obtain ⟨q2, hq2, y1, y2, y3, y4, y5⟩ := Fl.plc_rat a3
  rw [← hq1, ← hq2]
  have hlb := Fl.len_bound hok
  have hd : q1.den * q2.den ≤ 1000 * 1000 := Nat.mul_le_mul (by omega) (by omega)
  obtain ⟨p1, -, -, p4, p5⟩ := (Fl.worth_adds (a := q1) (b := q2) (by omega) hok hl6).2
  have h3 : Fl.worth l q1 q2 ≤ ((3000 : Nat) : Rat) := by
    refine Rat.le_trans p5 ?_
    have : ((20 * Fl.len l : Int) : Rat) ≤ ((3000 : Int) : Rat) := Rat.intCast_le_intCast.2 (by omega)
    exact this
  have hden : (Fl.worth l q1 q2).den ≤ 1000000 := by
    have h4 : (Fl.worth l q1 q2).den ≤ q1.den * q2.den := p4
    omega
  have := Fl.num_le h3
  exact ⟨p1, h3, hden, by omega, Fl.num_nonneg p1⟩
end Go.Proofs.Ytkpabehjehbidaa
