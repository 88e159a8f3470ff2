import Derived.Test.YtkpabehjehbidaaEqm
namespace Go.Proofs.Ytkpabehjehbidaa
open Go.RowKit

set_option maxRecDepth 100000 in
set_option maxHeartbeats 2000000 in
theorem Equal_any (l : List (Int × Int)) (p : Int) (ao : Option Addr) (n cap : Nat) (w : World) (hp : Pts w ao l) (hln : n = l.length) (hn : n ≤ 100000) :
    Calls Try.prog 39 #[.slice ao n cap, .int .i64 p] w fun e w' => (∃ v, e = .returned (.tuple #[v, .int .i64 (Fl.eqC l p)]) ∧ CutMade w' w.heap.size v (Fl.eqC l p) ((Fl.eqL l p.toNat).map pr)) ∧ Below w.heap.size w w' := by
  obtain ⟨C, hC⟩ : ∃ c, Fl.eqC l p = c := ⟨_, rfl⟩
  by_cases h0 : C = 0
  · rw [hC, h0]
    rw [h0] at hC
    obtain ⟨h1, h2, h3⟩ := Fl.eqC_ok hC
    obtain ⟨P, rfl⟩ := Int.eq_ofNat_of_zero_le (show 0 ≤ p by omega)
    have hok := Fl.validate_ok.1 h1
    have hc := Fl.eqL_chain hok.2 hok.1.2 (p := P) (by omega) (by omega) rfl (P - 1) 0 0 (Fl.eqAt_zero hok.2 _) (by omega)
    refine (equal_ok l P ao n cap w hp hln hn h1 (by omega) (by omega) hc.1).mono ?_
    rintro e w' ⟨v, rfl, hown, hb⟩
    refine ⟨⟨v, rfl, .inl ⟨rfl, ?_⟩⟩, hb⟩
    have e1 : Fl.cutsF l 0 (eachs l P) = Fl.eqL l P := by
      unfold eachs Fl.eqL
      rw [hc.2]
      refine List.map_congr_left fun i _ => ?_
      rw [Nat.zero_add]
    rw [e1] at hown
    rw [Int.toNat_natCast, List.length_map]
    have e2 : (Fl.eqL l P).length = P - 1 := by unfold Fl.eqL; simp
    rw [e2]
    exact hown
  · rw [hC]
    have Hn := Lib.hid hln
    have HC := Lib.hid hC
    clear hln hC
    have hB := Below.refl w.heap.size w
    obtain ⟨v, hv⟩ : ∃ v, v = Fl.validate l := ⟨_, rfl⟩
    have hv0 : v = 0 ∨ (v != 0) = true := by by_cases h : v = 0 <;> simp [h]
    have Hv := Lib.hid hv
    clear hv
    go_enter Try.func39, Try.ntmps39
    go_wp2_with fail
    refine (validate_any l _ _ _ _ hp Hn.out hn).mono ?_
    rintro e w1 ⟨rfl, hb1⟩
    rw [← Hv.out]
    rcases hv0 with rfl | hv0
    · have hc3 : Hid (C = 3 ∧ (p < 1 ∨ 8 < p)) := Lib.hid (by
        have := HC.out
        unfold Fl.eqC at this
        rw [if_neg (by rw [← Hv.out]; simp)] at this
        by_cases h : p < 1 ∨ 8 < p
        · rw [if_pos h] at this; exact ⟨this.symm, h⟩
        · rw [if_neg h] at this; exact absurd this.symm h0)
      by_cases hp1 : p < 1
      · go_wp2
        go_ret2
        rw [hc3.out.1]
        exact ⟨⟨_, rfl, .inr ⟨by omega, rfl⟩⟩, hb1⟩
      · have hp8 : 8 < p := by have := hc3.out.2; omega
        go_wp2
        go_ret2
        rw [hc3.out.1]
        exact ⟨⟨_, rfl, .inr ⟨by omega, rfl⟩⟩, hb1⟩
    · have hcv : Hid (C = v) := Lib.hid (by
        have := HC.out
        unfold Fl.eqC at this
        rw [if_pos (by rw [← Hv.out]; exact code_ne hv0), ← Hv.out] at this
        exact this.symm)
      go_wp2
      go_ret2
      rw [hcv.out]
      exact ⟨⟨_, rfl, .inr ⟨code_ne hv0, rfl⟩⟩, hb1⟩
end Go.Proofs.Ytkpabehjehbidaa
