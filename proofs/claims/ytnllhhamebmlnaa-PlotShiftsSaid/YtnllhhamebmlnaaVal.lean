import Derived.Test.YtnllhhamebmlnaaCrs
namespace Go.Proofs.Ytnllhhamebmlnaa
open Go.RowKit

/-- The error of Validate. -/
def validate (l : List (Int × Int)) : Int :=
  if l.length < 3 ∨ 10 < l.length then 3
  else if (l.all fun p => Geo.within p.1 p.2 30) = false then 1
  else if Geo.twice l = true then 6
  else if Geo.crosses l = true then 9
  else 0

theorem allSm_of {l : List (Int × Int)} {n : Int} (h : (l.all fun p => Geo.within p.1 p.2 n) = true) (hn : n ≤ 4000) : Geo.AllSm l := by
  intro p hp
  have := List.all_eq_true.1 h p hp
  unfold Geo.within at this
  simp only [Bool.and_eq_true, decide_eq_true_eq] at this
  unfold Geo.Sm
  omega

theorem ret_err {a b : Int} (h : a = b) : Ending.returned (.int .i64 a) = .returned (.int .i64 b) := by rw [h]

set_option maxHeartbeats 1000000 in
theorem validate_any (l : List (Int × Int)) (ao : Option Addr) (n cap : Nat) (w : World) (hp : Pts w ao l) (hln : n = l.length) (hn : n ≤ 100000) (hcap : n ≤ cap) :
    Calls Try.prog 21 #[.slice ao n cap] w fun e w' => e = .returned (.int .i64 (validate l)) ∧ Below w.heap.size w w' := by
  have Hn := Lib.hid hln
  by_cases ho : n < 3 ∨ 10 < n
  · have hv : validate l = 3 := by unfold validate; rw [if_pos (by rw [← hln]; exact ho)]
    have Hv := Lib.hid hv
    clear hv hln
    rcases ho with ho | ho
    all_goals
      go_enter Try.func21, Try.ntmps21
      go_wp2
      go_ret
      exact ⟨ret_int Hv.out.symm, Below.refl _ _⟩
  · have ho1 : 3 ≤ n := by omega
    have ho2 : n ≤ 10 := by omega
    have hv : validate l = (if (l.all fun p => Geo.within p.1 p.2 30) = false then 1 else if Geo.twice l = true then 6 else if Geo.crosses l = true then 9 else 0) := by
      unfold validate; rw [if_neg (by rw [← hln]; exact ho)]
    have Hv := Lib.hid hv
    clear hv hln ho
    have Hall : Hid ((l.all fun p => Geo.within p.1 p.2 30) = true → Geo.AllSm l) := fun h => allSm_of h (by omega)
    obtain ⟨c1, hc1⟩ : ∃ c, c = (l.all fun p => Geo.within p.1 p.2 30) := ⟨_, rfl⟩
    obtain ⟨c2, hc2⟩ : ∃ c, c = Geo.twice l := ⟨_, rfl⟩
    obtain ⟨c3, hc3⟩ : ∃ c, c = Geo.crosses l := ⟨_, rfl⟩
    have Hc := Lib.hid (And.intro hc1 (And.intro hc2 hc3))
    clear hc1 hc2 hc3
    go_enter Try.func21, Try.ntmps21
    go_wp2_with fail
    refine (allWithin_any l ao n cap 30 w hp Hn.out hn (by omega) (by omega)).mono ?_
    rintro e w1 ⟨rfl, hb1⟩
    rw [← Hc.out.1]
    cases c1 with
    | false =>
      go_wp2_with fail
      go_ret
      exact ⟨ret_int (by rw [Hv.out, ← Hc.out.1]; rfl), hb1⟩
    | true =>
      go_wp2_with fail
      refine (hasTwice_any l ao n cap w1 (hp.below hb1) Hn.out hn hcap).mono ?_
      rintro e w2 ⟨rfl, hb2⟩
      rw [← Hc.out.2.1]
      have hb2' := hb1.trans (hb2.mono hb1.size)
      cases c2 with
      | true =>
        go_wp2_with fail
        go_ret
        exact ⟨ret_int (by rw [Hv.out, ← Hc.out.1, ← Hc.out.2.1]; rfl), hb2'⟩
      | false =>
        go_wp2_with fail
        refine (ringOf_any l ao n cap w2 (hp.below hb2') Hn.out ho2 (by omega)).mono ?_
        rintro e w3 ⟨rfl, hb3⟩
        have hb3' := hb2'.trans (hb3.mono hb2'.size)
        go_wp2_with fail
        refine (crosses_any _ l w3 (isRing_cells (by rw [← Hn.out]; exact ho2)) (by rw [← Hn.out]; omega) (by rw [← Hn.out]; exact ho2) (Hall.out Hc.out.1.symm)).mono ?_
        rintro e w4 ⟨rfl, hb4⟩
        rw [← Hc.out.2.2]
        have hb4' := hb3'.trans (hb4.mono hb3'.size)
        cases c3 with
        | true =>
          go_wp2_with fail
          go_ret
          exact ⟨ret_int (by rw [Hv.out, ← Hc.out.1, ← Hc.out.2.1, ← Hc.out.2.2]; rfl), hb4'⟩
        | false =>
          go_wp2_with fail
          go_ret
          exact ⟨ret_int (by rw [Hv.out, ← Hc.out.1, ← Hc.out.2.1, ← Hc.out.2.2]; rfl), hb4'⟩
end Go.Proofs.Ytnllhhamebmlnaa
