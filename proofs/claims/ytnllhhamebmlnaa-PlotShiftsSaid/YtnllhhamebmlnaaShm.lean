import Derived.Test.YtnllhhamebmlnaaMap
import Derived.Test.YtnllhhamebmlnaaMov
namespace Go.Proofs.Ytnllhhamebmlnaa
open Go.RowKit

def shiftCode (l : List (Int × Int)) (d : Int × Int) : Int :=
  if validate l ≠ 0 then validate l else if Geo.within d.1 d.2 60 = false then 1 else if ((l.map (Geo.shiftP d)).all fun p => Geo.within p.1 p.2 30) = false then 1 else 0

theorem stepOf_shift (d : Int × Int) {l : List (Int × Int)} {i : Nat} (hi : i < l.length) : stepOf (l.map (Geo.shiftP d)) i = stepOf l i := by
  have h1 := Geo.nxt_lt hi
  unfold stepOf Geo.px Geo.py
  rw [Geo.nxt_map, Geo.getD_map hi, Geo.getD_map h1]
  unfold Geo.shiftP
  simp only
  congr 1 <;> omega
theorem border_shift (d : Int × Int) (l : List (Int × Int)) : borderSum (l.map (Geo.shiftP d)) = borderSum l := by
  unfold borderSum
  rw [List.length_map]
  exact Geo.sumOf_congr _ fun i hi => stepOf_shift d (List.mem_range.1 hi)
theorem fan_shift (d : Int × Int) (l : List (Int × Int)) : fan (l.map (Geo.shiftP d)) = fan l := by
  have h := Geo.fan_map (T := Geo.shiftP d) (s := 1) (fun a b c => by rw [Geo.turn_shift]; omega) l
  rw [h]; omega
theorem shift_ok {l : List (Int × Int)} {d : Int × Int} (h : shiftCode l d = 0) :
    validate l = 0 ∧ validate (l.map (Geo.shiftP d)) = 0 ∧ insideOf (l.map (Geo.shiftP d)) = insideOf l ∧ turnsOf (l.map (Geo.shiftP d)) = turnsOf l := by
  unfold shiftCode at h
  by_cases hv : validate l = 0
  · rw [if_neg (by simpa using hv)] at h
    by_cases hw : Geo.within d.1 d.2 60 = false
    · rw [if_pos hw] at h; cases h
    · rw [if_neg hw] at h
      by_cases ha : ((l.map (Geo.shiftP d)).all fun p => Geo.within p.1 p.2 30) = false
      · rw [if_pos ha] at h; cases h
      · have hl := validate_len hv
        have hv2 : validate (l.map (Geo.shiftP d)) = 0 := by
          rw [validate_map (Geo.moves_shift d) (by rw [validate_sm hv]; simpa using ha)]
          exact hv
        have har : Geo.area (l.map (Geo.shiftP d)) = Geo.area l := by
          rw [Geo.area_fan _ (by simp; omega), Geo.area_fan _ hl.1, fan_shift]
        refine ⟨hv, hv2, ?_, ?_⟩
        · unfold insideOf
          rw [if_pos hv, if_pos hv2, har, border_shift]
        · unfold turnsOf
          rw [if_pos hv, if_pos hv2, har]
  · rw [if_pos (by simpa using hv)] at h
    exact absurd h hv
theorem own_pts {w : World} {b : Nat} {v : Value} {l : List (Int × Int)} (h : OwnPts w b v l) : ∃ ao n cap, v = .slice ao n cap ∧ n = l.length ∧ n ≤ cap ∧ Pts w ao l := by
  have h' := h
  obtain ⟨h1, h2⟩ := h
  rcases h2 with ⟨rfl, h3⟩ | ⟨g, cap, cur, rfl, e2, hg, hc, hm, hs, ht⟩
  · exact ⟨none, 0, 0, rfl, h3.symm, Nat.le_refl _, ⟨fun h => by omega⟩⟩
  · refine ⟨_, _, _, rfl, rfl, hc, ⟨fun h0 => ⟨g, 0, rfl, (Array.getElem?_eq_some_iff.1 hg).1, fun i hi => ?_⟩⟩⟩
    have k1 := World.ownsRow.cells h' rfl (i * 2) _ (flat_even l i hi)
    have k2 := World.ownsRow.cells h' rfl (i * 2 + 1) _ (flat_odd l i hi)
    rw [add_off] at k1 k2
    exact ⟨k1, k2⟩
end Go.Proofs.Ytnllhhamebmlnaa
