import Derived.Test.YtnllhhamebmlnaaBck
import Derived.Test.YtnllhhamebmlnaaVal
namespace Go.Proofs.Ytnllhhamebmlnaa
namespace Geo

theorem contains_take (l : List (Int × Int)) (k : Nat) (hk : k < l.length) : (l.take k).contains (l.getD k (0, 0)) = (List.range k).any fun j => dup l k j := by
  rw [Bool.eq_iff_iff, List.contains_iff_mem, List.any_eq_true]
  constructor
  · intro h
    obtain ⟨j, hj, e⟩ := List.mem_iff_getElem.1 h
    rw [List.length_take] at hj
    rw [List.getElem_take] at e
    refine ⟨j, List.mem_range.2 (by omega), ?_⟩
    unfold dup px py
    rw [peq_true]
    have e2 : l.getD j (0, 0) = l.getD k (0, 0) := by
      rw [← e, List.getD_eq_getElem?_getD, List.getElem?_eq_getElem (by omega)]; rfl
    rw [e2]
    exact ⟨rfl, rfl⟩
  · rintro ⟨j, hj, e⟩
    have hj := List.mem_range.1 hj
    unfold dup px py at e
    rw [peq_true] at e
    have e2 : l.getD k (0, 0) = l.getD j (0, 0) := Prod.ext e.1 e.2
    rw [e2]
    refine List.mem_iff_getElem.2 ⟨j, by rw [List.length_take]; omega, ?_⟩
    rw [List.getElem_take, List.getD_eq_getElem?_getD, List.getElem?_eq_getElem (by omega)]
    rfl
theorem twice_eq (l : List (Int × Int)) : twice l = rtwice l := by
  unfold twice rtwice
  rw [Bool.eq_iff_iff, List.any_eq_true, List.any_eq_true]
  constructor
  · rintro ⟨k, hk, h⟩
    exact ⟨k, hk, by rw [← contains_take l k (List.mem_range.1 hk)]; exact h⟩
  · rintro ⟨k, hk, h⟩
    exact ⟨k, hk, by rw [contains_take l k (List.mem_range.1 hk)]; exact h⟩

/-- No two corners are the same. -/
def Apart (l : List (Int × Int)) : Prop := ∀ i j, i < l.length → j < l.length → i ≠ j → ¬ (px l i = px l j ∧ py l i = py l j)
theorem apart_of {l : List (Int × Int)} (h : rtwice l = false) : Apart l := by
  have key : ∀ i j, i < l.length → j < i → ¬ (px l i = px l j ∧ py l i = py l j) := by
    intro i j hi hj
    unfold rtwice at h
    rw [List.any_eq_false] at h
    have h2 := h i (List.mem_range.2 hi)
    rw [Bool.not_eq_true, List.any_eq_false] at h2
    have h3 := h2 j (List.mem_range.2 hj)
    unfold dup at h3
    rw [peq_true] at h3
    exact h3
  intro i j hi hj hne
  rcases Nat.lt_or_gt_of_ne hne with h2 | h2
  · intro h3; exact key j i hj h2 ⟨h3.1.symm, h3.2.symm⟩
  · exact key i j hi h2
theorem nxt_if {l : List (Int × Int)} {i : Nat} (h : i < l.length) : nxt l i = if i + 1 < l.length then i + 1 else 0 := by
  unfold nxt
  split
  · exact Nat.mod_eq_of_lt (by assumption)
  · rw [show i + 1 = l.length by omega, Nat.mod_self]
theorem nxt_lt {l : List (Int × Int)} {i : Nat} (h : i < l.length) : nxt l i < l.length := Nat.mod_lt _ (by omega)
theorem nx2_eq (l : List (Int × Int)) (i : Nat) : nx2 l i = nxt l (nxt l i) := by
  unfold nx2 nxt
  rw [Nat.mod_add_mod]

theorem peq_no {l : List (Int × Int)} (hD : Apart l) {i j : Nat} (hi : i < l.length) (hj : j < l.length) (h : i ≠ j) : ¬ peq (px l i) (py l i) (px l j) (py l j) = true := by
  rw [peq_true]; exact hD i j hi hj h
theorem clash_adj {l : List (Int × Int)} (hD : Apart l) (h3 : 3 ≤ l.length) {i : Nat} (hi : i < l.length) : clash l i (nxt l i) = backAt l i := by
  have h1 := nxt_lt hi
  have h2 := nxt_lt h1
  have n1 := nxt_if hi
  have n2 := nxt_if h1
  have d1 : i ≠ nxt l i := by rw [n1]; split <;> omega
  have d2 : i ≠ nxt l (nxt l i) := by rw [n2]; rw [n1] at *; split <;> split <;> omega
  have d3 : nxt l (nxt l i) ≠ nxt l i := by rw [n2]; rw [n1] at *; split <;> split <;> omega
  unfold clash clashes backAt
  rw [if_neg (peq_no hD hi h1 d1), if_neg (peq_no hD hi h2 d2), if_pos (peq_true.2 ⟨rfl, rfl⟩), nx2_eq, back_eq (hD i _ hi h1 d1) (hD _ _ h2 h1 d3)]
theorem clash_far {l : List (Int × Int)} (hD : Apart l) {i j : Nat} (hi : i < l.length) (hj : j < l.length) (h1 : j ≠ i) (h2 : j ≠ nxt l i) (h3 : i ≠ nxt l j) :
    clash l i j = meets (px l i) (py l i) (px l (nxt l i)) (py l (nxt l i)) (px l j) (py l j) (px l (nxt l j)) (py l (nxt l j)) := by
  have a1 := nxt_lt hi
  have a2 := nxt_lt hj
  have d4 : nxt l i ≠ nxt l j := by rw [nxt_if hi, nxt_if hj]; split <;> split <;> omega
  unfold clash clashes
  rw [if_neg (peq_no hD hi hj (Ne.symm h1)), if_neg (peq_no hD hi a2 h3), if_neg (peq_no hD a1 hj (Ne.symm h2)), if_neg (peq_no hD a1 a2 d4)]
theorem clash_comm {l : List (Int × Int)} (hD : Apart l) (hl : 3 ≤ l.length) {j : Nat} (hj : j < l.length) : clash l (nxt l j) j = backAt l j := by
  have h1 := nxt_lt hj
  have h2 := nxt_lt h1
  have n1 := nxt_if hj
  have n2 := nxt_if h1
  have d1 : nxt l j ≠ j := by rw [n1]; split <;> omega
  have d3 : nxt l (nxt l j) ≠ nxt l j := by rw [n2]; rw [n1] at *; split <;> split <;> omega
  unfold clash clashes backAt
  rw [if_neg (peq_no hD h1 hj d1), if_pos (peq_true.2 ⟨rfl, rfl⟩), nx2_eq, back_eq (hD j _ hj h1 (Ne.symm d1)) (hD _ _ h2 h1 d3), Bool.or_comm]
theorem meetAt_true {l : List (Int × Int)} {i k : Nat} : meetAt l i k = true ↔ (k ≠ i ∧ k ≠ nxt l i ∧ i ≠ nxt l k) ∧ meets (px l i) (py l i) (px l (nxt l i)) (py l (nxt l i)) (px l k) (py l k) (px l (nxt l k)) (py l (nxt l k)) = true := by
  unfold meetAt
  simp only [Bool.and_eq_true, decide_eq_true_eq]

theorem crosses_eq {l : List (Int × Int)} (h3 : 3 ≤ l.length) (hD : Apart l) : crosses l = rcross l := by
  unfold crosses rcross
  rw [Bool.eq_iff_iff, List.any_eq_true, List.any_eq_true]
  constructor
  · rintro ⟨i, hi, h⟩
    obtain ⟨j, hj, h⟩ := List.any_eq_true.1 h
    have hi' := List.mem_range.1 hi
    have hj' := List.mem_range.1 hj
    rw [Bool.and_eq_true, decide_eq_true_eq] at h
    obtain ⟨hlt, hc⟩ := h
    by_cases e1 : j = nxt l i
    · subst e1
      exact ⟨i, hi, by rw [← clash_adj hD h3 hi', hc]; rfl⟩
    · by_cases e2 : i = nxt l j
      · subst e2
        exact ⟨j, hj, by rw [← clash_comm hD h3 hj', hc]; rfl⟩
      · rw [clash_far hD hi' hj' (by omega) e1 e2] at hc
        refine ⟨i, hi, ?_⟩
        rw [Bool.or_eq_true]
        exact .inr (List.any_eq_true.2 ⟨j, hj, meetAt_true.2 ⟨⟨by omega, e1, e2⟩, hc⟩⟩)
  · rintro ⟨i, hi, h⟩
    have hi' := List.mem_range.1 hi
    rw [Bool.or_eq_true] at h
    rcases h with h | h
    · have n1 := nxt_if hi'
      by_cases hlt : i < nxt l i
      · refine ⟨i, hi, List.any_eq_true.2 ⟨nxt l i, List.mem_range.2 (nxt_lt hi'), ?_⟩⟩
        rw [clash_adj hD h3 hi', h]
        simpa using hlt
      · have hlt2 : nxt l i < i := by
          rw [n1] at hlt ⊢
          split at hlt <;> split <;> omega
        refine ⟨nxt l i, List.mem_range.2 (nxt_lt hi'), List.any_eq_true.2 ⟨i, hi, ?_⟩⟩
        rw [clash_comm hD h3 hi', h]
        simpa using hlt2
    · obtain ⟨k, hk, h⟩ := List.any_eq_true.1 h
      have hk' := List.mem_range.1 hk
      obtain ⟨⟨a, b, c⟩, hm⟩ := meetAt_true.1 h
      rcases Nat.lt_or_gt_of_ne a with hlt | hlt
      · refine ⟨k, hk, List.any_eq_true.2 ⟨i, hi, ?_⟩⟩
        rw [clash_far hD hk' hi' (Ne.symm a) c b, meets_comm, hm]
        simpa using hlt
      · refine ⟨i, hi, List.any_eq_true.2 ⟨k, hk, ?_⟩⟩
        rw [clash_far hD hi' hk' a b c, hm]
        simpa using hlt
end Geo

theorem validate_eq (l : List (Int × Int)) : validate l = rvalidate l := by
  unfold validate rvalidate
  rw [← Geo.twice_eq]
  by_cases ho : l.length < 3 ∨ 10 < l.length
  · rw [if_pos ho, if_pos ho]
  · rw [if_neg ho, if_neg ho]
    cases h : Geo.twice l with
    | true => rfl
    | false => rw [Geo.crosses_eq (by omega) (Geo.apart_of ((Geo.twice_eq l).symm.trans h))]
end Go.Proofs.Ytnllhhamebmlnaa
