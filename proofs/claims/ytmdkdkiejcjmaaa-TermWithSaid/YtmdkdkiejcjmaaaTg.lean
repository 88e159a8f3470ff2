import Derived.Test.YtmdkdkiejcjmaaaTf
/- Package term: plain arithmetic of days that are counted. -/
namespace Go.Proofs.Ytmdkdkiejcjmaaa
open Go.RowKit
theorem up_add (d a b : Nat) : up d (a + b) = up d a ++ up (d + a) b := by
  unfold up
  rw [List.range_add, List.map_append, List.map_map]
  congr 1
  apply List.map_congr_left
  intro x _
  simp only [Function.comp]
  omega
theorem mem_up {d k x : Nat} : x ∈ up d k ↔ d ≤ x ∧ x < d + k := by
  unfold up
  simp only [List.mem_map, List.mem_range]
  constructor
  · rintro ⟨i, hi, rfl⟩; omega
  · rintro ⟨h1, h2⟩; exact ⟨x - d, by omega, by omega⟩
namespace Tm
/-- How many of k days from a day on are such. -/
def cnt (p : Nat → Bool) (d k : Nat) : Nat := ((up d k).filter p).length
theorem cnt_zero (p : Nat → Bool) (d : Nat) : cnt p d 0 = 0 := rfl
theorem cnt_add (p : Nat → Bool) (d a b : Nat) : cnt p d (a + b) = cnt p d a + cnt p (d + a) b := by
  unfold cnt; rw [up_add, List.filter_append, List.length_append]
theorem cnt_one (p : Nat → Bool) (d : Nat) : cnt p d 1 = if p d then 1 else 0 := by
  unfold cnt up
  simp only [List.range_one, List.map_cons, List.map_nil, Nat.add_zero, List.filter_cons, List.filter_nil]
  split <;> rfl
theorem cnt_succ (p : Nat → Bool) (d k : Nat) : cnt p d (k + 1) = cnt p d k + if p (d + k) then 1 else 0 := by rw [cnt_add, cnt_one]
theorem cnt_mono {p : Nat → Bool} {d a b : Nat} (h : a ≤ b) : cnt p d a ≤ cnt p d b := by
  obtain ⟨c, rfl⟩ := Nat.exists_eq_add_of_le h
  rw [cnt_add]; omega
theorem cnt_le (p : Nat → Bool) (d k : Nat) : cnt p d k ≤ k := by
  induction k with
  | zero => exact Nat.le_refl _
  | succ k ih => rw [cnt_succ]; split <;> omega
/-- The nth such day from a day on. -/
structure Nth (p : Nat → Bool) (d n x : Nat) : Prop where
  le : d ≤ x
  is : p x = true
  num : cnt p d (x - d) + 1 = n
theorem Nth.unique {p : Nat → Bool} {d n x y : Nat} (h : Nth p d n x) (k : Nth p d n y) : x = y := by
  have key : ∀ {a b : Nat}, Nth p d n a → Nth p d n b → ¬ a < b := fun {a b} ha hb hlt => by
    have h1 := ha.le
    have h2 := cnt_mono (p := p) (d := d) (show a - d + 1 ≤ b - d by omega)
    rw [cnt_succ, show d + (a - d) = a by omega, if_pos ha.is] at h2
    have := ha.num
    have := hb.num
    omega
  rcases Nat.lt_trichotomy x y with h1 | h1 | h1
  · exact absurd h1 (key h k)
  · exact h1
  · exact absurd h1 (key k h)
theorem nth_of {p : Nat → Bool} {d k x : Nat} {pre : List Nat} (h : (up d k).filter p = pre ++ [x]) : Nth p d (pre ++ [x]).length x := by
  have hx : x ∈ (up d k).filter p := by rw [h]; simp
  rw [List.mem_filter, mem_up] at hx
  obtain ⟨⟨h1, h2⟩, h3⟩ := hx
  refine ⟨h1, h3, ?_⟩
  have e : up d k = up d (x - d) ++ (up x 1 ++ up (x + 1) (k - (x - d) - 1)) := by
    rw [← up_add, show x = d + (x - d) by omega, show d + (x - d) - d = x - d by omega, ← up_add]
    congr 1
    omega
  have hr : (up (x + 1) (k - (x - d) - 1)).filter p = [] := by
    rcases List.eq_nil_or_concat ((up (x + 1) (k - (x - d) - 1)).filter p) with h4 | ⟨q, y, h4⟩
    · exact h4
    · rw [List.concat_eq_append] at h4
      have hy : y ∈ (up (x + 1) (k - (x - d) - 1)).filter p := by rw [h4]; simp
      rw [List.mem_filter, mem_up] at hy
      rw [e, List.filter_append, List.filter_append, h4, ← List.append_assoc, ← List.append_assoc] at h
      have := (List.append_inj' h rfl).2
      simp only [List.cons.injEq, and_true] at this
      omega
  rw [← h, e, List.filter_append, List.filter_append, hr, List.append_nil, List.length_append]
  have := cnt_one p x
  unfold cnt at this ⊢
  rw [this, if_pos h3]
/-- From a day on there are enough, if of a and any later one there is always one of two. -/
theorem cnt_two {p : Nat → Bool} {M X : Nat} (h : ∀ x, M < x → x < X → p x = true ∨ p (x + 1) = true) {D : Nat} (hD : M < D) : ∀ j, D + 2 * j ≤ X → j ≤ cnt p D (2 * j) := by
  intro j
  induction j with
  | zero => intro _; exact Nat.zero_le _
  | succ j ih =>
    intro hX
    have := ih (by omega)
    rw [show 2 * (j + 1) = 2 * j + 1 + 1 by omega, cnt_succ, cnt_succ]
    rcases h (D + 2 * j) (by omega) (by omega) with h1 | h1
    · rw [if_pos h1]; omega
    · rw [show D + (2 * j + 1) = D + 2 * j + 1 by omega, if_pos h1]; omega
theorem cnt_enough {p : Nat → Bool} {M X : Nat} (h : ∀ x, M < x → x < X → p x = true ∨ p (x + 1) = true) (d n : Nat) (hX : d + (M + 1 + 2 * n) ≤ X) : n ≤ cnt p d (M + 1 + 2 * n) := by
  have h1 := cnt_two h (D := d + (M + 1)) (by omega) n (by omega)
  rw [cnt_add]
  omega
theorem cnt_bound {p : Nat → Bool} {M X : Nat} (h : ∀ x, M < x → x < X → p x = true ∨ p (x + 1) = true) (d n : Nat) (hX : d + (M + 1 + 2 * n) ≤ X) {k : Nat} (hk : ((up d k).filter p).length < n) : k < M + 1 + 2 * n := by
  refine Nat.lt_of_not_le fun hle => ?_
  have := cnt_mono (p := p) (d := d) hle
  have := cnt_enough h d n hX
  unfold cnt at *
  omega
/-- A calendar with numbers as they may be. -/
structure Ok (M : Nat) (f : Int) (F : List Int) (S : List (Int × Int)) : Prop where
  f0 : 0 ≤ f ∧ f ≤ 6
  fr : ∀ x ∈ F, 0 ≤ x ∧ x ≤ (M : Int)
  st : ∀ s ∈ S, 0 ≤ s.1 ∧ s.1 ≤ s.2 ∧ s.2 ≤ (M : Int)
theorem work_two {M : Nat} {f : Int} {F : List Int} {S : List (Int × Int)} (h : Ok M f F S) (x : Nat) (hx : M < x) (hb : x < 4611686018427387904) : work f F x = true ∨ work f F (x + 1) = true := by
  have hn : ∀ y : Nat, M < y → ¬ ((y : Int) ∈ F) := fun y hy hm => by have := (h.fr _ hm).2; omega
  have f0 := h.f0
  unfold work free wk
  rw [decide_eq_false (hn x hx), decide_eq_false (hn (x + 1) (by omega)), Bool.or_false, Bool.or_false]
  rw [IntWalk.wrap64_in _ (by omega), IntWalk.wrap64_in _ (by omega)]
  have e1 : (f + (x : Int)).tmod 7 = (f + (x : Int)) % 7 := Int.tmod_eq_emod_of_nonneg (by omega)
  have e2 : (f + ((x + 1 : Nat) : Int)).tmod 7 = (f + ((x + 1 : Nat) : Int)) % 7 := Int.tmod_eq_emod_of_nonneg (by omega)
  rw [e1, e2]
  by_cases h6 : (f + (x : Int)) % 7 = 6
  · right
    have : ¬ (f + ((x + 1 : Nat) : Int)) % 7 = 6 := by omega
    rw [decide_eq_false this]; rfl
  · left
    rw [decide_eq_false h6]; rfl
theorem count_all {M : Nat} {f : Int} {F : List Int} {S : List (Int × Int)} (h : Ok M f F S) (x : Nat) (hx : M < x) : count S x = true := by
  unfold count still
  have : S.any (fun s => decide (s.1 ≤ (x : Int)) && decide ((x : Int) ≤ s.2)) = false := by
    rw [List.any_eq_false]
    intro s hs
    have := (h.st s hs).2.2
    simp; omega
  rw [this]; rfl
end Tm
end Go.Proofs.Ytmdkdkiejcjmaaa
