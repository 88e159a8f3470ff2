import Derived.Test.YtemlfklipkpacaaKk
/- Plain arithmetic of the knife: how it goes on from owner to owner. -/
namespace Go.Proofs.Ytemlfklipkpacaa
open Go.RowKit
namespace Kn
def divF (L : List Int) (V : List (List Int)) : Nat → List Nat → Rat → List (Nat × Rat × Rat)
  | 0, left, a => [(left.getD 0 0, a, (stop L : Rat))]
  | f + 1, left, a => ((first L V left a).1, a, (first L V left a).2) :: divF L V f (left.filter fun o => !decide (o = (first L V left a).1)) (first L V left a).2
def divide (L : List Int) (V : List (List Int)) : List (Nat × Rat × Rat) := divF L V (V.length - 1) (List.range V.length) 0

theorem fold_mem {L : List Int} {V : List (List Int)} {a : Rat} {left : List Nat} {Q : Rat → Prop} (hQ : ∀ o ∈ left, ∀ t, callK L V o a = some t → Q t) : ∀ {xs : List Nat}, (∀ x ∈ xs, x ∈ left) → ∀ {s : Nat × Rat}, s.1 ∈ left → Q s.2 → (xs.foldl (step L V a) s).1 ∈ left ∧ Q (xs.foldl (step L V a) s).2 := by
  intro xs
  induction xs with
  | nil => intro _ s h1 h2; exact ⟨h1, h2⟩
  | cons o r ih =>
    intro hx s h1 h2
    have hr : ∀ x ∈ r, x ∈ left := fun x h => hx x (by simp [h])
    have ho := hx o (by simp)
    simp only [List.foldl_cons]
    cases hc : callK L V o a with
    | none => rw [step_none hc]; exact ih hr h1 h2
    | some t =>
      rw [step_some hc]
      split
      · exact ih hr ho (hQ o ho t hc)
      · exact ih hr h1 h2
theorem first_mem {L : List Int} {V : List (List Int)} {a : Rat} {left : List Nat} (hne : 1 ≤ left.length) {Q : Rat → Prop} (h0 : Q (stop L : Rat)) (hQ : ∀ o ∈ left, ∀ t, callK L V o a = some t → Q t) : (first L V left a).1 ∈ left ∧ Q (first L V left a).2 :=
  fold_mem hQ (fun _ h => h) (getD_mem (by omega)) h0

/-- What is known between two cuts. -/
structure St (L : List Int) (V : List (List Int)) (f : Nat) (left : List Nat) (a : Rat) : Prop where
  len : left.length = f + 1
  le : f + 1 ≤ V.length
  nd : left.Nodup
  mem : ∀ o ∈ left, o < V.length
  a0 : 0 ≤ a
  a1 : a ≤ (stop L : Rat)
  fr : ∃ M : Nat, 1 ≤ M ∧ M ≤ 20 ^ (V.length - (f + 1)) ∧ Frac (V.length * M) a

theorem St.start {L : List Int} {V : List (List Int)} (hok : Ok L V) : St L V (V.length - 1) (List.range V.length) 0 := by
  have := hok.v1
  have hb := hok.stopB
  refine ⟨by simp; omega, by omega, List.nodup_range, fun o ho => by simpa using ho, Rat.le_refl, by exact_mod_cast (show (0 : Int) ≤ stop L by omega), 1, Nat.le_refl _, ?_, ?_⟩
  · rw [show V.length - (V.length - 1 + 1) = 0 by omega]; exact Nat.le_refl _
  · exact Frac.int _ 0

theorem pow_bound {n f : Nat} (h1 : f + 1 ≤ n) (h2 : n ≤ 5) : n * 20 ^ (n - (f + 1)) ≤ 800000 := by
  have h3 : n = 1 ∨ n = 2 ∨ n = 3 ∨ n = 4 ∨ n = 5 := by omega
  have h4 : f = 0 ∨ f = 1 ∨ f = 2 ∨ f = 3 ∨ f = 4 := by omega
  rcases h3 with rfl | rfl | rfl | rfl | rfl <;> rcases h4 with rfl | rfl | rfl | rfl | rfl <;> first | omega | decide

theorem St.den {L : List Int} {V : List (List Int)} (hok : Ok L V) {f : Nat} {left : List Nat} {a : Rat} (h : St L V f left a) : a.den ≤ 800000 := by
  obtain ⟨M, hM1, hM2, hF⟩ := h.fr
  have := hok.v1
  have h1 := Nat.le_of_dvd (Nat.mul_pos (by omega) (by omega)) hF.den
  have h2 : V.length * M ≤ V.length * 20 ^ (V.length - (f + 1)) := Nat.mul_le_mul_left _ hM2
  have h3 := pow_bound h.le hok.v5
  omega
theorem St.from' {L : List Int} {V : List (List Int)} (hok : Ok L V) {f : Nat} {left : List Nat} {a : Rat} (h : St L V f left a) : KFrom a := by
  have hb := hok.stopB
  have hE : (stop L : Rat) ≤ ((1000 : Int) : Rat) := Rat.intCast_le_intCast.2 (by omega)
  have hE2 : ((1000 : Int) : Rat) = ((1000 : Nat) : Rat) := rfl
  have := h.den hok
  have := h.a1
  exact ⟨h.a0, by grind, by omega⟩

theorem filter_len {left : List Nat} (hn : left.Nodup) {x : Nat} (hx : x ∈ left) : (left.filter fun o => !decide (o = x)).length + 1 = left.length := by
  have h1 := List.Nodup.erase_eq_filter hn x
  have h2 := List.length_erase_of_mem hx
  have h3 : (left.filter fun o => !decide (o = x)) = left.erase x := by
    rw [h1]
    apply List.filter_congr
    intro o _
    by_cases h : o = x <;> simp [h]
  have h4 : 0 < left.length := List.length_pos_of_mem hx
  rw [h3, h2]
  omega

theorem St.next {L : List Int} {V : List (List Int)} (hok : Ok L V) {f : Nat} {left : List Nat} {a : Rat} (h : St L V (f + 1) left a) :
    (first L V left a).1 ∈ left ∧ a ≤ (first L V left a).2 ∧ St L V f (left.filter fun o => !decide (o = (first L V left a).1)) (first L V left a).2 := by
  obtain ⟨M, hM1, hM2, hF⟩ := h.fr
  have hfrom := h.from' hok
  have v1 := hok.v1
  have hle := h.le
  have hlen := h.len
  have hp : 20 ^ (V.length - (f + 1)) = 20 ^ (V.length - (f + 1 + 1)) * 20 := by
    rw [show V.length - (f + 1) = V.length - (f + 1 + 1) + 1 by omega, Nat.pow_succ]
  obtain ⟨m1, m2, m3, m4⟩ := first_mem (L := L) (V := V) (a := a) (left := left) (by omega) (Q := fun x => a ≤ x ∧ x ≤ (stop L : Rat) ∧ ∃ M' : Nat, 1 ≤ M' ∧ M' ≤ 20 ^ (V.length - (f + 1)) ∧ Frac (V.length * M') x)
    ⟨h.a1, Rat.le_refl, M, hM1, by rw [hp]; omega, Frac.int _ _⟩
    (fun o ho t hc => by
      have hov := h.mem o ho
      have hs := hok.zStop hov
      unfold callK at hc
      have hT := hok.zTot hov
      have hW : 0 ≤ mkRat (Fl.tot (Z L V o)) V.length := Rat.num_nonneg.1 (mk_num_le (by omega)).1
      obtain ⟨q1, q2, v, hv1, hv2, hq⟩ := placeK_facts (V := 20) (by omega) hF (hok.zOk hov) h.a0 (by rw [hs]; exact h.a1) hW ((Frac.mk _ (by omega)).up M) hc
      rw [hs] at q2
      refine ⟨q1, q2, M * v, Nat.mul_pos hM1 hv1, ?_, by rw [← Nat.mul_assoc]; exact hq⟩
      rw [hp]
      exact Nat.mul_le_mul hM2 (by omega))
  refine ⟨m1, m2, ?_, by omega, h.nd.filter _, fun o ho => h.mem o ((List.mem_filter.1 ho).1), Rat.le_trans h.a0 m2, m3, m4⟩
  have := filter_len h.nd m1
  omega
end Kn
end Go.Proofs.Ytemlfklipkpacaa
