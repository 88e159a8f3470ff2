import Derived.Test.YtmdkdkiejcjmaaaXg
/- Lists of With: placing one in order. -/
namespace Go.Proofs.Ytmdkdkiejcjmaaa
open Go.RowKit

namespace Tm
/-- What lies in the list behind k spans; and whether the new one is placed. -/
def ins (x y : Int) (S : List (Int × Int)) : Nat → List (Int × Int) × Bool
  | 0 => ([], false)
  | k + 1 => if !(ins x y S k).2 && decide (x < (S.getD k (0, 0)).1) then ((ins x y S k).1 ++ [(x, y)] ++ [S.getD k (0, 0)], true) else ((ins x y S k).1 ++ [S.getD k (0, 0)], (ins x y S k).2)
def fin (x y : Int) (S : List (Int × Int)) : List (Int × Int) := if (ins x y S S.length).2 then (ins x y S S.length).1 else (ins x y S S.length).1 ++ [(x, y)]
theorem take_getD {S : List (Int × Int)} {k : Nat} (hk : k < S.length) : S.take (k + 1) = S.take k ++ [S.getD k (0, 0)] := by
  rw [List.take_succ_eq_append_getElem hk, List.getD_eq_getElem?_getD, List.getElem?_eq_getElem hk]; rfl
theorem ins_perm (x y : Int) (S : List (Int × Int)) : ∀ k, k ≤ S.length → (ins x y S k).1.Perm (S.take k ++ if (ins x y S k).2 then [(x, y)] else [])
  | 0, _ => by simp [ins]
  | k + 1, hk => by
    have h := ins_perm x y S k (by omega)
    rw [take_getD (by omega)]
    unfold ins
    by_cases hc : (!(ins x y S k).2 && decide (x < (S.getD k (0, 0)).1)) = true
    · rw [if_pos hc]
      rw [Bool.and_eq_true, Bool.not_eq_true'] at hc
      rw [hc.1] at h
      simp only [Bool.false_eq_true, if_false, List.append_nil] at h
      simp only [if_true]
      rw [List.append_assoc, List.append_assoc]
      refine h.append ?_
      exact List.perm_append_comm
    · rw [if_neg hc]
      simp only
      rw [List.append_assoc]
      have h2 : ((S.take k ++ if (ins x y S k).2 then [(x, y)] else []) ++ [S.getD k (0, 0)]).Perm (S.take k ++ ([S.getD k (0, 0)] ++ if (ins x y S k).2 then [(x, y)] else [])) := by
        rw [List.append_assoc]
        exact List.Perm.append_left _ List.perm_append_comm
      exact (h.append_right _).trans h2
theorem ins_sorted {x y : Int} {S : List (Int × Int)} (hs : S.Pairwise (fun a b => a.1 < b.1)) : ∀ k, k ≤ S.length → (ins x y S k).1.Pairwise (fun a b => a.1 ≤ b.1) ∧ (∀ a ∈ (ins x y S k).1, ∀ j, k ≤ j → j < S.length → a.1 ≤ (S.getD j (0, 0)).1) ∧ ((ins x y S k).2 = false → ∀ a ∈ (ins x y S k).1, a.1 ≤ x)
  | 0, _ => by simp [ins]
  | k + 1, hk => by
    obtain ⟨h1, h2, h3⟩ := ins_sorted hs k (by omega)
    have hlt : ∀ j, k < j → j < S.length → (S.getD k (0, 0)).1 < (S.getD j (0, 0)).1 := fun j h4 h5 => by
      rw [List.getD_eq_getElem?_getD, List.getD_eq_getElem?_getD, List.getElem?_eq_getElem (show k < S.length by omega), List.getElem?_eq_getElem h5]
      exact List.pairwise_iff_getElem.1 hs k j (by omega) h5 h4
    have hle : ∀ a ∈ (ins x y S k).1, a.1 ≤ (S.getD k (0, 0)).1 := fun a ha => h2 a ha k (Nat.le_refl _) (by omega)
    unfold ins
    by_cases hc : (!(ins x y S k).2 && decide (x < (S.getD k (0, 0)).1)) = true
    · rw [if_pos hc]
      rw [Bool.and_eq_true, Bool.not_eq_true', decide_eq_true_eq] at hc
      obtain ⟨hc1, hc2⟩ := hc
      refine ⟨?_, fun a ha j h4 h5 => ?_, fun h => by cases h⟩
      · refine List.pairwise_append.2 ⟨List.pairwise_append.2 ⟨h1, by simp, fun a ha b hb => ?_⟩, by simp, fun a ha b hb => ?_⟩
        · rw [List.mem_singleton] at hb
          subst hb
          exact h3 hc1 a ha
        · rw [List.mem_singleton] at hb
          subst hb
          rcases List.mem_append.1 ha with h6 | h6
          · exact hle a h6
          · rw [List.mem_singleton] at h6
            subst h6
            show x ≤ _
            omega
      · have h6 := hlt j (by omega) h5
        rcases List.mem_append.1 ha with h7 | h7
        · rcases List.mem_append.1 h7 with h8 | h8
          · have := hle a h8
            omega
          · rw [List.mem_singleton] at h8
            subst h8
            show x ≤ _
            omega
        · rw [List.mem_singleton] at h7
          subst h7
          omega
    · rw [if_neg hc]
      simp only
      refine ⟨?_, fun a ha j h4 h5 => ?_, fun h a ha => ?_⟩
      · refine List.pairwise_append.2 ⟨h1, by simp, fun a ha b hb => ?_⟩
        rw [List.mem_singleton] at hb
        subst hb
        exact hle a ha
      · have h6 := hlt j (by omega) h5
        rcases List.mem_append.1 ha with h7 | h7
        · have := hle a h7
          omega
        · rw [List.mem_singleton] at h7
          subst h7
          omega
      · rw [h] at hc
        have h9 : ¬ x < (S.getD k (0, 0)).1 := fun h8 => hc (by rw [decide_eq_true h8]; rfl)
        rcases List.mem_append.1 ha with h7 | h7
        · exact h3 h a h7
        · rw [List.mem_singleton] at h7
          subst h7
          omega
theorem fin_ok {f x y : Int} {F : List Int} {S : List (Int × Int)} (h : wcode f F S x y = 0) (hs : S.Pairwise (fun a b => a.1 < b.1)) : WR f F S x y f F (fin x y S) := by
  have h1 := ins_perm x y S S.length (Nat.le_refl _)
  obtain ⟨h2, -, h3⟩ := ins_sorted (x := x) (y := y) hs S.length (Nat.le_refl _)
  rw [List.take_length] at h1
  refine .inr ⟨h, rfl, rfl, ?_, ?_⟩
  · unfold fin
    cases hb : (ins x y S S.length).2 with
    | true => rw [hb] at h1; simpa using h1
    | false =>
      rw [hb] at h1
      simp only [Bool.false_eq_true, if_false, List.append_nil] at h1 ⊢
      exact h1.append_right _
  · unfold fin
    cases hb : (ins x y S S.length).2 with
    | true => simpa using h2
    | false =>
      simp only [Bool.false_eq_true, if_false]
      refine List.pairwise_append.2 ⟨h2, by simp, fun a ha b hb2 => ?_⟩
      rw [List.mem_singleton] at hb2
      subst hb2
      exact h3 hb a ha
theorem firsts {f : Int} {F : List Int} {S : List (Int × Int)} (h : vcode f F S = 0) : S.Pairwise (fun a b => a.1 < b.1) := by
  have hok := (vcode_ok h).1
  unfold vcode at h
  split at h
  · cases h
  · split at h
    · cases h
    · split at h
      · rename_i g3
        rw [Bool.and_eq_true] at g3
        exact (spans_pair g3.2).imp_of_mem (fun {a b} ha _ h2 => by have := (hok.st a ha).2.1; omega)
      · cases h
end Tm
end Go.Proofs.Ytmdkdkiejcjmaaa
