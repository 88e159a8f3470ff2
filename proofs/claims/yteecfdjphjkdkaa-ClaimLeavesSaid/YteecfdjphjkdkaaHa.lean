import Derived.Test.YteecfdjphjkdkaaGc
namespace Go.Proofs.Yteecfdjphjkdkaa
open Go.RowKit
namespace Cl
theorem gd {l : List Int} {j : Nat} (hj : j < l.length) : l.getD j 0 = l[j] := by rw [List.getD_eq_getElem?_getD, List.getElem?_eq_getElem hj]; rfl
theorem gd_set {l : List Int} {i : Nat} (v : Int) (hi : i < l.length) (j : Nat) : (l.set i v).getD j 0 = if j = i then v else l.getD j 0 := by
  rw [List.getD_eq_getElem?_getD, List.getElem?_set]
  by_cases h : i = j
  · subst h; simp [hi]
  · rw [if_neg h, if_neg (fun e => h e.symm), List.getD_eq_getElem?_getD]
theorem sumI_set {l : List Int} {i : Nat} (hi : i < l.length) (v : Int) : Fl.sumI (l.set i v) = Fl.sumI l - l.getD i 0 + v := by
  induction l generalizing i with
  | nil => simp at hi
  | cons x r ih =>
    cases i with
    | zero => rw [List.set_cons_zero, Fl.sumI_cons, Fl.sumI_cons]; simp; omega
    | succ i =>
      have := ih (i := i) (by simpa using hi)
      rw [List.set_cons_succ, Fl.sumI_cons, Fl.sumI_cons, this]
      simp; omega
theorem exists_max {R : List Int} (h : 0 < R.length) : ∃ m ∈ R, ∀ y ∈ R, y ≤ m := by
  induction R with
  | nil => simp at h
  | cons x r ih =>
    cases r with
    | nil => exact ⟨x, by simp, by simp⟩
    | cons y t =>
      obtain ⟨m, hm, hall⟩ := ih (by simp)
      by_cases hx : m ≤ x
      · exact ⟨x, by simp, fun z hz => by
          rcases List.mem_cons.1 hz with rfl | hz
          · omega
          · have := hall z hz; omega⟩
      · exact ⟨m, List.mem_cons_of_mem _ hm, fun z hz => by
          rcases List.mem_cons.1 hz with rfl | hz
          · omega
          · exact hall z hz⟩
theorem topI_spec {R : List Int} (h : 0 < R.length) : topI R < R.length ∧ (∀ y ∈ R, y ≤ R.getD (topI R) 0) ∧ ∀ j, j < topI R → R.getD j 0 ≠ R.getD (topI R) 0 := by
  obtain ⟨m, hm, hall⟩ := exists_max h
  have hlt : topI R < R.length := List.findIdx_lt_length_of_exists ⟨m, hm, by simpa using hall⟩
  have hp := List.findIdx_getElem (w := hlt)
  simp only [List.all_eq_true, decide_eq_true_eq] at hp
  have e : R.getD (topI R) 0 = R[topI R] := gd hlt
  refine ⟨hlt, by rw [e]; exact hp, fun j hj he => ?_⟩
  have hn := List.not_of_lt_findIdx hj
  rw [gd (show j < R.length by omega), e] at he
  apply Bool.eq_false_iff.1 hn
  rw [List.all_eq_true]
  intro y hy
  rw [decide_eq_true_eq, he]
  exact hp y hy
/-- The same with another mark for what is used. -/
def rStep (s : List Int × List Int) : List Int × List Int := (s.1.set (topI s.2) (s.1.getD (topI s.2) 0 + 1), s.2.set (topI s.2) (-1))
def rIt (s : List Int × List Int) : Nat → List Int × List Int
  | 0 => s
  | k + 1 => rStep (rIt s k)
theorem rIt_len (s : List Int × List Int) (k : Nat) : (rIt s k).1.length = s.1.length ∧ (rIt s k).2.length = s.2.length := by
  induction k with
  | zero => exact ⟨rfl, rfl⟩
  | succ k ih => unfold rIt rStep; simp only [List.length_set]; exact ih
theorem rest_sum (L : List Int) (E M : Int) : Fl.sumI (L.map fun c => c * E % M) = Fl.sumI L * E - M * Fl.sumI (L.map fun c => c * E / M) := by
  induction L with
  | nil => simp [Fl.sumI]
  | cons c r ih =>
    rw [List.map_cons, List.map_cons, Fl.sumI_cons, Fl.sumI_cons, Fl.sumI_cons, ih, Int.emod_def, Int.add_mul, Int.mul_add]
    omega
theorem rests (L : List Int) (E : Int) (hC : okC L = true) (h0 : 0 ≤ E) (h1 : E ≤ Fl.sumI L) :
    (∀ x ∈ wRest L E, 0 ≤ x ∧ x < max 1 (Fl.sumI L)) ∧ Fl.sumI (wRest L E) = max 1 (Fl.sumI L) * (E - Fl.sumI (wDown L E)) ∧ (wLeft L E : Int) = E - Fl.sumI (wDown L E) := by
  have hC := okC_iff.1 hC
  have hr : ∀ x ∈ wRest L E, 0 ≤ x ∧ x < max 1 (Fl.sumI L) := by
    intro x hx
    unfold wRest at hx
    obtain ⟨c, hc, rfl⟩ := List.mem_map.1 hx
    exact ⟨Int.emod_nonneg _ (by omega), Int.emod_lt_of_pos _ (by omega)⟩
  have hs : Fl.sumI (wRest L E) = max 1 (Fl.sumI L) * (E - Fl.sumI (wDown L E)) := by
    unfold wRest wDown
    rw [rest_sum, Int.mul_sub]
    congr 1
    by_cases hz : 1 ≤ Fl.sumI L
    · rw [Int.max_eq_right hz]
    · have : E = 0 := by omega
      rw [this]; simp
  refine ⟨hr, hs, ?_⟩
  have hn : 0 ≤ Fl.sumI (wRest L E) := sum_nonneg fun x hx => (hr x hx).1
  rw [hs] at hn
  have : 0 ≤ E - Fl.sumI (wDown L E) := by
    by_cases h : E - Fl.sumI (wDown L E) < 0
    · have := Int.mul_neg_of_pos_of_neg (show 0 < max 1 (Fl.sumI L) by omega) h
      omega
    · omega
  unfold wLeft
  omega
/-- What holds after so many rounds. -/
theorem wIt_inv {L : List Int} {E : Int} (hC : okC L = true) (h0 : 0 ≤ E) (h1 : E ≤ Fl.sumI L) (k : Nat) (hk : k ≤ wLeft L E) :
    (∀ x ∈ (wIt (wDown L E, wRest L E) k).2, 0 ≤ x ∧ x < max 1 (Fl.sumI L)) ∧ max 1 (Fl.sumI L) * (wLeft L E - k : Int) ≤ Fl.sumI (wIt (wDown L E, wRest L E) k).2 ∧
      Fl.sumI (wIt (wDown L E, wRest L E) k).1 = Fl.sumI (wDown L E) + k := by
  obtain ⟨r1, r2, r3⟩ := rests L E hC h0 h1
  have hl1 : 0 < L.length := (okC_iff.1 hC).1
  induction k with
  | zero =>
    refine ⟨r1, ?_, by simp [wIt]⟩
    show max 1 (Fl.sumI L) * ((wLeft L E : Int) - ((0 : Nat) : Int)) ≤ Fl.sumI (wRest L E)
    rw [r2, ← r3]; simp
  | succ k ih =>
    obtain ⟨i1, i2, i3⟩ := ih (by omega)
    have hlen := wIt_len (wDown L E, wRest L E) k
    have hd1 : (wDown L E).length = L.length := by unfold wDown; simp
    have hd2 : (wRest L E).length = L.length := by unfold wRest; simp
    have ht := topI_spec (R := (wIt (wDown L E, wRest L E) k).2) (by rw [hlen.2]; simp only; omega)
    have hun : wIt (wDown L E, wRest L E) (k + 1) = wStep (wIt (wDown L E, wRest L E) k) := rfl
    rw [hun]
    unfold wStep
    generalize wIt (wDown L E, wRest L E) k = s at *
    obtain ⟨A, R⟩ := s
    simp only at *
    have hg := i1 _ (by rw [gd ht.1]; exact List.getElem_mem ht.1 : R.getD (topI R) 0 ∈ R)
    refine ⟨?_, ?_, ?_⟩
    · intro x hx
      rcases List.mem_or_eq_of_mem_set hx with h | h
      · exact i1 x h
      · rw [h]; omega
    · rw [sumI_set ht.1]
      have e : max 1 (Fl.sumI L) * ((wLeft L E : Int) - ((k + 1 : Nat) : Int)) = max 1 (Fl.sumI L) * ((wLeft L E : Int) - (k : Int)) - max 1 (Fl.sumI L) := by
        rw [show (wLeft L E : Int) - ((k + 1 : Nat) : Int) = ((wLeft L E : Int) - (k : Int)) - 1 by omega, Int.mul_sub, Int.mul_one]
      omega
    · rw [sumI_set (by omega)]
      push_cast
      omega
theorem pos_of_sum {R : List Int} (h : 0 < Fl.sumI R) : ∃ x ∈ R, 0 < x := by
  induction R with
  | nil => simp [Fl.sumI] at h
  | cons x r ih =>
    by_cases hx : 0 < x
    · exact ⟨x, by simp, hx⟩
    · rw [Fl.sumI_cons] at h
      obtain ⟨y, hy, hp⟩ := ih (by omega)
      exact ⟨y, List.mem_cons_of_mem _ hy, hp⟩
/-- Both kinds of marks lead to the same. -/
theorem rIt_sim {L : List Int} {E : Int} (hC : okC L = true) (h0 : 0 ≤ E) (h1 : E ≤ Fl.sumI L) (k : Nat) (hk : k ≤ wLeft L E) :
    (rIt (wDown L E, wRest L E) k).1 = (wIt (wDown L E, wRest L E) k).1 ∧
      ∀ i, (rIt (wDown L E, wRest L E) k).2.getD i 0 = (wIt (wDown L E, wRest L E) k).2.getD i 0 ∨ ((wIt (wDown L E, wRest L E) k).2.getD i 0 = 0 ∧ (rIt (wDown L E, wRest L E) k).2.getD i 0 = -1) := by
  have hl1 : 0 < L.length := (okC_iff.1 hC).1
  induction k with
  | zero => exact ⟨rfl, fun i => .inl rfl⟩
  | succ k ih =>
    obtain ⟨j1, j2⟩ := ih (by omega)
    obtain ⟨i1, i2, i3⟩ := wIt_inv hC h0 h1 k (by omega)
    have hlen := wIt_len (wDown L E, wRest L E) k
    have hlenr := rIt_len (wDown L E, wRest L E) k
    have hd2 : (wRest L E).length = L.length := by unfold wRest; simp
    have hun : wIt (wDown L E, wRest L E) (k + 1) = wStep (wIt (wDown L E, wRest L E) k) := rfl
    have hur : rIt (wDown L E, wRest L E) (k + 1) = rStep (rIt (wDown L E, wRest L E) k) := rfl
    rw [hun, hur]
    unfold wStep rStep
    generalize wIt (wDown L E, wRest L E) k = s at *
    generalize rIt (wDown L E, wRest L E) k = s2 at *
    obtain ⟨A, R⟩ := s
    obtain ⟨A2, R2⟩ := s2
    simp only at *
    subst j1
    have ht := topI_spec (R := R) (by omega)
    have hpos : 0 < R.getD (topI R) 0 := by
      have : 0 < max 1 (Fl.sumI L) * ((wLeft L E : Int) - (k : Int)) := Int.mul_pos (by omega) (by omega)
      obtain ⟨x, hx, hp⟩ := pos_of_sum (R := R) (by omega)
      have := ht.2.1 x hx
      omega
    have e2 : R2.getD (topI R) 0 = R.getD (topI R) 0 := by
      rcases j2 (topI R) with h | h
      · exact h
      · omega
    have htop : topI R2 = topI R := by
      apply topI_eq (by omega)
      · intro y hy
        obtain ⟨i, hi, rfl⟩ := List.mem_iff_getElem.1 hy
        rw [e2, ← gd hi]
        rcases j2 i with h | h
        · rw [h, gd (show i < R.length by omega)]
          exact ht.2.1 _ (List.getElem_mem _)
        · omega
      · intro j hj
        rw [e2]
        rcases j2 j with h | h
        · rw [h]; exact ht.2.2 j hj
        · omega
    rw [htop]
    refine ⟨rfl, fun i => ?_⟩
    rw [gd_set _ (by omega), gd_set _ (by omega)]
    by_cases h : i = topI R
    · rw [if_pos h, if_pos h]; exact .inr ⟨rfl, rfl⟩
    · rw [if_neg h, if_neg h]; exact j2 i
theorem whole_sum {L : List Int} {E : Int} (hC : okC L = true) (h0 : 0 ≤ E) (h1 : E ≤ Fl.sumI L) : Fl.sumI (whole L E) = E := by
  have h := (wIt_inv hC h0 h1 _ (Nat.le_refl _)).2.2
  have h3 := (rests L E hC h0 h1).2.2
  unfold whole
  omega
end Cl
end Go.Proofs.Yteecfdjphjkdkaa
