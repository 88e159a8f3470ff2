import Derived.Test.YteecfdjphjkdkaaUb
namespace Go.Proofs.Yteecfdjphjkdkaa
open Go.RowKit
namespace Cl
theorem min_mulr (x y : Int) {d : Int} (h : 0 ≤ d) : min x y * d = min (x * d) (y * d) := by
  rcases Int.le_total x y with h1 | h1
  · rw [Int.min_eq_left h1, Int.min_eq_left (Int.mul_le_mul_of_nonneg_right h1 h)]
  · rw [Int.min_eq_right h1, Int.min_eq_right (Int.mul_le_mul_of_nonneg_right h1 h)]
theorem sum_map_mulr (L : List Int) (f : Int → Int) (d : Int) : Fl.sumI (L.map fun c => f c * d) = Fl.sumI (L.map f) * d := by
  induction L with
  | nil => simp [Fl.sumI]
  | cons c r ih => rw [List.map_cons, List.map_cons, Fl.sumI_cons, Fl.sumI_cons, ih, Int.add_mul]
theorem sum_map_le {L : List Int} {f g : Int → Int} (h : ∀ c ∈ L, f c ≤ g c) : Fl.sumI (L.map f) ≤ Fl.sumI (L.map g) := by
  induction L with
  | nil => exact Int.le_refl _
  | cons c r ih =>
    have h1 := h c (List.mem_cons_self ..)
    have h2 := ih fun z hz => h z (List.mem_cons_of_mem _ hz)
    rw [List.map_cons, List.map_cons, Fl.sumI_cons, Fl.sumI_cons]
    omega
theorem sum_map_eq {L : List Int} {f g : Int → Int} (h : ∀ c ∈ L, f c ≤ g c) (hs : Fl.sumI (L.map f) = Fl.sumI (L.map g)) : ∀ c ∈ L, f c = g c := by
  induction L with
  | nil => intro c hc; cases hc
  | cons c r ih =>
    have h1 := h c (List.mem_cons_self ..)
    have h2 := sum_map_le (L := r) (f := f) (g := g) fun z hz => h z (List.mem_cons_of_mem _ hz)
    rw [List.map_cons, List.map_cons, Fl.sumI_cons, Fl.sumI_cons] at hs
    intro x hx
    rcases List.mem_cons.1 hx with rfl | hx
    · omega
    · exact ih (fun z hz => h z (List.mem_cons_of_mem _ hz)) (by omega) x hx
theorem min_same {L : List Int} {a d a' d' : Int} (hd : 0 < d) (hd' : 0 < d') (h : below L a d * d' = below L a' d' * d) : ∀ c ∈ L, min (c * d) a * d' = min (c * d') a' * d := by
  have e1 : Fl.sumI (L.map fun c => min (c * d) a * d') = Fl.sumI (L.map fun c => min (c * d') a' * d) := by
    rw [sum_map_mulr, sum_map_mulr]; exact h
  have e2 : ∀ c, min (c * d) a * d' = min (c * d * d') (a * d') := fun c => min_mulr _ _ (by omega)
  have e3 : ∀ c, min (c * d') a' * d = min (c * d * d') (a' * d) := fun c => by rw [min_mulr _ _ (by omega), Int.mul_assoc, Int.mul_comm d', ← Int.mul_assoc]
  rcases Int.le_total (a * d') (a' * d) with h1 | h1
  · exact sum_map_eq (fun c _ => by rw [e2, e3]; omega) e1
  · intro c hc
    exact (sum_map_eq (f := fun c => min (c * d') a' * d) (g := fun c => min (c * d) a * d') (fun c _ => by simp only [e2, e3]; omega) e1.symm c hc).symm
/-- A list without one. -/
def wk (L : List Int) (k : Nat) : List Int := L.take k ++ L.drop (k + 1)
theorem wk_sum {L : List Int} {k : Nat} (hk : k < L.length) (f : Int → Int) : Fl.sumI (L.map f) = f L[k] + Fl.sumI ((wk L k).map f) := by
  have e : L = L.take k ++ (L[k] :: L.drop (k + 1)) := by rw [← List.drop_eq_getElem_cons hk, List.take_append_drop]
  have e2 : L.map f = (L.take k).map f ++ (f L[k] :: (L.drop (k + 1)).map f) := by
    conv => lhs; rw [e]
    rw [List.map_append, List.map_cons]
  rw [e2]
  unfold wk
  rw [List.map_append, Fl.sumI_app, Fl.sumI_app, Fl.sumI_cons]
  omega
theorem wk_sum0 {L : List Int} {k : Nat} (hk : k < L.length) : Fl.sumI L = L[k] + Fl.sumI (wk L k) := by
  have h := wk_sum hk (fun c => c)
  simpa using h
theorem wk_mem {L : List Int} {k : Nat} {c : Int} (h : c ∈ wk L k) : c ∈ L := by
  unfold wk at h
  rcases List.mem_append.1 h with h | h
  · exact List.mem_of_mem_take h
  · exact List.mem_of_mem_drop h
theorem wk_len {L : List Int} {k : Nat} (hk : k < L.length) : (wk L k).length + 1 = L.length := by
  unfold wk
  rw [List.length_append, List.length_take, List.length_drop]
  omega
theorem wk_ok {L : List Int} {k : Nat} (hk : k < L.length) (h2 : 2 ≤ L.length) (hC : okC L = true) : okC (wk L k) = true := by
  have h := okC_iff.1 hC
  have hl := wk_len hk
  exact okC_iff.2 ⟨by omega, by omega, fun c hc => h.2.2 c (wk_mem hc)⟩
theorem lev_rest {L : List Int} {T T' : Int} {k : Nat} (hC : okC L = true) (h0 : 0 ≤ T) (h1 : T ≤ Fl.sumI L) (hk : k < L.length) (h2 : 2 ≤ L.length)
    (hT : T' * ((lvl L T).den : Int) = T * ((lvl L T).den : Int) - min (L[k] * ((lvl L T).den : Int)) (lvl L T).num) :
    0 ≤ T' ∧ T' ≤ Fl.sumI (wk L k) ∧ ∀ c ∈ wk L k, min (c * ((lvl (wk L k) T').den : Int)) (lvl (wk L k) T').num * ((lvl L T).den : Int) = min (c * ((lvl L T).den : Int)) (lvl L T).num * ((lvl (wk L k) T').den : Int) := by
  obtain ⟨q1, q2, q3, q4⟩ := lvl_ok hC h0 h1
  have hb : below L (lvl L T).num ((lvl L T).den : Int) = T * ((lvl L T).den : Int) := q4.2.2.1
  have hd := (lvl L T).den_pos
  have hC' := wk_ok hk h2 hC
  have hpos := (okC_iff.1 hC).2.2
  have hb2 : below (wk L k) (lvl L T).num ((lvl L T).den : Int) = T' * ((lvl L T).den : Int) := by
    have h := wk_sum hk (fun c => min (c * ((lvl L T).den : Int)) (lvl L T).num)
    unfold below at hb ⊢
    omega
  have g0 : 0 ≤ T' * ((lvl L T).den : Int) := by
    rw [← hb2]
    unfold below
    have h := sum_map_le (L := wk L k) (f := fun _ => 0) (g := fun c => min (c * ((lvl L T).den : Int)) (lvl L T).num) (fun c hc => by
      have := Int.mul_nonneg (hpos c (wk_mem hc)).1 (show 0 ≤ ((lvl L T).den : Int) by omega)
      omega)
    have e := sum_map_mulr (wk L k) (fun _ => 0) 0
    simp only [Int.mul_zero] at e
    rw [e] at h
    exact h
  have g1 : T' * ((lvl L T).den : Int) ≤ Fl.sumI (wk L k) * ((lvl L T).den : Int) := by
    rw [← hb2]
    unfold below
    have h := sum_map_le (L := wk L k) (f := fun c => min (c * ((lvl L T).den : Int)) (lvl L T).num) (g := fun c => c * ((lvl L T).den : Int)) (fun c _ => Int.min_le_left _ _)
    rw [sum_map_mulr (wk L k) (fun c => c)] at h
    simpa using h
  have t0 : 0 ≤ T' := by
    by_cases h : 0 ≤ T'
    · exact h
    · have := Int.mul_lt_mul_of_pos_right (show T' < 0 by omega) (show (0 : Int) < ((lvl L T).den : Int) by omega)
      omega
  have t1 : T' ≤ Fl.sumI (wk L k) := Int.le_of_mul_le_mul_right g1 (by omega)
  refine ⟨t0, t1, ?_⟩
  obtain ⟨p1, p2, p3, p4⟩ := lvl_ok hC' t0 t1
  have hb3 : below (wk L k) (lvl (wk L k) T').num ((lvl (wk L k) T').den : Int) = T' * ((lvl (wk L k) T').den : Int) := p4.2.2.1
  have hd2 := (lvl (wk L k) T').den_pos
  refine min_same (by omega) (by omega) ?_
  rw [hb2, hb3, Int.mul_assoc, Int.mul_comm ((lvl (wk L k) T').den : Int), ← Int.mul_assoc]
end Cl
end Go.Proofs.Yteecfdjphjkdkaa
