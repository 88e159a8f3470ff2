import Derived.Test.YtkpabehjehbidaaB6
namespace Go.Proofs.Ytkpabehjehbidaa
namespace Fl
theorem den_div_int (q : Rat) (v : Int) (h0 : 0 ≤ v) (h20 : v ≤ 20) : (q / (v : Rat)).den ≤ q.den * 20 := by
  have hq := q.den_pos
  rcases Int.lt_or_eq_of_le h0 with h | h
  · rw [← div_q q v h, Rat.den_mkRat]
    have hd : ((q.den : Int) * v).toNat = q.den * v.toNat := by
      have : ((q.den : Int) * v) = ((q.den * v.toNat : Nat) : Int) := by
        rw [Int.natCast_mul, Int.toNat_of_nonneg h0]
      rw [this, Int.toNat_natCast]
    rw [hd]
    have h1 : q.den * v.toNat ≤ q.den * 20 := Nat.mul_le_mul_left _ (by omega)
    split
    · omega
    · exact Nat.le_trans (Nat.div_le_self _ _) h1
  · rw [← h]
    have e : ((0 : Int) : Rat) = 0 := rfl
    rw [e, Rat.div_def, Rat.inv_zero, Rat.mul_zero, Rat.zero_den]
    omega
theorem den_sub_int (x : Rat) (n : Int) : (x - (n : Rat)).den ≤ x.den := by
  have := den_sub_le x (n : Rat)
  rwa [Rat.den_intCast, Nat.mul_one] at this
theorem reachF_den2 {u : List Int} (hu : ∀ v ∈ u, 0 ≤ v ∧ v ≤ 20) : ∀ {s i : Int} {W p : Rat}, reachF s i u W = some p → p.den ≤ W.den * 20 := by
  induction u with
  | nil => intro s i W p h; cases h
  | cons v r ih =>
    intro s i W p h
    simp only [reachF] at h
    split at h
    · simp only [Option.some.injEq] at h
      have hv := hu v (by simp)
      rw [← h, Rat.add_comm]
      exact Nat.le_trans (den_add_int_le _ _) (Nat.le_trans (den_div_int _ _ hv.1 hv.2) (Nat.mul_le_mul_right _ (den_sub_int _ _)))
    · exact ih (fun v hv => hu v (by simp [hv])) h
theorem den_div_nat (x : Int) (p : Nat) (hp : 1 ≤ p) : ((x : Rat) / ((p : Int) : Rat)).den ≤ p := by
  rw [← div_q (x : Rat) (p : Int) (by omega), Rat.den_mkRat, Rat.den_intCast]
  have e : ((((1 : Nat) : Int) * (p : Int))).toNat = p := by simp
  rw [e]
  split
  · omega
  · exact Nat.div_le_self _ _

/-- The k-th of the cuts into equal pieces. -/
structure EqAt (l : List (Int × Int)) (e : Rat) (k : Nat) (a : Rat) : Prop where
  a0 : 0 ≤ a
  a1 : a ≤ (len l : Rat)
  d : a.den ≤ 160
  b : before (units l) a = (k : Rat) * e
  r : a = place l 0 ((k : Rat) * e)
theorem eqAt_zero {l : List (Int × Int)} (hok : Ok l) (e : Rat) : EqAt l e 0 0 := by
  have hc := cutAt_zero hok
  have hz : ((0 : Nat) : Rat) * e = 0 := by
    have : ((0 : Nat) : Rat) = 0 := rfl
    rw [this, Rat.zero_mul]
  refine ⟨Rat.le_refl, hc.a1, by decide, ?_, ?_⟩
  · rw [hz, hc.b]; rfl
  · rw [hz]; unfold place; rw [if_pos rfl]
theorem eqAt_step {l : List (Int × Int)} (hok : Ok l) (h6 : l.length ≤ 6) {p : Nat} (hp : 1 ≤ p) (hp8 : p ≤ 8) {e : Rat} (he : e = (tot l : Rat) / ((p : Int) : Rat)) {k : Nat} (hk : k + 1 ≤ p) {a : Rat} (h : EqAt l e k a) :
    EqAt l e (k + 1) (place l a e) ∧ GoOk a e ∧ a ≤ place l a e := by
  have htb := tot_bound hok
  have hlb := len_bound hok
  have hT : (0 : Rat) ≤ (tot l : Rat) := by exact_mod_cast htb.1
  have hT2 : (tot l : Rat) ≤ ((2400 : Int) : Rat) := Rat.intCast_le_intCast.2 (by omega)
  have hT3 : ((2400 : Int) : Rat) = 2400 := rfl
  have hpr : (1 : Rat) ≤ ((p : Int) : Rat) := by exact_mod_cast hp
  have hpi := Rat.mul_inv_cancel ((p : Int) : Rat) (by grind)
  have hpp : 0 < (((p : Int) : Rat))⁻¹ := Rat.inv_pos.2 (by grind)
  have he2 : ((p : Int) : Rat) * e = (tot l : Rat) := by
    rw [he, Rat.div_def, ← Rat.mul_assoc, Rat.mul_comm ((p : Int) : Rat), Rat.mul_assoc, hpi, Rat.mul_one]
  have he0 : 0 ≤ e := by rw [he, Rat.div_def]; exact Rat.mul_nonneg hT (by grind)
  have hkp : ((k + 1 : Nat) : Rat) ≤ ((p : Int) : Rat) := by exact_mod_cast hk
  have hk1 : ((k + 1 : Nat) : Rat) = (k : Rat) + 1 := by push_cast; rfl
  have hke : ((k + 1 : Nat) : Rat) * e ≤ (tot l : Rat) := by rw [← he2]; exact Rat.mul_le_mul_of_nonneg_right hkp he0
  have hk0 : (0 : Rat) ≤ (k : Rat) := by exact_mod_cast Nat.zero_le k
  have hke0 : 0 ≤ (k : Rat) * e := Rat.mul_nonneg hk0 he0
  have hes : ((k + 1 : Nat) : Rat) * e = (k : Rat) * e + e := by rw [hk1, Rat.add_mul, Rat.one_mul]
  have hr := worth_rest hok h.a0 h.a1
  rw [h.b] at hr
  have hle : e ≤ worth l a (len l : Rat) := by rw [hr]; grind
  obtain ⟨p1, p2, p3⟩ := place_spec hok h.a0 h.a1 he0 hle
  have l1 : (len l : Rat) ≤ ((1000 : Int) : Rat) := Rat.intCast_le_intCast.2 (by omega)
  have l2 : ((1000 : Int) : Rat) = 1000 := rfl
  have hed : e.den ≤ 8 := by rw [he]; exact Nat.le_trans (den_div_nat _ _ hp) hp8
  have ha1 := h.a1
  have hgo : GoOk a e := ⟨h.a0, by grind, he0, by grind, Nat.le_trans (Nat.mul_le_mul h.d hed) (by omega)⟩
  have hwd : (((k + 1 : Nat) : Rat) * e).den ≤ 8 := by
    have : ((k + 1 : Nat) : Rat) * e = ((((k + 1 : Nat) : Int) * tot l : Int) : Rat) / ((p : Int) : Rat) := by
      rw [he, Rat.intCast_mul, Rat.div_def, Rat.div_def, Rat.mul_assoc]; rfl
    rw [this]
    exact Nat.le_trans (den_div_nat _ _ hp) hp8
  have hl0 : (0 : Rat) ≤ (len l : Rat) := Rat.le_trans h.a0 h.a1
  have hb0 : before (units l) 0 = 0 := (cutAt_zero hok).b
  have hfin : place l a e = place l 0 (((k + 1 : Nat) : Rat) * e) ∧ (place l a e).den ≤ 160 := by
    by_cases hz : e = 0
    · subst hz
      have z1 : place l a 0 = a := by unfold place; rw [if_pos rfl]
      refine ⟨?_, by rw [z1]; exact h.d⟩
      rw [z1, h.r, Rat.mul_zero, Rat.mul_zero]
    · have hpos : 0 < e := by grind
      have e1 := reach_eq hok h.a0 h.a1 (w := e) hpos
      rw [if_pos hle, h.b, ← hes] at e1
      have hw0 : 0 < ((k + 1 : Nat) : Rat) * e := by rw [hes]; grind
      have e2 := reach_eq hok (a := 0) Rat.le_refl hl0 (w := ((k + 1 : Nat) : Rat) * e) hw0
      have hr0 := worth_rest hok (a := 0) Rat.le_refl hl0
      rw [hb0] at hr0
      rw [hb0, if_pos (by rw [hr0]; grind)] at e2
      have z : (0 : Rat) + ((k + 1 : Nat) : Rat) * e = ((k + 1 : Nat) : Rat) * e := Rat.zero_add _
      rw [z] at e2
      refine ⟨by rw [e2] at e1; exact (Option.some.inj e1).symm, ?_⟩
      exact Nat.le_trans (reachF_den2 (units_mem hok) e1) (Nat.le_trans (Nat.mul_le_mul_right _ hwd) (by omega))
  refine ⟨⟨Rat.le_trans h.a0 p1, p2, hfin.2, ?_, hfin.1⟩, hgo, p1⟩
  have hw := worth_before hok h.a0 p1
  rw [p3, h.b] at hw
  rw [hes]; grind
theorem eqAt_all {l : List (Int × Int)} (hok : Ok l) (h6 : l.length ≤ 6) {p : Nat} (hp : 1 ≤ p) (hp8 : p ≤ 8) {e : Rat} (he : e = (tot l : Rat) / ((p : Int) : Rat)) : ∀ k, k ≤ p → EqAt l e k (place l 0 ((k : Rat) * e)) := by
  intro k
  induction k with
  | zero => intro _; have h := eqAt_zero hok e; rw [← h.r]; exact h
  | succ k ih =>
    intro hk
    have h := (eqAt_step hok h6 hp hp8 he hk (ih (by omega))).1
    rw [← h.r]; exact h
/-- The cuts into equal pieces. -/
def eqL (l : List (Int × Int)) (p : Nat) : List Rat := (List.range (p - 1)).map fun i => place l 0 (((i + 1 : Nat) : Rat) * ((tot l : Rat) / ((p : Int) : Rat)))
theorem eqL_chain {l : List (Int × Int)} (hok : Ok l) (h6 : l.length ≤ 6) {p : Nat} (hp : 1 ≤ p) (hp8 : p ≤ 8) {e : Rat} (he : e = (tot l : Rat) / ((p : Int) : Rat)) : ∀ (m k : Nat) (a : Rat), EqAt l e k a → k + m ≤ p →
    CutOk l a (List.replicate m e) ∧ cutsF l a (List.replicate m e) = (List.range m).map fun i => place l 0 (((k + i + 1 : Nat) : Rat) * e) := by
  intro m
  induction m with
  | zero => intro k a h hk; exact ⟨trivial, rfl⟩
  | succ m ih =>
    intro k a h hk
    obtain ⟨s1, s2, -⟩ := eqAt_step hok h6 hp hp8 he (by omega) h
    obtain ⟨i1, i2⟩ := ih (k + 1) _ s1 (by omega)
    refine ⟨⟨s2, i1⟩, ?_⟩
    rw [List.replicate_succ, List.range_succ_eq_map, List.map_cons, List.map_map]
    show place l a e :: cutsF l (place l a e) (List.replicate m e) = _
    rw [i2, s1.r]
    congr 1
    refine List.map_congr_left fun i _ => ?_
    show place l 0 (((k + 1 + i + 1 : Nat) : Rat) * e) = place l 0 (((k + (i + 1) + 1 : Nat) : Rat) * e)
    rw [show k + 1 + i + 1 = k + (i + 1) + 1 by omega]
/-- Why a field can't be cut into so many pieces, or 0. -/
def eqC (l : List (Int × Int)) (p : Int) : Int := if validate l ≠ 0 then validate l else if p < 1 ∨ 8 < p then 3 else 0
theorem eqC_ok {l : List (Int × Int)} {p : Int} (h : eqC l p = 0) : validate l = 0 ∧ 1 ≤ p ∧ p ≤ 8 := by
  unfold eqC at h
  by_cases h0 : validate l = 0
  · rw [if_neg (by simp [h0])] at h
    by_cases h1 : p < 1 ∨ 8 < p
    · rw [if_pos h1] at h; omega
    · exact ⟨h0, by omega, by omega⟩
  · rw [if_pos h0] at h; exact absurd h h0
/-- What is known of each of the cuts. -/
theorem eqL_facts {l : List (Int × Int)} (hok : Ok l) (h6 : l.length ≤ 6) {p : Nat} (hp : 1 ≤ p) (hp8 : p ≤ 8) :
    (∀ k, k < p - 1 → 0 ≤ (eqL l p).getD k 0 ∧ (eqL l p).getD k 0 ≤ (len l : Rat) ∧ ((eqL l p).getD k 0).den ≤ 160) ∧ ∀ k, k + 1 < p - 1 → (eqL l p).getD k 0 ≤ (eqL l p).getD (k + 1) 0 := by
  have hg : ∀ k, k < p - 1 → (eqL l p).getD k 0 = place l 0 (((k + 1 : Nat) : Rat) * ((tot l : Rat) / ((p : Int) : Rat))) := by
    intro k hk
    unfold eqL
    rw [List.getD_eq_getElem?_getD, List.getElem?_map, List.getElem?_range hk]
    rfl
  constructor
  · intro k hk
    have := eqAt_all hok h6 hp hp8 rfl (k + 1) (by omega)
    rw [hg k hk]
    exact ⟨this.a0, this.a1, this.d⟩
  · intro k hk
    have h := eqAt_all hok h6 hp hp8 rfl (k + 1) (by omega)
    have hs := eqAt_step hok h6 hp hp8 rfl (by omega) h
    rw [hg k (by omega), hg (k + 1) hk, ← hs.1.r]
    exact hs.2.2
end Fl
end Go.Proofs.Ytkpabehjehbidaa
