import Derived.Test.YtemlfklipkpacaaKi
/- Plain arithmetic of what the search of package knife finds: where it lies, and over which number it is a fraction. -/
namespace Go.Proofs.Ytemlfklipkpacaa
open Go.RowKit

theorem rat_mul_den (x : Rat) : x * (x.den : Rat) = (x.num : Rat) := by
  have hd : (x.den : Rat) ≠ 0 := by
    intro h
    have h1 := x.den_pos
    have := Rat.natCast_eq_zero_iff.1 h
    omega
  have e : x = (x.num : Rat) / (x.den : Rat) := by rw [← Rat.mkRat_eq_div, Rat.mkRat_self]
  have h := Rat.div_mul_cancel (a := (x.num : Rat)) hd
  rw [← e] at h
  exact h
/-- A fraction over D. -/
def Frac (D : Nat) (x : Rat) : Prop := ∃ m : Int, x * (D : Rat) = (m : Rat)
theorem Frac.int (D : Nat) (n : Int) : Frac D (n : Rat) := ⟨n * D, by rw [Rat.intCast_mul]; rfl⟩
theorem Frac.sub {D : Nat} {x y : Rat} (hx : Frac D x) (hy : Frac D y) : Frac D (x - y) := by
  obtain ⟨m, hm⟩ := hx
  obtain ⟨k, hk⟩ := hy
  refine ⟨m - k, ?_⟩
  rw [Rat.intCast_sub, ← hm, ← hk]
  grind
theorem Frac.add {D : Nat} {x y : Rat} (hx : Frac D x) (hy : Frac D y) : Frac D (x + y) := by
  obtain ⟨m, hm⟩ := hx
  obtain ⟨k, hk⟩ := hy
  refine ⟨m + k, ?_⟩
  rw [Rat.intCast_add, ← hm, ← hk]
  grind
theorem Frac.mulI {D : Nat} {x : Rat} (hx : Frac D x) (n : Int) : Frac D (x * (n : Rat)) := by
  obtain ⟨m, hm⟩ := hx
  refine ⟨m * n, ?_⟩
  rw [Rat.intCast_mul, ← hm]
  grind
theorem Frac.up {D : Nat} {x : Rat} (hx : Frac D x) (k : Nat) : Frac (D * k) x := by
  obtain ⟨m, hm⟩ := hx
  refine ⟨m * k, ?_⟩
  rw [Rat.intCast_mul, ← hm, Rat.natCast_mul]
  have : ((k : Int) : Rat) = (k : Rat) := rfl
  rw [this]
  grind
theorem Frac.divI {D : Nat} {x : Rat} (hx : Frac D x) {v : Nat} (hv : 0 < v) : Frac (D * v) (x / (v : Rat)) := by
  obtain ⟨m, hm⟩ := hx
  refine ⟨m, ?_⟩
  have h0 : (v : Rat) ≠ 0 := by
    intro h
    have := Rat.natCast_eq_zero_iff.1 h
    omega
  have e : x / (v : Rat) * (v : Rat) = x := Rat.div_mul_cancel h0
  rw [Rat.natCast_mul, ← hm]
  grind
theorem Frac.den {D : Nat} {x : Rat} (hx : Frac D x) : x.den ∣ D := by
  obtain ⟨m, hm⟩ := hx
  have hd : (x.den : Rat) ≠ 0 := by
    intro h
    have h1 := x.den_pos
    have := Rat.natCast_eq_zero_iff.1 h
    omega
  have hx2 : x * (x.den : Rat) = (x.num : Rat) := rat_mul_den x
  have h3 : ((x.num * (D : Int) : Int) : Rat) = ((m * (x.den : Int) : Int) : Rat) := by
    rw [Rat.intCast_mul, Rat.intCast_mul, ← hm, ← hx2]
    have e1 : ((D : Int) : Rat) = (D : Rat) := rfl
    have e2 : ((x.den : Int) : Rat) = (x.den : Rat) := rfl
    rw [e1, e2]
    grind
  have h4 : x.num * (D : Int) = m * (x.den : Int) := Rat.intCast_inj.1 h3
  have h5 : (x.den : Int) ∣ x.num * (D : Int) := ⟨m, by rw [h4, Int.mul_comm]⟩
  have h6 : x.den ∣ x.num.natAbs * D := by
    have := Int.natAbs_dvd_natAbs.2 h5
    simpa [Int.natAbs_mul] using this
  exact Nat.Coprime.dvd_of_dvd_mul_left (Nat.Coprime.symm x.reduced) h6
theorem Frac.of_den {D : Nat} {x : Rat} (h : x.den ∣ D) : Frac D x := by
  obtain ⟨k, rfl⟩ := h
  refine ⟨x.num * k, ?_⟩
  rw [Rat.natCast_mul, Rat.intCast_mul, ← rat_mul_den x]
  have e1 : ((k : Int) : Rat) = (k : Rat) := rfl
  rw [e1]
  grind
theorem Frac.mk (n : Int) {d : Nat} (hd : 0 < d) : Frac d (mkRat n d) := by
  refine ⟨n, ?_⟩
  rw [Rat.mkRat_eq_div]
  have h0 : (d : Rat) ≠ 0 := by
    intro h
    have := Rat.natCast_eq_zero_iff.1 h
    omega
  exact Rat.div_mul_cancel h0

theorem placeO_facts {V : Int} {a : Rat} {D : Nat} (hD : Frac D a) {l : List (Int × Int)} (hok : OkW V l) : ∀ {s : Int} {w q : Rat}, 0 < w → Frac D w → Fl.placeO s a l w = some q →
    (s : Rat) ≤ q ∧ a ≤ q ∧ q ≤ (s : Rat) + (Fl.len l : Rat) ∧ ∃ v : Nat, 1 ≤ v ∧ (v : Int) ≤ V ∧ Frac (D * v) q := by
  induction l with
  | nil => intro s w q _ _ h; cases h
  | cons z r ih =>
    intro s w q hw hF h
    have hz := hok z (by simp)
    have hr : OkW V r := fun x hx => hok x (by simp [hx])
    have hl := hr.len
    have e1 : ((s + z.1 : Int) : Rat) = (s : Rat) + (z.1 : Rat) := Rat.intCast_add s z.1
    have e2 : ((Fl.len (z :: r) : Int) : Rat) = (z.1 : Rat) + (Fl.len r : Rat) := by rw [← Rat.intCast_add]; rfl
    have l0 : (0 : Rat) ≤ (Fl.len r : Rat) := by exact_mod_cast (show (0 : Int) ≤ Fl.len r by omega)
    have z1 : (1 : Rat) ≤ (z.1 : Rat) := by exact_mod_cast hz.1
    obtain ⟨p1, -, -, -, p5, p6, -⟩ := kpiece_end (a := a) (s := s) hz.1 hz.2.1 hz.2.2.1 hz.2.2.2
    have hpt := Fl.piece_tail (s := s) (zl := z.1) (v := z.2) (a := a) hz.1
    obtain ⟨P, hP⟩ : ∃ p, p = Fl.piece (s, s + z.1, z.2) a ((s + z.1 : Int) : Rat) := ⟨_, rfl⟩
    unfold Fl.placeO at h
    rw [← hP] at h p1 p5 p6 hpt
    rw [e2]
    have hFP : Frac D P := by
      rw [hpt]
      split
      · exact Frac.int D 0
      · split
        · exact ((Frac.int D _).sub hD).mulI _
        · exact ((Frac.int D _).sub (Frac.int D _)).mulI _
    by_cases hle : w ≤ P
    · rw [if_pos hle] at h
      cases h
      have hv := p6 (by grind)
      obtain ⟨v, hve⟩ := Int.eq_ofNat_of_zero_le (Int.le_of_lt hv)
      have hv0 : 0 < v := by omega
      have r3 : (0 : Rat) < (z.2 : Rat) := by exact_mod_cast hv
      have hqv : w / (z.2 : Rat) * (z.2 : Rat) = w := Rat.div_mul_cancel (by grind)
      have hq0 : 0 ≤ w / (z.2 : Rat) := by
        rw [Rat.div_def]
        exact Rat.mul_nonneg (by grind) (by have := (Rat.inv_pos (a := (z.2 : Rat))).2 (by grind); grind)
      have hls : (s : Rat) ≤ Fl.later a (s : Rat) := by rw [Fl.later_eq]; grind
      have hla : a ≤ Fl.later a (s : Rat) := by rw [Fl.later_eq]; grind
      have hP0 : 0 < P := by grind
      have hPe : P = (((s + z.1 : Int) : Rat) - Fl.later a (s : Rat)) * (z.2 : Rat) := by
        rw [hpt] at hP0 ⊢
        split at hP0
        · exact absurd hP0 (by decide)
        · rename_i hna
          rw [if_neg hna]
          split
          · rw [Fl.later_eq, show max a (s : Rat) = a by grind]
          · rw [Fl.later_eq, show max a (s : Rat) = (s : Rat) by grind]
      have hup : w / (z.2 : Rat) ≤ ((s + z.1 : Int) : Rat) - Fl.later a (s : Rat) := by
        rcases (Rat.le_total : w / (z.2 : Rat) ≤ ((s + z.1 : Int) : Rat) - Fl.later a (s : Rat) ∨ _) with h3 | h3
        · exact h3
        · have h4 := Rat.mul_le_mul_of_nonneg_right h3 (Rat.le_of_lt r3)
          have e5 : w = P := by grind
          have e6 : w / (z.2 : Rat) = ((s + z.1 : Int) : Rat) - Fl.later a (s : Rat) := by
            rw [e5, hPe, Rat.mul_div_cancel (by grind)]
          rw [e6]; exact Rat.le_refl
      refine ⟨by grind, by grind, by grind, v, hv0, by omega, ?_⟩
      have hlF : Frac D (Fl.later a (s : Rat)) := by
        unfold Fl.later
        split
        · exact Frac.int D s
        · exact hD
      rw [show (z.2 : Rat) = ((v : Nat) : Rat) by rw [hve]; rfl]
      exact (hlF.up v).add (hF.divI hv0)
    · rw [if_neg hle] at h
      obtain ⟨i1, i2, i3, i4⟩ := ih hr (s := s + z.1) (show 0 < w - P by grind) (hF.sub hFP) h
      exact ⟨by grind, i2, by grind, i4⟩

theorem placeK_facts {V : Int} (hV : 1 ≤ V) {a W q : Rat} {D : Nat} (hD : Frac D a) {l : List (Int × Int)} (hok : OkW V l) (h0 : 0 ≤ a) (h1 : a ≤ (Fl.len l : Rat)) (hw : 0 ≤ W) (hF : Frac D W) (h : Fl.placeK l a W = some q) :
    a ≤ q ∧ q ≤ (Fl.len l : Rat) ∧ ∃ v : Nat, 1 ≤ v ∧ (v : Int) ≤ V ∧ Frac (D * v) q := by
  unfold Fl.placeK at h
  by_cases hz : W = 0
  · rw [if_pos hz] at h
    cases h
    exact ⟨Rat.le_refl, h1, 1, by omega, by omega, hD.up 1⟩
  · rw [if_neg hz] at h
    obtain ⟨-, i2, i3, i4⟩ := placeO_facts hD hok (show 0 < W by grind) hF h
    have e0 : ((0 : Int) : Rat) = 0 := rfl
    exact ⟨i2, by grind, i4⟩
end Go.Proofs.Ytemlfklipkpacaa
