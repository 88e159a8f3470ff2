import Derived.Test.YtemlfklipkpacaaKf
/- Plain arithmetic of the search for a place in the land of package knife. -/
namespace Go.Proofs.Ytemlfklipkpacaa
open Go.RowKit
namespace Fl
/-- From strip to strip: where a worth is reached; nothing if it is not. -/
def placeO (s : Int) (a : Rat) : List (Int × Int) → Rat → Option Rat
  | [], _ => none
  | z :: r, w => if w ≤ piece (s, s + z.1, z.2) a ((s + z.1 : Int) : Rat) then some (later a (s : Rat) + w / (z.2 : Rat)) else placeO (s + z.1) a r (w - piece (s, s + z.1, z.2) a ((s + z.1 : Int) : Rat))
def placeK (l : List (Int × Int)) (a w : Rat) : Option Rat := if w = 0 then some a else placeO 0 a l w
end Fl

/-- What is asked of a place and a worth; M: no worth is greater, V: no value is greater. -/
structure KGo (M V : Int) (a W : Rat) : Prop where
  a0 : 0 ≤ a
  a1 : a ≤ ((1000 : Nat) : Rat)
  w0 : 0 ≤ W
  w1 : W ≤ (M : Rat)
  M0 : 0 ≤ M
  V0 : 0 ≤ V
  d1 : (M + 20 * V + 1) * ((a.den : Int) * ((a.den : Int) * (W.den : Int))) ≤ 1000000000000000000
  d2 : (V + 1) * ((a.den : Int) * ((a.den : Int) * (W.den : Int))) ≤ 4000000000000000
  d3 : (V + 1) * (a.den : Int) ≤ 2000000000000000
/-- What is known of the worth that is left. -/
structure KLeft (M : Int) (a W : Rat) (s : Int) (w : Rat) : Prop where
  w0 : 0 < w
  w1 : w ≤ (M : Rat)
  d1 : (s : Rat) ≤ a → w.den ≤ W.den
  d2 : w.den ≤ a.den * W.den

theorem kpiece_end {a : Rat} {s l v V : Int} (h1 : 1 ≤ l) (h2 : l ≤ 20) (h3 : 0 ≤ v) (h4 : v ≤ V) :
    0 ≤ Fl.piece (s, s + l, v) a ((s + l : Int) : Rat) ∧ Fl.piece (s, s + l, v) a ((s + l : Int) : Rat) ≤ ((20 * V : Int) : Rat) ∧ (Fl.piece (s, s + l, v) a ((s + l : Int) : Rat)).den ≤ a.den ∧
    (a < (s : Rat) → (Fl.piece (s, s + l, v) a ((s + l : Int) : Rat)).den = 1) ∧ (((s + l : Int) : Rat) ≤ a → Fl.piece (s, s + l, v) a ((s + l : Int) : Rat) = 0) ∧
    (0 < Fl.piece (s, s + l, v) a ((s + l : Int) : Rat) → 0 < v) ∧ Fl.piece (s, s + l, v) a ((s + l : Int) : Rat) ≤ 20 * (v : Rat) := by
  have da := a.den_pos
  have r1 : (1 : Rat) ≤ (l : Rat) := by exact_mod_cast h1
  have r2 : (l : Rat) ≤ 20 := by exact_mod_cast h2
  have r3 : (0 : Rat) ≤ (v : Rat) := by exact_mod_cast h3
  have r4 : (v : Rat) ≤ (V : Rat) := by exact_mod_cast h4
  have e1 : ((s + l : Int) : Rat) = (s : Rat) + (l : Rat) := Rat.intCast_add s l
  have e2 : ((20 * V : Int) : Rat) = 20 * (V : Rat) := by rw [Rat.intCast_mul]; rfl
  have es : Fl.sooner ((s + l : Int) : Rat) ((s + l : Int) : Rat) = ((s + l : Int) : Rat) := by unfold Fl.sooner; split <;> rfl
  obtain ⟨lo, hlo⟩ : ∃ x, x = Fl.later a (s : Rat) := ⟨_, rfl⟩
  have q3 : (s : Rat) ≤ lo := by rw [hlo, Fl.later_eq]; grind
  have q5 : a ≤ lo := by rw [hlo, Fl.later_eq]; grind
  have q6 : lo = a ∨ lo = (s : Rat) := by rw [hlo]; unfold Fl.later; split <;> simp
  have d3 : lo.den ≤ a.den := by
    rw [hlo]; unfold Fl.later; split
    · exact da
    · exact Nat.le_refl _
  rw [e2]
  by_cases hle : ((s + l : Int) : Rat) ≤ lo
  · have hp : Fl.piece (s, s + l, v) a ((s + l : Int) : Rat) = 0 := by
      unfold Fl.piece
      simp only [es, ← hlo, hle, if_true]
    rw [hp]
    exact ⟨by decide, by grind, da, fun _ => rfl, fun _ => rfl, fun h => absurd h (by decide), by grind⟩
  · have hp : Fl.piece (s, s + l, v) a ((s + l : Int) : Rat) = (((s + l : Int) : Rat) - lo) * (v : Rat) := by
      unfold Fl.piece
      simp only [es, ← hlo, hle, if_false]
    have m1 : 0 ≤ (((s + l : Int) : Rat) - lo) * (v : Rat) := Rat.mul_nonneg (by grind) r3
    have m2 : (((s + l : Int) : Rat) - lo) * (v : Rat) ≤ 20 * (v : Rat) := Rat.mul_le_mul_of_nonneg_right (by grind) r3
    have dd : ((((s + l : Int) : Rat) - lo) * (v : Rat)).den ≤ lo.den := Nat.le_trans (Fl.den_mul_int_le _ _) (by have := Fl.den_sub_le ((s + l : Int) : Rat) lo; rw [Rat.den_intCast, Nat.one_mul] at this; exact this)
    rw [hp]
    refine ⟨m1, by grind, by omega, fun h => ?_, fun h => by grind, fun h => ?_, m2⟩
    · have e : lo = (s : Rat) := by grind
      have e2 : lo.den = 1 := by rw [e]; rfl
      have := ((((s + l : Int) : Rat) - lo) * (v : Rat)).den_pos
      omega
    · rcases Int.lt_or_le 0 v with h0 | h0
      · exact h0
      · have : v = 0 := by omega
        subst this
        have e : (((0 : Int)) : Rat) = 0 := rfl
        rw [e, Rat.mul_zero] at h
        exact absurd h (by decide)

theorem kleft_step {M : Int} {a W w : Rat} {s l v V : Int} (h1 : 1 ≤ l) (h2 : l ≤ 20) (h3 : 0 ≤ v) (h4 : v ≤ V) (hL : KLeft M a W s w) (hn : ¬ w ≤ Fl.piece (s, s + l, v) a ((s + l : Int) : Rat)) :
    KLeft M a W (s + l) (w - Fl.piece (s, s + l, v) a ((s + l : Int) : Rat)) := by
  obtain ⟨p1, p2, p3, p4, p5, -⟩ := kpiece_end (a := a) (s := s) h1 h2 h3 h4
  have e1 : ((s + l : Int) : Rat) = (s : Rat) + (l : Rat) := Rat.intCast_add s l
  have r1 : (1 : Rat) ≤ (l : Rat) := by exact_mod_cast h1
  obtain ⟨P, hP⟩ : ∃ x, x = Fl.piece (s, s + l, v) a ((s + l : Int) : Rat) := ⟨_, rfl⟩
  rw [← hP] at p1 p2 p3 p4 p5 hn ⊢
  have w0 := hL.w0
  have w1 := hL.w1
  refine ⟨by grind, by grind, fun h => ?_, ?_⟩
  · rw [p5 h]
    have : w - 0 = w := by grind
    rw [this]
    exact hL.d1 (by grind)
  · have hd := Fl.den_sub_le w P
    by_cases hs : (s : Rat) ≤ a
    · have := hL.d1 hs
      have m : w.den * P.den ≤ W.den * a.den := Nat.mul_le_mul this p3
      rw [Nat.mul_comm W.den] at m
      omega
    · rw [p4 (by grind), Nat.mul_one] at hd
      have := hL.d2
      omega

theorem num_leI {x : Rat} {n : Int} (h : x ≤ (n : Rat)) : x.num ≤ n * (x.den : Int) := by
  have := (Rat.le_iff x (n : Rat)).mp h
  simpa using this
/-- The numbers of one step of the search. -/
theorem kleft_facts {M V : Int} {a W w : Rat} {s l v : Int} (h1 : 1 ≤ l) (h2 : l ≤ 20) (h3 : 0 ≤ v) (h4 : v ≤ V) (hs0 : 0 ≤ s) (hs : s ≤ 200) (hg : KGo M V a W) (hL : KLeft M a W s w) (P : Rat) (hP : P = Fl.piece (s, s + l, v) a ((s + l : Int) : Rat)) :
    KPl a ((s + l : Int) : Rat) v ∧ CmpOk w P ∧ (¬ w ≤ P → SubOk w P) ∧
    (w ≤ P → 0 < v ∧ 0 ≤ w.num ∧ w.num ≤ 4000000000000000000 ∧ (w.den : Int) * v ≤ 4000000000000000000 ∧ PlusOk (Fl.later a (s : Rat)) (w / (v : Rat)) ∧ CmpOk a (s : Rat)) := by
  obtain ⟨p1, p2, p3, p4, p5, p6, p7⟩ := kpiece_end (a := a) (s := s) h1 h2 h3 h4
  rw [← hP] at p1 p2 p3 p4 p5 p6 p7
  have ad : 1 ≤ (a.den : Int) := by have := a.den_pos; omega
  have Wd : 1 ≤ (W.den : Int) := by have := W.den_pos; omega
  have wd : 1 ≤ (w.den : Int) := by have := w.den_pos; omega
  have pd : 1 ≤ (P.den : Int) := by have := P.den_pos; omega
  have M0 := hg.M0
  have V0 := hg.V0
  obtain ⟨X, hX⟩ : ∃ X : Int, X = (a.den : Int) * ((a.den : Int) * (W.den : Int)) := ⟨_, rfl⟩
  have g1 := hg.d1
  have g2 := hg.d2
  have g3 := hg.d3
  rw [← hX] at g1 g2
  have wD : (w.den : Int) ≤ (a.den : Int) * (W.den : Int) := by have := hL.d2; rw [← Int.natCast_mul]; omega
  have X1 : (w.den : Int) * (P.den : Int) ≤ X := by
    rw [hX, Int.mul_comm (a.den : Int) ((a.den : Int) * (W.den : Int))]
    exact Int.mul_le_mul wD (by omega) (by omega) (by omega)
  have X0 : 1 ≤ (w.den : Int) * (P.den : Int) := by have := Int.mul_le_mul wd pd (by omega) (by omega); omega
  have Xw : (w.den : Int) ≤ X := by
    have : (w.den : Int) * 1 ≤ (w.den : Int) * (P.den : Int) := Int.mul_le_mul_of_nonneg_left pd (by omega)
    omega
  have Xa : (a.den : Int) ≤ X := by
    have h : (a.den : Int) * 1 ≤ (a.den : Int) * ((a.den : Int) * (W.den : Int)) := Int.mul_le_mul_of_nonneg_left (by have := Int.mul_le_mul ad Wd (by omega) (by omega); omega) (by omega)
    omega
  have MX : 0 ≤ M * X := Int.mul_nonneg M0 (by omega)
  have VX : 0 ≤ V * X := Int.mul_nonneg V0 (by omega)
  rw [Int.add_mul, Int.add_mul, Int.one_mul, Int.mul_assoc] at g1
  rw [Int.add_mul, Int.one_mul] at g2 g3
  have Va : 0 ≤ V * (a.den : Int) := Int.mul_nonneg V0 (by omega)
  have va : v * (a.den : Int) ≤ V * (a.den : Int) := Int.mul_le_mul_of_nonneg_right h4 (by omega)
  have w0 := hL.w0
  have n1 := Fl.num_nonneg (x := w) (by grind)
  have n2 := Fl.num_nonneg p1
  have n3 := Fl.num_nonneg hg.a0
  have m1 := num_leI hL.w1
  have m2 := num_leI p2
  have m3 := Fl.num_le hg.a1
  have c1 : w.num * (P.den : Int) ≤ M * (w.den : Int) * (P.den : Int) := Int.mul_le_mul_of_nonneg_right m1 (by omega)
  have c2 : P.num * (w.den : Int) ≤ 20 * V * (P.den : Int) * (w.den : Int) := Int.mul_le_mul_of_nonneg_right m2 (by omega)
  have c3 : M * ((w.den : Int) * (P.den : Int)) ≤ M * X := Int.mul_le_mul_of_nonneg_left X1 M0
  have c4 : V * ((w.den : Int) * (P.den : Int)) ≤ V * X := Int.mul_le_mul_of_nonneg_left X1 V0
  have c5 : 20 * V * (P.den : Int) * (w.den : Int) = 20 * (V * ((w.den : Int) * (P.den : Int))) := by rw [Int.mul_assoc, Int.mul_assoc, Int.mul_comm (P.den : Int)]
  have c6 : M * (w.den : Int) ≤ M * X := Int.mul_le_mul_of_nonneg_left Xw M0
  rw [Int.mul_assoc] at c1
  have t1 : ((s + l : Int) : Rat) ≤ ((1000 : Nat) : Rat) := by
    have : ((s + l : Int) : Rat) ≤ ((1000 : Int) : Rat) := Rat.intCast_le_intCast.2 (by omega)
    exact this
  have t0 : (0 : Rat) ≤ ((s + l : Int) : Rat) := by exact_mod_cast (show (0 : Int) ≤ s + l by omega)
  have a9 : CmpOk a (s : Rat) := cmp_whole hg.a0 hg.a1 (D := (a.den : Int)) (Int.le_refl _) (by omega) hs0 (by omega)
  refine ⟨⟨hg.a0, t0, hg.a1, t1, h3, by rw [Rat.den_intCast, show ((1 : Nat) : Int) = 1 from rfl, Int.mul_one, Int.add_mul, Int.one_mul]; omega⟩, ⟨n1, n2, by omega, by omega⟩, fun hn => ⟨⟨n1, n2, by omega, by omega, by omega⟩, by grind⟩, fun hle => ?_⟩
  have hv := p6 (by grind)
  have r3 : (1 : Rat) ≤ (v : Rat) := by exact_mod_cast hv
  have hq0 : 0 ≤ w / (v : Rat) := by
    rw [Rat.div_def]
    exact Rat.mul_nonneg (by grind) (by have := (Rat.inv_pos (a := (v : Rat))).2 (by grind); grind)
  have hqv : w / (v : Rat) * (v : Rat) = w := Rat.div_mul_cancel (by grind)
  have hq1 : w / (v : Rat) ≤ ((20 : Nat) : Rat) := by
    have e : ((20 : Nat) : Rat) = 20 := rfl
    rw [e]
    rcases (Rat.le_total : w / (v : Rat) ≤ 20 ∨ 20 ≤ w / (v : Rat)) with h | h
    · exact h
    · have := Rat.mul_le_mul_of_nonneg_right h (show (0 : Rat) ≤ (v : Rat) by grind)
      have e2 : w = 20 * (v : Rat) := by grind
      have e3 : w / (v : Rat) = 20 := by rw [e2, Rat.mul_div_cancel (by grind)]
      rw [e3]
      exact Rat.le_refl
  have hdv : ((w / (v : Rat)).den : Int) ≤ (w.den : Int) * v := by
    obtain ⟨m, rfl⟩ := Int.eq_ofNat_of_zero_le (Int.le_of_lt hv)
    rw [← div_q w _ hv, Rat.den_mkRat, ← Int.natCast_mul, Int.toNat_natCast]
    have wp := w.den_pos
    split
    · have : 0 < w.den * m := Nat.mul_pos wp (by omega)
      omega
    · have := Nat.div_le_self (w.den * m) ((w.den * m).gcd w.num.natAbs)
      omega
  have hl0 : 0 ≤ Fl.later a (s : Rat) := by
    have := hg.a0
    rw [Fl.later_eq]; grind
  have hl1 : Fl.later a (s : Rat) ≤ ((1000 : Nat) : Rat) := by
    have h5 : (s : Rat) ≤ ((1000 : Int) : Rat) := Rat.intCast_le_intCast.2 (by omega)
    have e : ((1000 : Int) : Rat) = ((1000 : Nat) : Rat) := rfl
    rw [e] at h5
    have := hg.a1
    rw [Fl.later_eq]; grind
  have hld : ((Fl.later a (s : Rat)).den : Int) ≤ (a.den : Int) := by
    unfold Fl.later; split
    · rw [Rat.den_intCast]; exact ad
    · exact Int.le_refl _
  have ln := Fl.num_le hl1
  have qn := Fl.num_le hq1
  have lz := Fl.num_nonneg hl0
  have qz := Fl.num_nonneg hq0
  have qd : 1 ≤ ((w / (v : Rat)).den : Int) := by have := (w / (v : Rat)).den_pos; omega
  have ld : 1 ≤ ((Fl.later a (s : Rat)).den : Int) := by have := (Fl.later a (s : Rat)).den_pos; omega
  have wv1 : (w.den : Int) * v ≤ (a.den : Int) * (W.den : Int) * V := Int.mul_le_mul wD h4 (by omega) (Int.mul_nonneg (by omega) (by omega))
  have wv0 : 0 ≤ (w.den : Int) * v := Int.mul_nonneg (by omega) (by omega)
  have YY : ((Fl.later a (s : Rat)).den : Int) * ((w / (v : Rat)).den : Int) ≤ (a.den : Int) * ((a.den : Int) * (W.den : Int) * V) := Int.mul_le_mul hld (by omega) (by omega) (by omega)
  have YE : (a.den : Int) * ((a.den : Int) * (W.den : Int) * V) = V * X := by rw [← Int.mul_assoc, ← hX, Int.mul_comm]
  have wv2 : (a.den : Int) * (W.den : Int) * V ≤ V * X := by
    have z0 : 0 ≤ (a.den : Int) * (W.den : Int) * V := Int.mul_nonneg (Int.mul_nonneg (by omega) (by omega)) V0
    have := Int.mul_le_mul_of_nonneg_right ad z0
    omega
  have k1 : (Fl.later a (s : Rat)).num * ((w / (v : Rat)).den : Int) ≤ 1000 * ((Fl.later a (s : Rat)).den : Int) * ((w / (v : Rat)).den : Int) := Int.mul_le_mul_of_nonneg_right (by exact ln) (by omega)
  have k2 : (w / (v : Rat)).num * ((Fl.later a (s : Rat)).den : Int) ≤ 20 * ((w / (v : Rat)).den : Int) * ((Fl.later a (s : Rat)).den : Int) := Int.mul_le_mul_of_nonneg_right (by exact qn) (by omega)
  rw [Int.mul_assoc] at k1 k2
  rw [Int.mul_comm ((w / (v : Rat)).den : Int) ((Fl.later a (s : Rat)).den : Int)] at k2
  exact ⟨hv, n1, by omega, by omega, ⟨lz, qz, by omega, by omega, by omega⟩, a9⟩
end Go.Proofs.Ytemlfklipkpacaa
