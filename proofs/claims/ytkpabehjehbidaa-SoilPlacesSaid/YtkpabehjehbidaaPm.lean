import Derived.Test.YtkpabehjehbidaaLtm
namespace Go.Proofs.Ytkpabehjehbidaa
open Go.RowKit
namespace Fl
/-- From strip to strip: where a worth is reached. -/
def placeF (s : Int) (a : Rat) : List (Int × Int) → Rat → Rat
  | [], _ => (s : Rat)
  | z :: r, w => if w ≤ piece (s, s + z.1, z.2) a ((s + z.1 : Int) : Rat) then later a (s : Rat) + w / (z.2 : Rat) else placeF (s + z.1) a r (w - piece (s, s + z.1, z.2) a ((s + z.1 : Int) : Rat))
def place (l : List (Int × Int)) (a w : Rat) : Rat := if w = 0 then a else placeF 0 a l w

/-- What is asked of a place and a worth. -/
structure GoOk (a w : Rat) : Prop where
  a0 : 0 ≤ a
  a1 : a ≤ 1000
  w0 : 0 ≤ w
  w1 : w ≤ 3000
  d : a.den * w.den ≤ 1000000
/-- What is known of the worth that is left. -/
structure Left (a W : Rat) (s : Int) (w : Rat) : Prop where
  w0 : 0 < w
  w1 : w ≤ 3000
  d1 : (s : Rat) ≤ a → w.den ≤ W.den
  d2 : w.den ≤ a.den * W.den

theorem piece_end {a : Rat} {s l v : Int} (h1 : 1 ≤ l) (h2 : l ≤ 20) (h3 : 0 ≤ v) (h4 : v ≤ 20) :
    0 ≤ piece (s, s + l, v) a ((s + l : Int) : Rat) ∧ piece (s, s + l, v) a ((s + l : Int) : Rat) ≤ 400 ∧ (piece (s, s + l, v) a ((s + l : Int) : Rat)).den ≤ a.den ∧
    (a < (s : Rat) → (piece (s, s + l, v) a ((s + l : Int) : Rat)).den = 1) ∧ (((s + l : Int) : Rat) ≤ a → piece (s, s + l, v) a ((s + l : Int) : Rat) = 0) ∧
    (0 < piece (s, s + l, v) a ((s + l : Int) : Rat) → 0 < v) := by
  have da := a.den_pos
  have r1 : (1 : Rat) ≤ (l : Rat) := by exact_mod_cast h1
  have r2 : (l : Rat) ≤ 20 := by exact_mod_cast h2
  have r3 : (0 : Rat) ≤ (v : Rat) := by exact_mod_cast h3
  have r4 : (v : Rat) ≤ 20 := by exact_mod_cast h4
  have e1 : ((s + l : Int) : Rat) = (s : Rat) + (l : Rat) := Rat.intCast_add s l
  have es : sooner ((s + l : Int) : Rat) ((s + l : Int) : Rat) = ((s + l : Int) : Rat) := by unfold sooner; split <;> rfl
  obtain ⟨lo, hlo⟩ : ∃ x, x = later a (s : Rat) := ⟨_, rfl⟩
  have q3 : (s : Rat) ≤ lo := by rw [hlo, later_eq]; grind
  have q5 : a ≤ lo := by rw [hlo, later_eq]; grind
  have q6 : lo = a ∨ lo = (s : Rat) := by rw [hlo]; unfold later; split <;> simp
  have d3 : lo.den ≤ a.den := by
    rw [hlo]; unfold later; split
    · exact da
    · exact Nat.le_refl _
  by_cases hle : ((s + l : Int) : Rat) ≤ lo
  · have hp : piece (s, s + l, v) a ((s + l : Int) : Rat) = 0 := by
      unfold piece
      simp only [es, ← hlo, hle, if_true]
    rw [hp]
    exact ⟨by decide, by decide, da, fun _ => rfl, fun _ => rfl, fun h => absurd h (by decide)⟩
  · have hp : piece (s, s + l, v) a ((s + l : Int) : Rat) = (((s + l : Int) : Rat) - lo) * (v : Rat) := by
      unfold piece
      simp only [es, ← hlo, hle, if_false]
    have m1 : 0 ≤ (((s + l : Int) : Rat) - lo) * (v : Rat) := Rat.mul_nonneg (by grind) r3
    have m2 : (((s + l : Int) : Rat) - lo) * (v : Rat) ≤ (((s + l : Int) : Rat) - lo) * 20 := Rat.mul_le_mul_of_nonneg_left r4 (by grind)
    have dd : ((((s + l : Int) : Rat) - lo) * (v : Rat)).den ≤ lo.den := Nat.le_trans (den_mul_int_le _ _) (by have := den_sub_le ((s + l : Int) : Rat) lo; rw [Rat.den_intCast, Nat.one_mul] at this; exact this)
    rw [hp]
    refine ⟨m1, by grind, by omega, fun h => ?_, fun h => by grind, fun h => ?_⟩
    · have e : lo = (s : Rat) := by grind
      have e2 : lo.den = 1 := by rw [e]; rfl
      have := ((((s + l : Int) : Rat) - lo) * (v : Rat)).den_pos
      omega
    · rcases Int.lt_or_le 0 v with h0 | h0
      · exact h0
      · have : v = 0 := by omega
        subst this
        have e : (((0 : Int)) : Rat) = 0 := rfl
        rw [e, Rat.mul_zero] at h
        exact absurd h (by decide)

theorem left_step {a W w : Rat} {s l v : Int} (h1 : 1 ≤ l) (h2 : l ≤ 20) (h3 : 0 ≤ v) (h4 : v ≤ 20) (hL : Left a W s w) (_ : 1 ≤ W.den) (hn : ¬ w ≤ piece (s, s + l, v) a ((s + l : Int) : Rat)) :
    Left a W (s + l) (w - piece (s, s + l, v) a ((s + l : Int) : Rat)) := by
  obtain ⟨p1, p2, p3, p4, p5, -⟩ := piece_end (a := a) (s := s) h1 h2 h3 h4
  have e1 : ((s + l : Int) : Rat) = (s : Rat) + (l : Rat) := Rat.intCast_add s l
  have r1 : (1 : Rat) ≤ (l : Rat) := by exact_mod_cast h1
  obtain ⟨P, hP⟩ : ∃ x, x = piece (s, s + l, v) a ((s + l : Int) : Rat) := ⟨_, rfl⟩
  rw [← hP] at p1 p2 p3 p4 p5 hn ⊢
  have w0 := hL.w0
  have w1 := hL.w1
  refine ⟨by grind, by grind, fun h => ?_, ?_⟩
  · rw [p5 h]
    have : w - 0 = w := by grind
    rw [this]
    exact hL.d1 (by grind)
  · have hd := den_sub_le w P
    by_cases hs : (s : Rat) ≤ a
    · have := hL.d1 hs
      have m : w.den * P.den ≤ W.den * a.den := Nat.mul_le_mul this p3
      rw [Nat.mul_comm W.den] at m
      omega
    · rw [p4 (by grind), Nat.mul_one] at hd
      have := hL.d2
      omega
end Fl

theorem denI {a b : Nat} {n : Nat} (h : a * b ≤ n) : (a : Int) * (b : Int) ≤ (n : Int) := by rw [← Int.natCast_mul]; omega
/-- The numbers of one step of the search. -/
theorem left_facts {a W w : Rat} {s l v : Int} (h1 : 1 ≤ l) (h2 : l ≤ 20) (h3 : 0 ≤ v) (h4 : v ≤ 20) (hs0 : 0 ≤ s) (hs : s ≤ 200) (ha0 : 0 ≤ a) (ha1 : a ≤ 1000) (hd : a.den * W.den ≤ 1000000) (hL : Fl.Left a W s w) (P : Rat) (hP : P = Fl.piece (s, s + l, v) a ((s + l : Int) : Rat)) :
    PlaceOk a ((s + l : Int) : Rat) ∧ (0 ≤ w.num ∧ 0 ≤ P.num ∧ w.num ≤ 9223372036854775807 ∧ P.num ≤ 9223372036854775807 ∧ (w.den : Int) * (P.den : Int) ≤ 4000000000000000000) ∧ (¬ w ≤ P → SubOk w P) ∧
    (w ≤ P → 0 < v ∧ w.num ≤ 4000000000000000000 ∧ (w.den : Int) * v ≤ 4000000000000000000 ∧ PlusOk (Fl.later a (s : Rat)) (w / (v : Rat)) ∧ 0 ≤ a.num ∧ a.num ≤ 9223372036854775807 ∧ (a.den : Int) * (((s : Rat).den : Nat) : Int) ≤ 4000000000000000000) := by
  obtain ⟨p1, p2, p3, p4, p5, p6⟩ := Fl.piece_end (a := a) (s := s) h1 h2 h3 h4
  rw [← hP] at p1 p2 p3 p4 p5 p6
  have wd := W.den_pos
  have ad := a.den_pos
  have xd := w.den_pos
  have a6 : a.den ≤ 1000000 := Nat.le_trans (Nat.le_mul_of_pos_right _ wd) hd
  have w6 : w.den ≤ 1000000 := Nat.le_trans hL.d2 hd
  have w0 := hL.w0
  have ww1 := hL.w1
  have n1 := Fl.num_nonneg (x := w) (by grind)
  have n2 := Fl.num_nonneg p1
  have n3 := Fl.num_nonneg ha0
  have m1 := Fl.num_le (n := 3000) (x := w) hL.w1
  have m2 := Fl.num_le (n := 400) (x := P) p2
  have m3 := Fl.num_le (n := 1000) (x := a) ha1
  have dP : w.den * P.den ≤ 1000000 * 1000000 := Nat.mul_le_mul w6 (by omega)
  have dP' := denI dP
  refine ⟨⟨ha0, by exact_mod_cast (show (0 : Int) ≤ s + l by omega), by omega, by show s + l ≤ _; omega, by rw [Rat.den_intCast]; omega⟩, ⟨n1, n2, by omega, by omega, by omega⟩, fun hn => ⟨plusOk ⟨by grind, p1, by grind, by grind, by omega⟩, by grind⟩, fun hle => ?_⟩
  have hv := p6 (by grind)
  have r3 : (1 : Rat) ≤ (v : Rat) := by exact_mod_cast hv
  have hq0 : 0 ≤ w / (v : Rat) := by
    rw [Rat.div_def]
    exact Rat.mul_nonneg (by grind) (by have := (Rat.inv_pos (a := (v : Rat))).2 (by grind); grind)
  have hqv : w / (v : Rat) * (v : Rat) = w := Rat.div_mul_cancel (by grind)
  have hq1 : w / (v : Rat) ≤ 3000 := by
    have := Rat.mul_le_mul_of_nonneg_left r3 hq0
    have := hL.w1
    grind
  have hdv : (w / (v : Rat)).den ≤ w.den * v.toNat := by
    rw [← div_q w v hv, Rat.den_mkRat]
    have e : ((w.den : Int) * v).toNat = w.den * v.toNat := by
      obtain ⟨m, rfl⟩ := Int.eq_ofNat_of_zero_le (Int.le_of_lt hv)
      rw [← Int.natCast_mul, Int.toNat_natCast, Int.toNat_natCast]
    rw [e]
    split
    · exact Nat.mul_pos xd (by omega)
    · exact Nat.div_le_self _ _
  have hdv2 : (w / (v : Rat)).den ≤ 1000000 * 20 := Nat.le_trans hdv (Nat.mul_le_mul w6 (by omega))
  have hl0 : 0 ≤ Fl.later a (s : Rat) := by
    rw [Fl.later_eq]; grind
  have hl1 : Fl.later a (s : Rat) ≤ 3000 := by
    have : (s : Rat) ≤ ((200 : Int) : Rat) := Rat.intCast_le_intCast.2 hs
    have e : ((200 : Int) : Rat) = 200 := rfl
    rw [Fl.later_eq]; grind
  have hld : (Fl.later a (s : Rat)).den ≤ 1000000 := by
    unfold Fl.later; split
    · show 1 ≤ _; decide
    · exact a6
  have hdd : (Fl.later a (s : Rat)).den * (w / (v : Rat)).den ≤ 1000000 * (1000000 * 20) := Nat.mul_le_mul hld hdv2
  have hwv : (w.den : Int) * v ≤ 1000000 * 20 := Int.mul_le_mul (by omega) h4 (by omega) (by omega)
  refine ⟨hv, by omega, by omega, plusOk ⟨hl0, hq0, hl1, hq1, by omega⟩, n3, by omega, by rw [Rat.den_intCast]; omega⟩
end Go.Proofs.Ytkpabehjehbidaa
