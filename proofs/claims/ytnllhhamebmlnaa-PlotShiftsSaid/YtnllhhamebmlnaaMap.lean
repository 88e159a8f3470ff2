import Derived.Test.YtnllhhamebmlnaaVeq
import Derived.Test.YtnllhhamebmlnaaMth
import Derived.Test.YtnllhhamebmlnaaRdr
namespace Go.Proofs.Ytnllhhamebmlnaa
namespace Geo

def shiftP (d : Int × Int) (p : Int × Int) : Int × Int := (p.1 + d.1, p.2 + d.2)
def quarterP (p : Int × Int) : Int × Int := (-p.2, p.1)
def mirrorP (p : Int × Int) : Int × Int := (p.2, p.1)

theorem turn_shift (d a b c : Int × Int) : turn (shiftP d a).1 (shiftP d a).2 (shiftP d b).1 (shiftP d b).2 (shiftP d c).1 (shiftP d c).2 = turn a.1 a.2 b.1 b.2 c.1 c.2 := by
  unfold turn shiftP
  simp only
  rw [show b.1 + d.1 - (a.1 + d.1) = b.1 - a.1 by omega, show c.2 + d.2 - (a.2 + d.2) = c.2 - a.2 by omega, show b.2 + d.2 - (a.2 + d.2) = b.2 - a.2 by omega, show c.1 + d.1 - (a.1 + d.1) = c.1 - a.1 by omega]
theorem turn_quarter (a b c : Int × Int) : turn (quarterP a).1 (quarterP a).2 (quarterP b).1 (quarterP b).2 (quarterP c).1 (quarterP c).2 = turn a.1 a.2 b.1 b.2 c.1 c.2 := by
  unfold turn quarterP
  simp only
  rw [show -b.2 - -a.2 = -(b.2 - a.2) by omega, show -c.2 - -a.2 = -(c.2 - a.2) by omega, Int.neg_mul, Int.mul_neg]
  omega
theorem turn_mirror (a b c : Int × Int) : turn (mirrorP a).1 (mirrorP a).2 (mirrorP b).1 (mirrorP b).2 (mirrorP c).1 (mirrorP c).2 = -turn a.1 a.2 b.1 b.2 c.1 c.2 := by
  unfold turn mirrorP
  simp only
  omega
/-- A way to move points that keeps what Validate asks, but for the range. -/
structure Moves (T : Int × Int → Int × Int) : Prop where
  eq : ∀ a b, peq (T a).1 (T a).2 (T b).1 (T b).2 = peq a.1 a.2 b.1 b.2
  has : ∀ a b x, has (T a).1 (T a).2 (T b).1 (T b).2 (T x).1 (T x).2 = has a.1 a.2 b.1 b.2 x.1 x.2
  divides : ∀ a b c d, divides (T a).1 (T a).2 (T b).1 (T b).2 (T c).1 (T c).2 (T d).1 (T d).2 = divides a.1 a.2 b.1 b.2 c.1 c.2 d.1 d.2
theorem Moves.clashes {T : Int × Int → Int × Int} (h : Moves T) (a b c d : Int × Int) :
    clashes (T a).1 (T a).2 (T b).1 (T b).2 (T c).1 (T c).2 (T d).1 (T d).2 = clashes a.1 a.2 b.1 b.2 c.1 c.2 d.1 d.2 := by
  unfold Geo.clashes meets
  simp only [h.eq, h.has, h.divides]
theorem moves_shift (d : Int × Int) : Moves (shiftP d) where
  eq a b := by
    unfold peq shiftP
    rw [Bool.eq_iff_iff]; simp only [Bool.and_eq_true, decide_eq_true_eq]; omega
  has a b x := by
    unfold Geo.has
    rw [turn_shift]
    unfold btw shiftP
    rw [Bool.eq_iff_iff]; simp only [Bool.and_eq_true, decide_eq_true_eq, beq_iff_eq]; omega
  divides a b c e := by
    unfold Geo.divides
    rw [turn_shift, turn_shift]
theorem moves_quarter : Moves quarterP where
  eq a b := by
    unfold peq quarterP
    rw [Bool.eq_iff_iff]; simp only [Bool.and_eq_true, decide_eq_true_eq]; omega
  has a b x := by
    unfold Geo.has
    rw [turn_quarter]
    unfold btw quarterP
    rw [Bool.eq_iff_iff]; simp only [Bool.and_eq_true, decide_eq_true_eq, beq_iff_eq]; omega
  divides a b c e := by
    unfold Geo.divides
    rw [turn_quarter, turn_quarter]
theorem moves_mirror : Moves mirrorP where
  eq a b := by
    unfold peq mirrorP
    rw [Bool.eq_iff_iff]; simp only [Bool.and_eq_true, decide_eq_true_eq]; omega
  has a b x := by
    unfold Geo.has
    rw [turn_mirror]
    unfold btw mirrorP
    rw [Bool.eq_iff_iff]; simp only [Bool.and_eq_true, decide_eq_true_eq, beq_iff_eq]; omega
  divides a b c e := by
    unfold Geo.divides
    rw [turn_mirror, turn_mirror]
    rw [Bool.eq_iff_iff]; simp only [Bool.and_eq_true, Bool.or_eq_true, decide_eq_true_eq]; omega

theorem getD_map {T : Int × Int → Int × Int} {l : List (Int × Int)} {i : Nat} (h : i < l.length) : (l.map T).getD i (0, 0) = T (l.getD i (0, 0)) := by
  simp [List.getD_eq_getElem?_getD, h]
theorem nxt_map (T : Int × Int → Int × Int) (l : List (Int × Int)) (i : Nat) : nxt (l.map T) i = nxt l i := by simp [nxt]
theorem any_congr {α : Type} {l : List α} {f g : α → Bool} (h : ∀ x ∈ l, f x = g x) : l.any f = l.any g := by
  rw [Bool.eq_iff_iff, List.any_eq_true, List.any_eq_true]
  constructor
  · rintro ⟨x, hx, e⟩; exact ⟨x, hx, by rw [← h x hx]; exact e⟩
  · rintro ⟨x, hx, e⟩; exact ⟨x, hx, by rw [h x hx]; exact e⟩
theorem Moves.crosses {T : Int × Int → Int × Int} (h : Moves T) (l : List (Int × Int)) : crosses (l.map T) = crosses l := by
  unfold Geo.crosses
  rw [List.length_map]
  refine any_congr fun i hi => any_congr fun j hj => ?_
  have hi := List.mem_range.1 hi
  have hj := List.mem_range.1 hj
  congr 1
  unfold clash px py
  rw [nxt_map, nxt_map, getD_map hi, getD_map hj, getD_map (nxt_lt hi), getD_map (nxt_lt hj)]
  exact h.clashes _ _ _ _
theorem Moves.twice {T : Int × Int → Int × Int} (h : Moves T) (l : List (Int × Int)) : twice (l.map T) = twice l := by
  rw [twice_eq, twice_eq]
  unfold rtwice
  rw [List.length_map]
  refine any_congr fun i hi => any_congr fun j hj => ?_
  have hi := List.mem_range.1 hi
  have hj := List.mem_range.1 hj
  unfold dup px py
  rw [getD_map hi, getD_map (show j < l.length by omega)]
  exact h.eq _ _
/-- All turns become f of what they were: so does the fan. -/
theorem fan_map {T : Int × Int → Int × Int} {s : Int} (hs : ∀ a b c : Int × Int, turn (T a).1 (T a).2 (T b).1 (T b).2 (T c).1 (T c).2 = s * turn a.1 a.2 b.1 b.2 c.1 c.2) (l : List (Int × Int)) : fan (l.map T) = s * fan l := by
  have key : ∀ k, k + 2 ≤ l.length ∨ k = 0 → sumOf (fanOf (l.map T)) (List.range k) = s * sumOf (fanOf l) (List.range k) := by
    intro k
    induction k with
    | zero => intro _; show (0 : Int) = s * 0; simp
    | succ k ih =>
      intro hk
      have hk : k + 3 ≤ l.length := by omega
      rw [List.range_succ, sumOf_snoc, sumOf_snoc, ih (by omega), Int.mul_add]
      congr 1
      unfold fanOf px py
      rw [getD_map (by omega), getD_map (by omega), getD_map (by omega)]
      exact hs _ _ _
  unfold fan
  rw [List.length_map]
  exact key _ (by omega)
end Geo
theorem validate_map {T : Int × Int → Int × Int} (h : Geo.Moves T) {l : List (Int × Int)} (hw : ((l.map T).all fun p => Geo.within p.1 p.2 30) = (l.all fun p => Geo.within p.1 p.2 30)) : validate (l.map T) = validate l := by
  unfold validate
  rw [List.length_map, hw, h.twice, h.crosses]
theorem within_quarter (l : List (Int × Int)) : ((l.map Geo.quarterP).all fun p => Geo.within p.1 p.2 30) = (l.all fun p => Geo.within p.1 p.2 30) := by
  rw [List.all_map]
  congr 1
  funext p
  unfold Geo.within Geo.quarterP
  rw [Bool.eq_iff_iff]; simp only [Function.comp, Bool.and_eq_true, decide_eq_true_eq]; omega
theorem within_mirror (l : List (Int × Int)) : ((l.map Geo.mirrorP).all fun p => Geo.within p.1 p.2 30) = (l.all fun p => Geo.within p.1 p.2 30) := by
  rw [List.all_map]
  congr 1
  funext p
  unfold Geo.within Geo.mirrorP
  rw [Bool.eq_iff_iff]; simp only [Function.comp, Bool.and_eq_true, decide_eq_true_eq]; omega
end Go.Proofs.Ytnllhhamebmlnaa
