/- Plain geometry of whole points: integers only; nothing of the program is imported. -/
namespace Go.Proofs.Ytnllhhamebmlnaa
namespace Geo

/-- A point within the range in which no sum or product of the program wraps round. -/
def Sm (x : Int) : Prop := -4000 ≤ x ∧ x ≤ 4000

def turn (ax ay bx b_y cx cy : Int) : Int := (bx - ax) * (cy - ay) - (b_y - ay) * (cx - ax)
def btw (a x b : Int) : Bool := decide (min a b ≤ x) && decide (x ≤ max a b)
/-- The point x, y is on the line from a to b. -/
def has (ax ay bx b_y x y : Int) : Bool := (turn ax ay bx b_y x y == 0) && (btw ax x bx && btw ay y b_y)

/-- c, d is divided by the line through a, b. -/
def divides (ax ay bx b_y cx cy dx dy : Int) : Bool :=
  (decide (turn ax ay bx b_y cx cy < 0) && decide (0 < turn ax ay bx b_y dx dy)) || (decide (0 < turn ax ay bx b_y cx cy) && decide (turn ax ay bx b_y dx dy < 0))
def meets (ax ay bx b_y cx cy dx dy : Int) : Bool :=
  has ax ay bx b_y cx cy || (has ax ay bx b_y dx dy || (has cx cy dx dy ax ay || (has cx cy dx dy bx b_y || (divides ax ay bx b_y cx cy dx dy && divides cx cy dx dy ax ay bx b_y))))
/-- Two points are the same one. -/
def peq (ax ay bx b_y : Int) : Bool := decide (ax = bx) && decide (ay = b_y)
theorem peq_true {ax ay bx b_y : Int} : peq ax ay bx b_y = true ↔ ax = bx ∧ ay = b_y := by simp [peq]
theorem peq_false {ax ay bx b_y : Int} : peq ax ay bx b_y = false ↔ ¬ (ax = bx ∧ ay = b_y) := by rw [← peq_true]; simp
def clashes (ax ay bx b_y cx cy dx dy : Int) : Bool :=
  if peq ax ay cx cy = true then has ax ay bx b_y dx dy || has cx cy dx dy bx b_y
  else if peq ax ay dx dy = true then has ax ay bx b_y cx cy || has cx cy dx dy bx b_y
  else if peq bx b_y cx cy = true then has ax ay bx b_y dx dy || has cx cy dx dy ax ay
  else if peq bx b_y dx dy = true then has ax ay bx b_y cx cy || has cx cy dx dy ax ay
  else meets ax ay bx b_y cx cy dx dy

def within (x y lim : Int) : Bool := decide (-lim ≤ x) && (decide (x ≤ lim) && (decide (-lim ≤ y) && decide (y ≤ lim)))

def find (l : List (Int × Int)) (p : Int × Int) : Int := if l.idxOf p < l.length then (l.idxOf p : Int) else -1
/-- Some point stands twice in the list. -/
def twice (l : List (Int × Int)) : Bool := (List.range l.length).any fun k => (l.take k).contains (l.getD k (0, 0))

theorem mul_bound {a b : Int} {n : Nat} (h1 : -n ≤ a) (h2 : a ≤ n) (h3 : -n ≤ b) (h4 : b ≤ n) : -(n * n : Int) ≤ a * b ∧ a * b ≤ n * n := by
  have ha : a.natAbs ≤ n := by omega
  have hb : b.natAbs ≤ n := by omega
  have hm : (a * b).natAbs ≤ n * n := by rw [Int.natAbs_mul]; exact Nat.mul_le_mul ha hb
  have : ((n * n : Nat) : Int) = (n : Int) * n := by simp
  omega

theorem turn_bound {ax ay bx b_y cx cy : Int} (h1 : Sm ax) (h2 : Sm ay) (h3 : Sm bx) (h4 : Sm b_y) (h5 : Sm cx) (h6 : Sm cy) :
    (-64000000 ≤ (bx - ax) * (cy - ay) ∧ (bx - ax) * (cy - ay) ≤ 64000000) ∧ (-64000000 ≤ (b_y - ay) * (cx - ax) ∧ (b_y - ay) * (cx - ax) ≤ 64000000) := by
  unfold Sm at *
  have a := mul_bound (n := 8000) (a := bx - ax) (b := cy - ay) (by omega) (by omega) (by omega) (by omega)
  have b := mul_bound (n := 8000) (a := b_y - ay) (b := cx - ax) (by omega) (by omega) (by omega) (by omega)
  constructor <;> constructor <;> omega

def px (l : List (Int × Int)) (i : Nat) : Int := (l.getD i (0, 0)).1
def py (l : List (Int × Int)) (i : Nat) : Int := (l.getD i (0, 0)).2
def nxt (l : List (Int × Int)) (i : Nat) : Nat := (i + 1) % l.length
/-- All coordinates are small. -/
def AllSm (l : List (Int × Int)) : Prop := ∀ p ∈ l, Sm p.1 ∧ Sm p.2
theorem AllSm.x {l : List (Int × Int)} (h : AllSm l) (i : Nat) : Sm (px l i) := by
  unfold px
  rw [List.getD_eq_getElem?_getD]
  rcases Nat.lt_or_ge i l.length with hi | hi
  · rw [List.getElem?_eq_getElem hi]; exact (h _ (List.getElem_mem hi)).1
  · rw [List.getElem?_eq_none hi]; unfold Sm; simp
theorem AllSm.y {l : List (Int × Int)} (h : AllSm l) (i : Nat) : Sm (py l i) := by
  unfold py
  rw [List.getD_eq_getElem?_getD]
  rcases Nat.lt_or_ge i l.length with hi | hi
  · rw [List.getElem?_eq_getElem hi]; exact (h _ (List.getElem_mem hi)).2
  · rw [List.getElem?_eq_none hi]; unfold Sm; simp
/-- Two sides have more in common than they may. -/
def clash (l : List (Int × Int)) (i j : Nat) : Bool := clashes (px l i) (py l i) (px l (nxt l i)) (py l (nxt l i)) (px l j) (py l j) (px l (nxt l j)) (py l (nxt l j))
def crosses (l : List (Int × Int)) : Bool := (List.range l.length).any fun i => (List.range l.length).any fun j => decide (i < j) && clash l i j
def sumOf (f : Nat → Int) : List Nat → Int
  | [] => 0
  | x :: l => f x + sumOf f l
theorem sumOf_snoc (f : Nat → Int) (l : List Nat) (x : Nat) : sumOf f (l ++ [x]) = sumOf f l + f x := by
  induction l with
  | nil => simp [sumOf]
  | cons y l ih => simp only [List.cons_append, sumOf, ih]; omega
theorem sumOf_bound {f : Nat → Int} {c : Nat} (h : ∀ i, -(c : Int) ≤ f i ∧ f i ≤ c) (l : List Nat) : -((l.length * c : Nat) : Int) ≤ sumOf f l ∧ sumOf f l ≤ (l.length * c : Nat) := by
  induction l with
  | nil => simp [sumOf]
  | cons y l ih =>
    have := h y
    simp only [sumOf, List.length_cons, Nat.succ_mul]
    omega
def cross (l : List (Int × Int)) (i : Nat) : Int := px l i * py l (nxt l i) - px l (nxt l i) * py l i
theorem sm_mul {a b : Int} (ha : Sm a) (hb : Sm b) : -16000000 ≤ a * b ∧ a * b ≤ 16000000 := by
  unfold Sm at *
  have := mul_bound (n := 4000) ha.1 ha.2 hb.1 hb.2
  omega
theorem cross_bound {l : List (Int × Int)} (h : AllSm l) (i : Nat) : -((32000000 : Nat) : Int) ≤ cross l i ∧ cross l i ≤ (32000000 : Nat) := by
  have a := sm_mul (h.x i) (h.y (nxt l i))
  have b := sm_mul (h.x (nxt l i)) (h.y i)
  unfold cross
  omega
/-- Twice the area, below 0 if the plot turns right. -/
def area (l : List (Int × Int)) : Int := sumOf (cross l) (List.range l.length)

end Geo
end Go.Proofs.Ytnllhhamebmlnaa
