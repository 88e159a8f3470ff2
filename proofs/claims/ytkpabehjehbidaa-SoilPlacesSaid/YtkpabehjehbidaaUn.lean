/- Plain arithmetic: a field as the values of its units of length; what lies before a place; nothing of the program is imported. -/
import Derived.Test.YtkpabehjehbidaaFl
namespace Go.Proofs.Ytkpabehjehbidaa
namespace Fl
/-- The value of each unit of length. -/
def units : List (Int × Int) → List Int
  | [] => []
  | z :: r => List.replicate z.1.toNat z.2 ++ units r
def sumI (l : List Int) : Int := l.foldl (· + ·) 0
theorem foldl_addI (l : List Int) (a : Int) : l.foldl (· + ·) a = a + l.foldl (· + ·) 0 := by
  induction l generalizing a with
  | nil => simp
  | cons x r ih => simp only [List.foldl_cons]; rw [ih (a + x), ih (0 + x)]; omega
theorem sumI_cons (x : Int) (l : List Int) : sumI (x :: l) = x + sumI l := by
  unfold sumI; rw [List.foldl_cons, foldl_addI]; omega
theorem sumI_app (l m : List Int) : sumI (l ++ m) = sumI l + sumI m := by
  unfold sumI; rw [List.foldl_append, foldl_addI]
theorem sumI_rep (n : Nat) (v : Int) : sumI (List.replicate n v) = n * v := by
  induction n with
  | zero => simp [sumI]
  | succ n ih => rw [List.replicate_succ, sumI_cons, ih]; push_cast; rw [Int.add_mul]; omega
theorem sumI_take {l : List Int} {k : Nat} (hk : k < l.length) : sumI (l.take (k + 1)) = sumI (l.take k) + l.getD k 0 := by
  rw [List.take_succ_eq_append_getElem hk, sumI_app, List.getD_eq_getElem?_getD, List.getElem?_eq_getElem hk]
  simp [sumI]
theorem units_length {l : List (Int × Int)} (h : Ok l) : ((units l).length : Int) = len l := by
  induction l with
  | nil => rfl
  | cons z r ih =>
    have hz := h.head
    have := ih h.tail
    simp only [units, List.length_append, List.length_replicate, len]
    push_cast
    omega
theorem units_sum {l : List (Int × Int)} (h : Ok l) : sumI (units l) = tot l := by
  induction l with
  | nil => rfl
  | cons z r ih =>
    have hz := h.head
    simp only [units, tot]
    rw [sumI_app, sumI_rep, ih h.tail, Int.toNat_of_nonneg (by omega)]
theorem units_mem {l : List (Int × Int)} (h : Ok l) : ∀ v ∈ units l, 0 ≤ v ∧ v ≤ 20 := by
  induction l with
  | nil => intro v hv; simp [units] at hv
  | cons z r ih =>
    intro v hv
    simp only [units, List.mem_append, List.mem_replicate] at hv
    rcases hv with ⟨_, rfl⟩ | hv
    · have := h.head; omega
    · exact ih h.tail v hv
theorem units_at {l : List (Int × Int)} (h : Ok l) (k : Nat) : 0 ≤ (units l).getD k 0 ∧ (units l).getD k 0 ≤ 20 := by
  by_cases hk : k < (units l).length
  · rw [List.getD_eq_getElem?_getD, List.getElem?_eq_getElem hk]
    exact units_mem h _ (List.getElem_mem hk)
  · rw [List.getD_eq_getElem?_getD, List.getElem?_eq_none (by omega)]
    simp
theorem sumI_bound {l : List Int} (h : ∀ v ∈ l, 0 ≤ v ∧ v ≤ 20) : 0 ≤ sumI l ∧ sumI l ≤ 20 * l.length := by
  induction l with
  | nil => simp [sumI]
  | cons x r ih =>
    have h1 := h x (by simp)
    have h2 := ih (fun v hv => h v (by simp [hv]))
    rw [sumI_cons, List.length_cons]
    push_cast
    omega
theorem units_pre {l : List (Int × Int)} (h : Ok l) (k : Nat) : 0 ≤ sumI ((units l).take k) ∧ sumI ((units l).take k) ≤ 20 * k := by
  have := sumI_bound (l := (units l).take k) (fun v hv => units_mem h v (List.mem_of_mem_take hv))
  have h2 := List.length_take_le k (units l)
  omega

/-- What lies before a place is worth: whole units, and a part of one. -/
def before (u : List Int) (x : Rat) : Rat := (sumI (u.take x.floor.toNat) : Rat) + (u.getD x.floor.toNat 0 : Rat) * (x - (x.floor : Rat))
/-- The same, zone by zone. -/
def cum : List (Int × Int) → Rat → Rat
  | [], _ => 0
  | z :: r, x => if x < (z.1 : Rat) then x * (z.2 : Rat) else (z.1 : Rat) * (z.2 : Rat) + cum r (x - (z.1 : Rat))
theorem floor_sub (x : Rat) (n : Int) : (x - (n : Rat)).floor = x.floor - n := by
  have h1 := Rat.floor_le x
  have h2 : x - 1 < (x.floor : Rat) := Rat.lt_floor
  have h3 : ((x.floor - n : Int) : Rat) ≤ x - (n : Rat) := by rw [Rat.intCast_sub]; grind
  have h4 := (Rat.le_floor_iff).2 h3
  have h5 : x - (n : Rat) < ((x.floor - n + 1 : Int) : Rat) := by
    rw [Rat.intCast_add, Rat.intCast_sub]; grind
  have h6 := Rat.floor_le (x - (n : Rat))
  have h7 : ((x - (n : Rat)).floor : Rat) < ((x.floor - n + 1 : Int) : Rat) := by grind
  have h8 := Rat.intCast_lt_intCast.1 h7
  omega
theorem floor_nonneg {x : Rat} (h : 0 ≤ x) : 0 ≤ x.floor := by
  have : ((0 : Int) : Rat) ≤ x := h
  exact Rat.le_floor_iff.2 this
theorem before_cum {l : List (Int × Int)} (hok : Ok l) : ∀ {x : Rat}, 0 ≤ x → before (units l) x = cum l x := by
  induction l with
  | nil => intro x _; simp [before, units, cum, sumI]; grind
  | cons z r ih =>
    intro x hx
    have hz := hok.head
    have hf := floor_nonneg hx
    have f1 := Rat.floor_le x
    have f2 : x - 1 < (x.floor : Rat) := Rat.lt_floor
    simp only [units, cum]
    by_cases hlt : x < (z.1 : Rat)
    · rw [if_pos hlt]
      have hk : x.floor < z.1 := Rat.intCast_lt_intCast.1 (by grind)
      unfold before
      have e1 : (List.replicate z.1.toNat z.2 ++ units r).take x.floor.toNat = List.replicate x.floor.toNat z.2 := by
        rw [List.take_append_of_le_length (by rw [List.length_replicate]; omega), List.take_replicate, Nat.min_eq_left (by omega)]
      have e2 : (List.replicate z.1.toNat z.2 ++ units r).getD x.floor.toNat 0 = z.2 := by
        rw [List.getD_eq_getElem?_getD, List.getElem?_append_left (by rw [List.length_replicate]; omega), List.getElem?_replicate, if_pos (by omega)]
        rfl
      rw [e1, e2, sumI_rep, Int.toNat_of_nonneg hf, Rat.intCast_mul]
      grind
    · rw [if_neg hlt]
      have hge : (z.1 : Rat) ≤ x := by grind
      have hk : z.1 ≤ x.floor := Rat.le_floor_iff.2 hge
      rw [← ih hok.tail (show 0 ≤ x - (z.1 : Rat) by grind)]
      unfold before
      rw [floor_sub]
      have e0 : (x.floor - z.1).toNat = x.floor.toNat - z.1.toNat := by omega
      have e1 : (List.replicate z.1.toNat z.2 ++ units r).take x.floor.toNat = List.replicate z.1.toNat z.2 ++ (units r).take (x.floor.toNat - z.1.toNat) := by
        rw [List.take_append, List.length_replicate, List.take_of_length_le (by rw [List.length_replicate]; omega)]
      have e2 : (List.replicate z.1.toNat z.2 ++ units r).getD x.floor.toNat 0 = (units r).getD (x.floor.toNat - z.1.toNat) 0 := by
        rw [List.getD_eq_getElem?_getD, List.getElem?_append_right (by rw [List.length_replicate]; omega), List.length_replicate]
        rfl
      rw [e1, e2, e0, sumI_app, sumI_rep, Int.toNat_of_nonneg (by omega), Rat.intCast_add, Rat.intCast_mul, Rat.intCast_sub]
      grind
/-- A place, held between two others. -/
def clamp (x lo hi : Rat) : Rat := if x ≤ lo then lo else if hi ≤ x then hi else x
theorem piece_clamp {s t v : Int} (hst : s ≤ t) {a b : Rat} (hab : a ≤ b) : piece (s, t, v) a b = (clamp b s t - clamp a s t) * (v : Rat) := by
  have hst : (s : Rat) ≤ (t : Rat) := Rat.intCast_le_intCast.2 hst
  unfold piece clamp sooner later
  simp only []
  (repeat' split) <;> grind
def cumS (s : Int) : List (Int × Int) → Rat → Rat
  | [], _ => 0
  | z :: r, x => (clamp x s ((s + z.1 : Int) : Rat) - (s : Rat)) * (z.2 : Rat) + cumS (s + z.1) r x
theorem cumS_low {l : List (Int × Int)} (hok : Ok l) : ∀ {s : Int} {x : Rat}, x ≤ (s : Rat) → cumS s l x = 0 := by
  induction l with
  | nil => intro s x _; rfl
  | cons z r ih =>
    intro s x hx
    have hz := hok.head
    simp only [cumS]
    have h1 : (1 : Rat) ≤ (z.1 : Rat) := Rat.intCast_le_intCast.2 hz.1
    rw [ih hok.tail (s := s + z.1) (by rw [Rat.intCast_add]; grind)]
    unfold clamp
    rw [if_pos hx]
    grind
theorem cumS_cum {l : List (Int × Int)} (hok : Ok l) : ∀ {s : Int} {x : Rat}, (s : Rat) ≤ x → cumS s l x = cum l (x - (s : Rat)) := by
  induction l with
  | nil => intro s x _; rfl
  | cons z r ih =>
    intro s x hx
    have hz := hok.head
    have h1 : (1 : Rat) ≤ (z.1 : Rat) := Rat.intCast_le_intCast.2 hz.1
    simp only [cumS, cum]
    have e : ((s + z.1 : Int) : Rat) = (s : Rat) + (z.1 : Rat) := Rat.intCast_add _ _
    by_cases hlt : x - (s : Rat) < (z.1 : Rat)
    · rw [if_pos hlt, cumS_low hok.tail (by rw [e]; grind)]
      unfold clamp
      rw [e]
      split
      · grind
      · split <;> grind
    · rw [if_neg hlt, ih hok.tail (by rw [e]; grind)]
      have e3 : x - ((s + z.1 : Int) : Rat) = x - (s : Rat) - (z.1 : Rat) := by rw [e]; grind
      rw [e3]
      unfold clamp
      rw [e]
      split
      · grind
      · split <;> grind
theorem pieces_cum {l : List (Int × Int)} (hok : Ok l) {a b : Rat} (hab : a ≤ b) : ∀ {s : Int} {A : Rat}, ((strips s l).map fun x => piece x a b).foldl (· + ·) A = A + (cumS s l b - cumS s l a) := by
  induction l with
  | nil => intro s A; simp only [strips, cumS, List.map_nil, List.foldl_nil]; grind
  | cons z r ih =>
    intro s A
    have hz := hok.head
    simp only [strips, List.map_cons, List.foldl_cons, cumS]
    rw [ih hok.tail, piece_clamp (by omega) hab]
    grind
/-- The worth between two places is what lies before the one less what lies before the other. -/
theorem worth_before {l : List (Int × Int)} (hok : Ok l) {a b : Rat} (ha : 0 ≤ a) (hab : a ≤ b) : worth l a b = before (units l) b - before (units l) a := by
  rw [before_cum hok ha, before_cum hok (Rat.le_trans ha hab)]
  unfold worth sumR
  rw [pieces_cum hok hab, cumS_cum hok (s := 0) ha, cumS_cum hok (s := 0) (Rat.le_trans ha hab)]
  have e : ∀ x : Rat, x - ((0 : Int) : Rat) = x := fun x => by
    have : ((0 : Int) : Rat) = 0 := rfl
    rw [this]; grind
  rw [e, e]
  grind
end Fl
end Go.Proofs.Ytkpabehjehbidaa
