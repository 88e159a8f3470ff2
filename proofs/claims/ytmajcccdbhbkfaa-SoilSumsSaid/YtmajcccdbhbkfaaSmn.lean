import Derived.Test.YtmajcccdbhbkfaaSmm
namespace Go.Proofs.Ytmajcccdbhbkfaa
namespace Fl
/-- The units of both fields together. -/
def unitsU (f g : List (Int × Int)) : List (Int × Bool) := sumU true true f g
theorem fu_units {p : Bool} {f : List (Int × Int)} (h : Ok f) : (fu p f).map (·.1) = units f := by
  induction f generalizing p with
  | nil => rfl
  | cons z r ih =>
    have hz := h.head
    simp only [fu, units, List.map_cons, List.map_append, List.map_replicate, List.cons_append]
    rw [ih h.tail, ← List.cons_append, ← List.replicate_succ, show z.1.toNat - 1 + 1 = z.1.toNat by omega]
theorem fu_length {p : Bool} {f : List (Int × Int)} (h : Ok f) : ((fu p f).length : Int) = len f := by
  rw [← units_length h, ← fu_units (p := p) h, List.length_map]
/-- Whether a zone begins at a unit. -/
def bords (f : List (Int × Int)) : List Bool := (fu true f).map (·.2)
theorem bords_take {f : List (Int × Int)} {k : Nat} (hk : k < f.length) : bords (f.take (k + 1)) = bords (f.take k) ++ (true :: List.replicate ((f.getD k (0, 0)).1.toNat - 1) false) := by
  unfold bords
  induction f generalizing k with
  | nil => simp at hk
  | cons z r ih =>
    match k with
    | 0 => simp [fu]
    | k + 1 =>
      have := ih (k := k) (by simpa using hk)
      simp only [List.take_succ_cons, fu, List.map_append, List.map_cons, List.map_replicate, List.getD_cons_succ] at this ⊢
      rw [this]
      simp
theorem bords_length {f : List (Int × Int)} (h : Ok f) : ((bords f).length : Int) = len f := by
  unfold bords; rw [List.length_map]; exact fu_length h
theorem unitsU_length {f g : List (Int × Int)} (hf : Ok f) (hg : Ok g) (hl : len f = len g) : (unitsU f g).length = (units f).length := by
  have h1 := fu_length (p := true) hf
  have h2 := fu_length (p := true) hg
  have h3 := units_length hf
  unfold unitsU sumU
  rw [List.length_zipWith]
  omega
theorem unitsU_at {f g : List (Int × Int)} (hf : Ok f) (hg : Ok g) (hl : len f = len g) {i : Nat} (hi : i < (units f).length) : (unitsU f g).getD i (0, false) = ((units f).getD i 0 + (units g).getD i 0, (bords f).getD i false || (bords g).getD i false) := by
  have h1 := fu_length (p := true) hf
  have h2 := fu_length (p := true) hg
  have h3 := units_length hf
  have l1 : i < (fu true f).length := by omega
  have l2 : i < (fu true g).length := by omega
  unfold unitsU sumU bords
  rw [← fu_units (p := true) hf, ← fu_units (p := true) hg]
  simp only [List.getD_eq_getElem?_getD, List.getElem?_zipWith, List.getElem?_map, List.getElem?_eq_getElem l1, List.getElem?_eq_getElem l2]
  rfl
theorem unitsU_map {f g : List (Int × Int)} (hf : Ok f) (hg : Ok g) : (unitsU f g).map (·.1) = List.zipWith (· + ·) (units f) (units g) := by
  unfold unitsU sumU
  rw [← fu_units (p := true) hf, ← fu_units (p := true) hg, List.map_zipWith, List.zipWith_map]
  rfl
theorem unitsU_first {f g : List (Int × Int)} (hf : Ok f) (hg : Ok g) (h1 : 1 ≤ f.length) (h2 : 1 ≤ g.length) : ∃ v r, unitsU f g = (v, true) :: r := by
  match f, g, h1, h2 with
  | z :: f, y :: g, _, _ => exact ⟨_, _, rfl⟩
/-- The zones of the sum, unit by unit. -/
theorem sumF_go {f g : List (Int × Int)} (hf : Ok f) (hg : Ok g) (hl : len f = len g) (h1 : 1 ≤ f.length) (h2 : 1 ≤ g.length) : sumF f g = sumGo [] (1, ((unitsU f g).getD 0 (0, false)).1) ((unitsU f g).drop 1) := by
  obtain ⟨v, r, e⟩ := unitsU_first hf hg h1 h2
  have := sum_merge (f.length + g.length) (f := f) (g := g) (s := 0) (p := true) (q := true) (A := []) (y0 := (0, 0)) (Nat.le_refl _) hf hg hl rfl
  unfold unitsU at e
  rw [e] at this
  simp only [sumGo, if_true, List.nil_append, List.cons_append, List.nil_append] at this
  unfold unitsU
  rw [e]
  show sumF f g = sumGo [] (1, v) r
  -- one zone of nothing ahead
  have hpre : ∀ (r : List (Int × Bool)) (A : List (Int × Int)) (y z : Int × Int), sumGo (z :: A) y r = z :: sumGo A y r := by
    intro r
    induction r with
    | nil => intro A y z; rfl
    | cons u r ih =>
      intro A y z
      simp only [sumGo]
      split
      · rw [← ih]; rfl
      · rw [ih]
  rw [hpre] at this
  exact ((List.cons.inj this).2).symm
theorem sumGo_push {A : List (Int × Int)} {y : Int × Int} {U : List (Int × Bool)} {k : Nat} (hk : k < U.length) {v : Int} (h : U.getD k (0, false) = (v, true)) : sumGo A y (U.drop k) = sumGo (A ++ [y]) (1, v) (U.drop (k + 1)) := by
  rw [List.drop_eq_getElem_cons hk]
  have e : U[k] = (v, true) := by rw [List.getD_eq_getElem?_getD, List.getElem?_eq_getElem hk] at h; exact h
  rw [e]
  rfl
theorem sumGo_more {A : List (Int × Int)} {y : Int × Int} {U : List (Int × Bool)} {k : Nat} (hk : k < U.length) {v : Int} (h : U.getD k (0, false) = (v, false)) : sumGo A y (U.drop k) = sumGo A (y.1 + 1, y.2) (U.drop (k + 1)) := by
  rw [List.drop_eq_getElem_cons hk]
  have e : U[k] = (v, false) := by rw [List.getD_eq_getElem?_getD, List.getElem?_eq_getElem hk] at h; exact h
  rw [e]
  rfl
/-- The zones hold all units. -/
theorem sumGo_units {U : List (Int × Bool)} : ∀ {A : List (Int × Int)} {y : Int × Int}, 0 ≤ y.1 → (∀ k, k < U.length → ∀ v b, U.getD k (0, false) = (v, b) → b = false → ((k = 0 → v = y.2) ∧ (1 ≤ k → v = (U.getD (k - 1) (0, false)).1))) → units (sumGo A y U) = units (A ++ [y]) ++ U.map (·.1) := by
  induction U with
  | nil => intro A y _ _; simp [sumGo]
  | cons u r ih =>
    intro A y hy hU
    have hr : ∀ k, k < r.length → ∀ v b, r.getD k (0, false) = (v, b) → b = false → ((k = 0 → v = u.1) ∧ (1 ≤ k → v = (r.getD (k - 1) (0, false)).1)) := by
      intro k hk v b h hb
      have := (hU (k + 1) (by simpa using hk) v b (by simpa using h) hb).2 (by omega)
      constructor
      · intro h0; subst h0; simpa using this
      · intro h1
        rw [show k + 1 - 1 = (k - 1) + 1 by omega] at this
        simpa using this
    simp only [sumGo]
    by_cases hb : u.2 = true
    · rw [if_pos hb, ih (by simp) hr, units_append (A ++ [y])]
      simp [units]
    · rw [if_neg hb]
      have hv := (hU 0 (by simp) u.1 u.2 rfl (by simpa using hb)).1 rfl
      rw [ih (by simp only; omega) (by
        intro k hk v b h hb2
        have := hr k hk v b h hb2
        exact ⟨fun h0 => by rw [this.1 h0, hv], this.2⟩), units_append, units_append]
      simp only [units, List.append_nil, List.append_assoc, List.map_cons]
      rw [show (y.1 + 1).toNat = y.1.toNat + 1 by omega, List.replicate_succ', List.append_assoc, hv]
      rfl
end Fl
end Go.Proofs.Ytmajcccdbhbkfaa
