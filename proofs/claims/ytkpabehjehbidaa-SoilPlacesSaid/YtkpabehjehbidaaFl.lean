/- Plain arithmetic of fields: fractions and lists of zones; nothing of the program is imported. -/
namespace Go.Proofs.Ytkpabehjehbidaa
namespace Fl

/-- A zone: its length and its value. -/
def okZ (z : Int × Int) : Bool := decide (1 ≤ z.1) && (decide (z.1 ≤ 20) && (decide (0 ≤ z.2) && decide (z.2 ≤ 20)))
def validate (f : List (Int × Int)) : Int := if f.length < 1 ∨ 6 < f.length then 3 else if f.all okZ then 0 else 1
def len : List (Int × Int) → Int
  | [] => 0
  | z :: r => z.1 + len r
def tot : List (Int × Int) → Int
  | [] => 0
  | z :: r => z.1 * z.2 + tot r
def strips (s : Int) : List (Int × Int) → List (Int × Int × Int)
  | [] => []
  | z :: r => (s, s + z.1, z.2) :: strips (s + z.1) r
def later (a b : Rat) : Rat := if a < b then b else a
def sooner (a b : Rat) : Rat := if b < a then b else a
def cmpR (a b : Rat) : Int := if a < b then -1 else if b < a then 1 else 0
/-- What a strip is worth between two places. -/
def piece (x : Int × Int × Int) (a b : Rat) : Rat :=
  if sooner b (x.2.1 : Rat) ≤ later a (x.1 : Rat) then 0 else (sooner b (x.2.1 : Rat) - later a (x.1 : Rat)) * (x.2.2 : Rat)
def sumR (l : List Rat) : Rat := l.foldl (· + ·) 0
def worth (f : List (Int × Int)) (a b : Rat) : Rat := sumR ((strips 0 f).map fun x => piece x a b)

theorem okZ_iff {z : Int × Int} : okZ z = true ↔ 1 ≤ z.1 ∧ z.1 ≤ 20 ∧ 0 ≤ z.2 ∧ z.2 ≤ 20 := by
  simp [okZ]
def Ok (f : List (Int × Int)) : Prop := ∀ z ∈ f, 1 ≤ z.1 ∧ z.1 ≤ 20 ∧ 0 ≤ z.2 ∧ z.2 ≤ 20
theorem Ok.tail {z : Int × Int} {f : List (Int × Int)} (h : Ok (z :: f)) : Ok f := fun y hy => h y (by simp [hy])
theorem Ok.head {z : Int × Int} {f : List (Int × Int)} (h : Ok (z :: f)) : 1 ≤ z.1 ∧ z.1 ≤ 20 ∧ 0 ≤ z.2 ∧ z.2 ≤ 20 := h z (by simp)
theorem validate_ok {f : List (Int × Int)} : validate f = 0 ↔ (1 ≤ f.length ∧ f.length ≤ 6) ∧ Ok f := by
  unfold validate Ok
  split
  · constructor
    · intro h; simp at h
    · rintro ⟨⟨h1, h2⟩, h3⟩; omega
  · split
    · rename_i h1 h2
      simp only [List.all_eq_true, okZ_iff] at h2
      exact ⟨fun _ => ⟨by omega, h2⟩, fun _ => rfl⟩
    · rename_i h1 h2
      simp only [List.all_eq_true, okZ_iff] at h2
      constructor
      · intro h; simp at h
      · rintro ⟨h3, h4⟩; exact absurd h4 h2
theorem len_bound {f : List (Int × Int)} (h : Ok f) : (f.length : Int) ≤ len f ∧ len f ≤ 20 * f.length := by
  induction f with
  | nil => simp [len]
  | cons z r ih =>
    have := ih h.tail
    have hz := h.head
    simp only [len, List.length_cons]
    push_cast
    omega
theorem tot_bound {f : List (Int × Int)} (h : Ok f) : 0 ≤ tot f ∧ tot f ≤ 400 * f.length := by
  induction f with
  | nil => simp [tot]
  | cons z r ih =>
    have := ih h.tail
    have hz := h.head
    simp only [tot, List.length_cons]
    have h1 : 0 ≤ z.1 * z.2 := Int.mul_nonneg (by omega) (by omega)
    have h2 : z.1 * z.2 ≤ 20 * 20 := Int.mul_le_mul (by omega) (by omega) (by omega) (by omega)
    push_cast
    omega

/-- Two fractions that can be added without a number that is too large. -/
def Add2 (x y : Rat) : Prop := 0 ≤ x ∧ 0 ≤ y ∧ x ≤ 3000 ∧ y ≤ 3000 ∧ x.den * y.den ≤ 100000000000000

theorem num_le {x : Rat} {n : Nat} (h : x ≤ (n : Rat)) : x.num ≤ n * x.den := by
  have := (Rat.le_iff x (n : Rat)).mp h
  simpa using this
theorem num_nonneg {x : Rat} (h : 0 ≤ x) : 0 ≤ x.num := Rat.num_nonneg.mpr h
theorem den_sub_le (x y : Rat) : (x - y).den ≤ x.den * y.den := by
  rw [Rat.sub_def', Rat.den_mkRat]
  split
  · exact Nat.mul_pos x.den_pos y.den_pos
  · exact Nat.div_le_self _ _
theorem den_add_le (x y : Rat) : (x + y).den ≤ x.den * y.den := by
  rw [Rat.add_def', Rat.den_mkRat]
  split
  · exact Nat.mul_pos x.den_pos y.den_pos
  · exact Nat.div_le_self _ _
theorem den_mul_int_le (x : Rat) (n : Int) : (x * (n : Rat)).den ≤ x.den := by
  rw [Rat.mul_def', Rat.den_mkRat]
  have := x.den_pos
  split
  · exact this
  · exact Nat.le_trans (Nat.div_le_self _ _) (by simp)
theorem den_add_int_le (x : Rat) (n : Int) : (x + (n : Rat)).den ≤ x.den := by
  have := den_add_le x (n : Rat); simpa using this

theorem later_eq (a b : Rat) : later a b = max a b := by unfold later; grind
theorem sooner_eq (a b : Rat) : sooner a b = min a b := by unfold sooner; grind

/-- The sums of the beginnings of a list can be made. -/
def Adds (A : Rat) : List Rat → Prop
  | [] => True
  | x :: r => Add2 A x ∧ Adds (A + x) r
theorem Adds.at {l : List Rat} {A : Rat} (h : Adds A l) (k : Nat) (hk : k < l.length) : Add2 ((l.take k).foldl (· + ·) A) l[k] := by
  induction l generalizing A k with
  | nil => simp at hk
  | cons x r ih =>
    cases k with
    | zero => exact h.1
    | succ k => simpa using ih h.2 k (by simpa using hk)
theorem sumR_step (l : List Rat) (k : Nat) (hk : k < l.length) : sumR (l.take (k + 1)) = sumR (l.take k) + l[k] := by
  unfold sumR
  rw [List.take_succ_eq_append_getElem hk, List.foldl_append]
  rfl

def Pre (a b : Rat) (s : Int) (A : Rat) : Prop :=
  0 ≤ A ∧ ((s : Rat) ≤ a → A = 0) ∧ ((s : Rat) ≤ b → A.den ≤ a.den) ∧ A.den ≤ a.den * b.den ∧ A ≤ ((20 * s : Int) : Rat)

theorem piece_pre {a b : Rat} {s l v : Int} {A : Rat} (h1 : 1 ≤ l) (h2 : l ≤ 20) (h3 : 0 ≤ v) (h4 : v ≤ 20) (hs : 0 ≤ s) (hl : s + l ≤ 140) (hA : Pre a b s A)
    (hd : a.den * b.den ≤ 100000000000000) : Add2 A (piece (s, s + l, v) a b) ∧ Pre a b (s + l) (A + piece (s, s + l, v) a b) := by
  obtain ⟨p1, p2, p3, p4, p5⟩ := hA
  have da := a.den_pos
  have db := b.den_pos
  have r1 : (1 : Rat) ≤ (l : Rat) := by exact_mod_cast h1
  have r2 : (l : Rat) ≤ 20 := by exact_mod_cast h2
  have r3 : (0 : Rat) ≤ (v : Rat) := by exact_mod_cast h3
  have r4 : (v : Rat) ≤ 20 := by exact_mod_cast h4
  have r5 : (s : Rat) + (l : Rat) ≤ 140 := by exact_mod_cast hl
  have r6 : (0 : Rat) ≤ (s : Rat) := by exact_mod_cast hs
  have e1 : ((s + l : Int) : Rat) = (s : Rat) + (l : Rat) := Rat.intCast_add s l
  have e2 : ((20 * s : Int) : Rat) = 20 * (s : Rat) := by rw [Rat.intCast_mul]; rfl
  have e3 : ((20 * (s + l) : Int) : Rat) = 20 * ((s : Rat) + (l : Rat)) := by rw [Rat.intCast_mul, e1]; rfl
  rw [e2] at p5
  unfold Pre Add2
  rw [e3]
  by_cases hle : sooner b ((s + l : Int) : Rat) ≤ later a (s : Rat)
  · have hp : piece (s, s + l, v) a b = 0 := by unfold piece; simp only [hle, if_true]
    rw [hp, Rat.add_zero]
    refine ⟨⟨p1, by grind, by grind, by grind, by rw [Rat.zero_den]; omega⟩, p1, fun h => p2 (by grind), fun h => p3 (by grind), p4, by grind⟩
  · have hp : piece (s, s + l, v) a b = (sooner b ((s + l : Int) : Rat) - later a (s : Rat)) * (v : Rat) := by unfold piece; simp only [hle, if_false]
    obtain ⟨hi, hhi⟩ : ∃ x, x = sooner b ((s + l : Int) : Rat) := ⟨_, rfl⟩
    obtain ⟨lo, hlo⟩ : ∃ x, x = later a (s : Rat) := ⟨_, rfl⟩
    rw [← hhi, ← hlo] at hle hp
    have q1 : lo < hi := by grind
    have q2 : hi ≤ (s : Rat) + (l : Rat) := by rw [hhi, sooner_eq]; grind
    have q3 : (s : Rat) ≤ lo := by rw [hlo, later_eq]; grind
    have q4 : hi ≤ b := by rw [hhi, sooner_eq]; grind
    have q5 : a ≤ lo := by rw [hlo, later_eq]; grind
    have m1 : 0 ≤ (hi - lo) * (v : Rat) := Rat.mul_nonneg (by grind) r3
    have m2 : (hi - lo) * (v : Rat) ≤ 20 * (l : Rat) := by
      have := Rat.mul_le_mul_of_nonneg_left r4 (c := hi - lo) (by grind)
      grind
    have d1 : ((hi - lo) * (v : Rat)).den ≤ hi.den * lo.den := Nat.le_trans (den_mul_int_le _ _) (den_sub_le _ _)
    have d2 : hi.den ≤ b.den := by
      rw [hhi]; unfold sooner; split
      · exact db
      · exact Nat.le_refl _
    have d3 : lo.den ≤ a.den := by
      rw [hlo]; unfold later; split
      · exact da
      · exact Nat.le_refl _
    have d4 : (s : Rat) + (l : Rat) ≤ b → hi.den = 1 := by
      intro h
      have : hi = ((s + l : Int) : Rat) := by rw [hhi, sooner_eq]; grind
      rw [this]; rfl
    have d5 : a < (s : Rat) → lo.den = 1 := by
      intro h
      have : lo = ((s : Int) : Rat) := by rw [hlo, later_eq]; grind
      rw [this]; rfl
    have dd : hi.den * lo.den ≤ a.den * b.den := by
      rw [Nat.mul_comm a.den]; exact Nat.mul_le_mul d2 d3
    rw [hp]
    by_cases hsa : (s : Rat) ≤ a
    · have hA0 := p2 hsa
      subst hA0
      rw [Rat.zero_add]
      refine ⟨⟨p1, m1, by grind, by grind, by rw [Rat.zero_den]; omega⟩, m1, fun h => by grind, fun h => ?_, by omega, by grind⟩
      rw [e1] at h
      have := d4 h
      rw [this, Nat.one_mul] at d1
      omega
    · have hsb : (s : Rat) ≤ b := by grind
      have hAd := p3 hsb
      have hl1 := d5 (by grind)
      rw [hl1, Nat.mul_one] at d1
      have hm : A.den * ((hi - lo) * (v : Rat)).den ≤ a.den * b.den := Nat.mul_le_mul hAd (by omega)
      refine ⟨⟨p1, m1, by grind, by grind, by omega⟩, Rat.add_nonneg p1 m1, fun h => by grind, fun h => ?_, Nat.le_trans (den_add_le _ _) hm, by grind⟩
      rw [e1] at h
      have := d4 h
      rw [this] at d1
      have hd := den_add_le A ((hi - lo) * (v : Rat))
      have : A.den * ((hi - lo) * (v : Rat)).den ≤ A.den * 1 := Nat.mul_le_mul_left _ d1
      omega

theorem adds_strips {a b : Rat} (hd : a.den * b.den ≤ 100000000000000) {f : List (Int × Int)} : ∀ {s : Int} {A : Rat}, Ok f → 0 ≤ s → s + len f ≤ 140 → Pre a b s A →
    Adds A ((strips s f).map fun x => piece x a b) ∧ Pre a b (s + len f) (((strips s f).map fun x => piece x a b).foldl (· + ·) A) := by
  induction f with
  | nil => intro s A _ _ _ h; simpa [strips, Adds, len] using h
  | cons z r ih =>
    intro s A hok hs hl hA
    have hz := hok.head
    have hlr := (len_bound hok.tail).1
    simp only [len] at hl
    have := piece_pre (v := z.2) hz.1 hz.2.1 hz.2.2.1 hz.2.2.2 hs (by omega) hA hd
    have h2 := ih hok.tail (s := s + z.1) (by omega) (by omega) this.2
    simp only [strips, List.map_cons, Adds, List.foldl_cons, len]
    refine ⟨⟨this.1, h2.1⟩, ?_⟩
    have e : s + (z.1 + len r) = s + z.1 + len r := by omega
    rw [e]
    exact h2.2

theorem pre_zero (a b : Rat) : Pre a b 0 0 :=
  ⟨by decide, fun _ => rfl, fun _ => a.den_pos, Nat.mul_pos a.den_pos b.den_pos, by decide⟩
theorem worth_adds {a b : Rat} (hd : a.den * b.den ≤ 100000000000000) {f : List (Int × Int)} (hf : Ok f) (h6 : f.length ≤ 6) :
    Adds 0 ((strips 0 f).map fun x => piece x a b) ∧ Pre a b (len f) (worth f a b) := by
  have := adds_strips hd (s := 0) (A := 0) hf (Int.le_refl _) (by have := (len_bound hf).2; omega) (pre_zero a b)
  simpa [worth, sumR] using this
end Fl
end Go.Proofs.Ytkpabehjehbidaa
