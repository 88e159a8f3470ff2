import Derived.Test.YtkpabehjehbidaaB6
namespace Go.Proofs.Ytkpabehjehbidaa
namespace Fl
/-- What of a zone lies between two whole places. -/
def partZ (f t s : Int) (z : Int × Int) : List (Int × Int) := if max s f < min (s + z.1) t then [(min (s + z.1) t - max s f, z.2)] else []
/-- The zones of what lies between two whole places. -/
def partF (f t s : Int) : List (Int × Int) → List (Int × Int)
  | [] => []
  | z :: r => partZ f t s z ++ partF f t (s + z.1) r
def partW (l : List (Int × Int)) (f t : Int) : Int := if validate l ≠ 0 then validate l else if f < 0 ∨ t ≤ f ∨ len l < t then 1 else 0
theorem partW_ok {l : List (Int × Int)} {f t : Int} (h : partW l f t = 0) : validate l = 0 ∧ 0 ≤ f ∧ f < t ∧ t ≤ len l := by
  unfold partW at h
  by_cases h0 : validate l = 0
  · rw [if_neg (by simp [h0])] at h
    by_cases h1 : f < 0 ∨ t ≤ f ∨ len l < t
    · rw [if_pos h1] at h; omega
    · exact ⟨h0, by omega, by omega, by omega⟩
  · rw [if_pos h0] at h; exact absurd h h0
theorem partF_take {f t : Int} {l : List (Int × Int)} {k : Nat} (hk : k < l.length) : ∀ {s : Int}, partF f t s (l.take (k + 1)) = partF f t s (l.take k) ++ partZ f t (s + len (l.take k)) (l.getD k (0, 0)) := by
  induction l generalizing k with
  | nil => simp at hk
  | cons z r ih =>
    intro s
    cases k with
    | zero => simp [partF, len]
    | succ k =>
      have := ih (k := k) (by simpa using hk) (s := s + z.1)
      simp only [List.take_succ_cons, partF, len, List.getD_cons_succ]
      rw [this, ← List.append_assoc]
      congr 2
      omega
theorem partF_ok {f t : Int} {l : List (Int × Int)} (hok : Ok l) : ∀ {s : Int}, Ok (partF f t s l) ∧ (partF f t s l).length ≤ l.length := by
  induction l with
  | nil => intro s; exact ⟨fun z hz => by simp [partF] at hz, by simp [partF]⟩
  | cons z r ih =>
    intro s
    obtain ⟨h1, h2⟩ := ih hok.tail (s := s + z.1)
    have hz := hok.head
    unfold partF partZ
    split
    · constructor
      · intro y hy
        simp only [List.singleton_append, List.mem_cons] at hy
        rcases hy with rfl | hy
        · refine ⟨?_, ?_, hz.2.2.1, hz.2.2.2⟩ <;> simp only <;> omega
        · exact h1 y hy
      · simp; omega
    · constructor
      · intro y hy
        simp only [List.nil_append] at hy
        exact h1 y hy
      · simp; omega
theorem partF_len {f t : Int} (hft : f < t) {l : List (Int × Int)} (hok : Ok l) : ∀ {s : Int}, len (partF f t s l) = max 0 (min (s + len l) t - max s f) := by
  induction l with
  | nil => intro s; simp only [partF, len]; omega
  | cons z r ih =>
    intro s
    have h1 := ih hok.tail (s := s + z.1)
    have hz := hok.head
    have hl := (len_bound hok.tail).1
    unfold partF partZ
    split
    · simp only [List.singleton_append, len]; omega
    · simp only [List.nil_append, len]; omega
theorem piece_int {f t s zl v : Int} : piece (s, s + zl, v) (f : Rat) (t : Rat) = ((tot (partZ f t s (zl, v)) : Int) : Rat) := by
  have hL : later (f : Rat) (s : Rat) = ((max s f : Int) : Rat) := by
    unfold later
    by_cases h : f < s
    · rw [if_pos (Rat.intCast_lt_intCast.2 h)]; congr 1; omega
    · rw [if_neg (by rw [Rat.intCast_lt_intCast]; exact h)]; congr 1; omega
  have hS : sooner (t : Rat) ((s + zl : Int) : Rat) = ((min (s + zl) t : Int) : Rat) := by
    unfold sooner
    by_cases h : s + zl < t
    · rw [if_pos (Rat.intCast_lt_intCast.2 h)]; congr 1; omega
    · rw [if_neg (by rw [Rat.intCast_lt_intCast]; exact h)]; congr 1; omega
  unfold piece partZ
  simp only
  rw [hL, hS]
  by_cases h : max s f < min (s + zl) t
  · rw [if_pos h, if_neg (by rw [Rat.intCast_le_intCast]; omega), ← Rat.intCast_sub, ← Rat.intCast_mul]
    congr 1
    simp [tot]
  · rw [if_neg h, if_pos (by rw [Rat.intCast_le_intCast]; omega)]
    rfl
theorem tot_app (l m : List (Int × Int)) : tot (l ++ m) = tot l + tot m := by
  induction l with
  | nil => simp [tot]
  | cons z r ih => simp only [List.cons_append, tot, ih]; omega
theorem part_sum {f t : Int} {l : List (Int × Int)} : ∀ {s : Int} {A : Int}, ((strips s l).map fun x => piece x (f : Rat) (t : Rat)).foldl (· + ·) (A : Rat) = ((A + tot (partF f t s l) : Int) : Rat) := by
  induction l with
  | nil => intro s A; simp [strips, partF, tot]
  | cons z r ih =>
    intro s A
    simp only [strips, List.map_cons, List.foldl_cons, partF]
    rw [piece_int, ← Rat.intCast_add, ih, tot_app]
    congr 1
    show A + tot (partZ f t s z) + tot (partF f t (s + z.1) r) = _
    omega
/-- What lies between two whole places is worth as much as its zones. -/
theorem part_worth {f t : Int} {l : List (Int × Int)} : worth l (f : Rat) (t : Rat) = ((tot (partF f t 0 l) : Int) : Rat) := by
  have := part_sum (f := f) (t := t) (l := l) (s := 0) (A := 0)
  rw [Int.zero_add] at this
  exact this
theorem part_valid {l : List (Int × Int)} {f t : Int} (h : partW l f t = 0) : validate (partF f t 0 l) = 0 ∧ len (partF f t 0 l) = t - f := by
  obtain ⟨h0, h1, h2, h3⟩ := partW_ok h
  obtain ⟨⟨-, h6⟩, hok⟩ := validate_ok.1 h0
  obtain ⟨p1, p2⟩ := partF_ok hok (f := f) (t := t) (s := 0)
  have hl := partF_len h2 hok (s := 0)
  have e : len (partF f t 0 l) = t - f := by rw [hl]; omega
  refine ⟨validate_ok.2 ⟨⟨?_, by omega⟩, p1⟩, e⟩
  match hp : partF f t 0 l with
  | [] => rw [hp] at e; simp only [len] at e; omega
  | z :: r => simp
end Fl
end Go.Proofs.Ytkpabehjehbidaa
