import Derived.Test.YtmajcccdbhbkfaaBem
namespace Go.Proofs.Ytmajcccdbhbkfaa
namespace Fl
/-- Neighbors joined: what is done, the last zone, and what is to come. -/
def plainGo (A : List (Int × Int)) (y : Int × Int) : List (Int × Int) → List (Int × Int)
  | [] => A ++ [y]
  | z :: r => if y.2 = z.2 ∧ y.1 + z.1 ≤ 20 then plainGo A (y.1 + z.1, y.2) r else plainGo (A ++ [y]) z r
def plainF : List (Int × Int) → List (Int × Int)
  | [] => []
  | z :: r => plainGo [] z r
theorem units_append (f g : List (Int × Int)) : units (f ++ g) = units f ++ units g := by
  induction f with
  | nil => rfl
  | cons z r ih => simp only [List.cons_append, units, ih, List.append_assoc]
theorem ok_append {f g : List (Int × Int)} : Ok (f ++ g) ↔ Ok f ∧ Ok g := by
  unfold Ok
  constructor
  · intro h
    exact ⟨fun z hz => h z (List.mem_append_left _ hz), fun z hz => h z (List.mem_append_right _ hz)⟩
  · rintro ⟨h1, h2⟩ z hz
    rcases List.mem_append.1 hz with h | h
    · exact h1 z h
    · exact h2 z h
theorem ok_one {y : Int × Int} : Ok [y] ↔ 1 ≤ y.1 ∧ y.1 ≤ 20 ∧ 0 ≤ y.2 ∧ y.2 ≤ 20 := by
  unfold Ok
  simp
theorem plainGo_ok {r : List (Int × Int)} : ∀ {A : List (Int × Int)} {y : Int × Int}, Ok (A ++ [y]) → Ok r → Ok (plainGo A y r) := by
  induction r with
  | nil => intro A y h _; exact h
  | cons z r ih =>
    intro A y h hr
    have hz := hr.head
    obtain ⟨h1, h2⟩ := ok_append.1 h
    have hy := ok_one.1 h2
    simp only [plainGo]
    split
    · rename_i hc
      exact ih (ok_append.2 ⟨h1, ok_one.2 (by simp only []; omega)⟩) hr.tail
    · exact ih (ok_append.2 ⟨h, ok_one.2 hz⟩) hr.tail
theorem plainGo_units {r : List (Int × Int)} : ∀ {A : List (Int × Int)} {y : Int × Int}, Ok (A ++ [y]) → Ok r → units (plainGo A y r) = units (A ++ [y]) ++ units r := by
  induction r with
  | nil => intro A y _ _; simp [plainGo, units]
  | cons z r ih =>
    intro A y h hr
    have hz := hr.head
    obtain ⟨h1, h2⟩ := ok_append.1 h
    have hy := ok_one.1 h2
    simp only [plainGo]
    split
    · rename_i hc
      rw [ih (ok_append.2 ⟨h1, ok_one.2 (by simp only []; omega)⟩) hr.tail, units_append, units_append]
      simp only [units, List.append_nil, List.append_assoc]
      rw [← hc.1, show (y.1 + z.1).toNat = y.1.toNat + z.1.toNat by omega, ← List.replicate_append_replicate, List.append_assoc]
    · rw [ih (ok_append.2 ⟨h, ok_one.2 hz⟩) hr.tail, units_append (A ++ [y])]
      simp only [units, List.append_nil, List.append_assoc]
theorem plainGo_length {r : List (Int × Int)} : ∀ {A : List (Int × Int)} {y : Int × Int}, 1 ≤ (plainGo A y r).length ∧ (plainGo A y r).length ≤ A.length + 1 + r.length := by
  induction r with
  | nil => intro A y; simp [plainGo]
  | cons z r ih =>
    intro A y
    simp only [plainGo]
    split
    · have := ih (A := A) (y := (y.1 + z.1, y.2))
      simp only [List.length_cons]; omega
    · have := ih (A := A ++ [y]) (y := z)
      simp only [List.length_cons, List.length_append, List.length_nil] at this ⊢; omega
theorem plain_ok {f : List (Int × Int)} (h : validate f = 0) : validate (plainF f) = 0 ∧ units (plainF f) = units f := by
  obtain ⟨⟨h1, h6⟩, hok⟩ := validate_ok.1 h
  match f, h1 with
  | z :: r, _ =>
    have ho : Ok ([] ++ [z]) := ok_one.2 hok.head
    have hl := plainGo_length (A := []) (y := z) (r := r)
    simp only [List.length_cons, List.length_nil] at h6 hl
    refine ⟨validate_ok.2 ⟨?_, plainGo_ok ho hok.tail⟩, ?_⟩
    · show 1 ≤ (plainGo [] z r).length ∧ (plainGo [] z r).length ≤ 6
      omega
    · show units (plainGo [] z r) = _
      rw [plainGo_units ho hok.tail]
      simp [units]
/-- Whether two fields are the same. -/
def sameB (f g : List (Int × Int)) : Bool := decide (bothC f g = 0) && decide (units f = units g)
theorem sameB_no {f g : List (Int × Int)} (h : bothC f g ≠ 0) : sameB f g = false := by unfold sameB; simp [h]
theorem sameB_ok {f g : List (Int × Int)} (h : bothC f g = 0) : sameB f g = decide (units f = units g) := by unfold sameB; simp [h]
theorem same_plain {f : List (Int × Int)} (h : validate f = 0) : bothC (plainF f) f = 0 ∧ sameB (plainF f) f = true := by
  obtain ⟨h1, h2⟩ := plain_ok h
  have hb : bothC (plainF f) f = 0 := by unfold bothC; rw [if_neg (by simp [h1]), h]
  exact ⟨hb, by rw [sameB_ok hb, h2]; simp⟩
theorem same_len {f g : List (Int × Int)} (hf : Ok f) (hg : Ok g) (h : len f ≠ len g) : decide (units f = units g) = false := by
  rw [decide_eq_false_iff_not]
  intro e
  have h1 := units_length hf
  have h2 := units_length hg
  rw [e] at h1
  omega
theorem same_of {f g : List (Int × Int)} (hf : Ok f) (hg : Ok g) (hl : len f = len g) (h : ∀ o ∈ ovs (strips 0 f) (strips 0 g), o.2.1 = o.2.2) : decide (units f = units g) = true := by
  rw [decide_eq_true_eq]
  have h1 := units_length hf
  have h2 := units_length hg
  apply List.ext_getElem (by omega)
  intro i hi hi2
  obtain ⟨o, ho, e1, e2⟩ := ov_units hf hg i (by omega) (by omega)
  have := h o ho
  rw [e1, e2, List.getD_eq_getElem?_getD, List.getElem?_eq_getElem hi, List.getD_eq_getElem?_getD, List.getElem?_eq_getElem hi2] at this
  exact this
theorem same_not {f g : List (Int × Int)} (hf : Ok f) (hg : Ok g) {o : Int × Int × Int} (ho : o ∈ ovs (strips 0 f) (strips 0 g)) (h : o.2.1 ≠ o.2.2) : decide (units f = units g) = false := by
  rw [decide_eq_false_iff_not]
  intro e
  obtain ⟨i, h1, h2, e1, e2⟩ := ov_pair hf hg ho
  rw [e1, e2, e] at h
  exact h rfl
theorem plain_start {f : List (Int × Int)} (h : 1 ≤ f.length) : plainF f = plainGo [] (f.getD 0 (0, 0)) (f.drop 1) := by
  match f, h with
  | z :: r, _ => rfl
theorem plain_join {A : List (Int × Int)} {y1 y2 : Int} {f : List (Int × Int)} {k : Nat} (hk : k < f.length) {z1 : Int} (hz : f.getD k (0, 0) = (z1, y2)) (h : y1 + z1 ≤ 20) : plainGo A (y1, y2) (f.drop k) = plainGo A (y1 + z1, y2) (f.drop (k + 1)) := by
  rw [List.drop_eq_getElem_cons hk]
  have e : f[k] = (z1, y2) := by rw [List.getD_eq_getElem?_getD, List.getElem?_eq_getElem hk] at hz; exact hz
  rw [e]
  simp only [plainGo]
  rw [if_pos ⟨trivial, h⟩]
theorem plain_push {A : List (Int × Int)} {y : Int × Int} {f : List (Int × Int)} {k : Nat} (hk : k < f.length) {z : Int × Int} (hz : f.getD k (0, 0) = z) (h : ¬ (y.2 = z.2 ∧ y.1 + z.1 ≤ 20)) : plainGo A y (f.drop k) = plainGo (A ++ [y]) z (f.drop (k + 1)) := by
  rw [List.drop_eq_getElem_cons hk]
  have e : f[k] = z := by rw [List.getD_eq_getElem?_getD, List.getElem?_eq_getElem hk] at hz; exact hz
  rw [e]
  simp only [plainGo]
  rw [if_neg h]
end Fl
end Go.Proofs.Ytmajcccdbhbkfaa
