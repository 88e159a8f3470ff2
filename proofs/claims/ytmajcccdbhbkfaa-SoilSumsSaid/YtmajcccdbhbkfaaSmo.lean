import Derived.Test.YtmajcccdbhbkfaaSmn
namespace Go.Proofs.Ytmajcccdbhbkfaa
namespace Fl
theorem fu_lo {p : Bool} {z : Int × Int} {r : List (Int × Int)} (hz : 1 ≤ z.1) {k : Nat} (hk : k < z.1.toNat) : (fu p (z :: r)).getD k (0, false) = (z.2, if k = 0 then p else false) := by
  simp only [fu]
  match k with
  | 0 => rfl
  | k + 1 =>
    rw [List.cons_append, List.getD_cons_succ, List.getD_eq_getElem?_getD, List.getElem?_append_left (by rw [List.length_replicate]; omega), List.getElem?_replicate, if_pos (by omega)]
    rfl
theorem fu_hi {p : Bool} {z : Int × Int} {r : List (Int × Int)} (hz : 1 ≤ z.1) {k : Nat} (hk : z.1.toNat ≤ k) : (fu p (z :: r)).getD k (0, false) = (fu true r).getD (k - z.1.toNat) (0, false) := by
  simp only [fu]
  match k with
  | 0 => omega
  | k + 1 =>
    rw [List.cons_append, List.getD_cons_succ, List.getD_eq_getElem?_getD, List.getElem?_append_right (by rw [List.length_replicate]; omega), List.length_replicate, show k - (z.1.toNat - 1) = k + 1 - z.1.toNat by omega, ← List.getD_eq_getElem?_getD]
theorem fu_const {f : List (Int × Int)} (hf : Ok f) : ∀ {p : Bool} {k : Nat}, 1 ≤ k → k < (fu p f).length → ((fu p f).getD k (0, false)).2 = false → ((fu p f).getD k (0, false)).1 = ((fu p f).getD (k - 1) (0, false)).1 := by
  induction f with
  | nil => intro p k _ h; simp [fu] at h
  | cons z r ih =>
    intro p k h1 h2 h3
    have hz := hf.head
    by_cases e : k < z.1.toNat
    · rw [fu_lo hz.1 e, fu_lo hz.1 (by omega)]
    · have hl : k - z.1.toNat < (fu true r).length := by
        have : (fu p (z :: r)).length = z.1.toNat + (fu true r).length := by simp only [fu, List.length_append, List.length_cons, List.length_replicate]; omega
        omega
      rw [fu_hi hz.1 (by omega)] at h3 ⊢
      by_cases e2 : k = z.1.toNat
      · subst e2
        exfalso
        rw [Nat.sub_self] at h3 hl
        match r, hl with
        | y :: r, _ => simp [fu] at h3
        | [], hl => simp [fu] at hl
      · rw [fu_hi hz.1 (by omega), show k - 1 - z.1.toNat = k - z.1.toNat - 1 by omega]
        exact ih hf.tail (by omega) hl h3
theorem unitsU_const {f g : List (Int × Int)} (hf : Ok f) (hg : Ok g) {k : Nat} (h1 : 1 ≤ k) (hk : k < (unitsU f g).length) (h : ((unitsU f g).getD k (0, false)).2 = false) : ((unitsU f g).getD k (0, false)).1 = ((unitsU f g).getD (k - 1) (0, false)).1 := by
  unfold unitsU sumU at hk h ⊢
  rw [List.length_zipWith] at hk
  have e : ∀ j, j < (fu true f).length → j < (fu true g).length → (List.zipWith both (fu true f) (fu true g)).getD j (0, false) = both ((fu true f).getD j (0, false)) ((fu true g).getD j (0, false)) := by
    intro j j1 j2
    simp only [List.getD_eq_getElem?_getD, List.getElem?_zipWith, List.getElem?_eq_getElem j1, List.getElem?_eq_getElem j2]
    rfl
  rw [e k (by omega) (by omega)] at h ⊢
  rw [e (k - 1) (by omega) (by omega)]
  unfold both at h ⊢
  simp only [Bool.or_eq_false_iff] at h ⊢
  rw [fu_const hf h1 (by omega) h.1, fu_const hg h1 (by omega) h.2]
theorem getD_drop1 {U : List (Int × Bool)} (k : Nat) : (U.drop 1).getD k (0, false) = U.getD (k + 1) (0, false) := by
  rw [List.getD_eq_getElem?_getD, List.getElem?_drop, List.getD_eq_getElem?_getD, Nat.add_comm]
theorem sum_units {f g : List (Int × Int)} (hf : Ok f) (hg : Ok g) (hl : len f = len g) (h1 : 1 ≤ f.length) (h2 : 1 ≤ g.length) : units (sumF f g) = List.zipWith (· + ·) (units f) (units g) := by
  rw [sumF_go hf hg hl h1 h2, ← unitsU_map hf hg, sumGo_units (by simp)]
  · obtain ⟨v, r, e⟩ := unitsU_first hf hg h1 h2
    rw [e]
    simp [units]
  · intro k hk v b h hb
    rw [getD_drop1] at h
    rw [List.length_drop] at hk
    have := unitsU_const hf hg (k := k + 1) (by omega) (by omega) (by rw [h, hb])
    rw [h] at this
    constructor
    · intro h0; subst h0; exact this
    · intro h1
      rw [getD_drop1, show k - 1 + 1 = k + 1 - 1 by omega]
      exact this
theorem getD_zip_add (u v : List Int) (h : u.length = v.length) (i : Nat) : (List.zipWith (· + ·) u v).getD i 0 = u.getD i 0 + v.getD i 0 := by
  rw [List.getD_eq_getElem?_getD, List.getD_eq_getElem?_getD, List.getD_eq_getElem?_getD, List.getElem?_zipWith]
  by_cases hi : i < u.length
  · rw [List.getElem?_eq_getElem hi, List.getElem?_eq_getElem (by omega)]
    rfl
  · rw [List.getElem?_eq_none (by omega), List.getElem?_eq_none (by omega)]
    rfl
theorem sum_zip_add (u v : List Int) (h : u.length = v.length) (k : Nat) : sumI ((List.zipWith (· + ·) u v).take k) = sumI (u.take k) + sumI (v.take k) := by
  induction k with
  | zero => simp [sumI]
  | succ k ih =>
    rw [sumI_take_any, sumI_take_any, sumI_take_any, ih, getD_zip_add u v h]
    omega
theorem before_zip_add (u v : List Int) (h : u.length = v.length) (x : Rat) : before (List.zipWith (· + ·) u v) x = before u x + before v x := by
  unfold before
  rw [sum_zip_add u v h, getD_zip_add u v h, Rat.intCast_add, Rat.intCast_add]
  grind
/-- The code of a sum. -/
def overU (f g : List (Int × Int)) : Bool := decide (∃ i, i < (units f).length ∧ 20 < (units f).getD i 0 + (units g).getD i 0)
def sumC (f g : List (Int × Int)) : Int := if bettC f g ≠ 0 then bettC f g else if overU f g then 1 else if 6 < (sumF f g).length then 3 else 0
theorem sumC_bad {f g : List (Int × Int)} (h : bettC f g ≠ 0) : sumC f g = bettC f g := if_pos h
theorem sumC_arg {f g : List (Int × Int)} (h : bettC f g = 0) (h2 : overU f g = true) : sumC f g = 1 := by
  unfold sumC; rw [if_neg (by simp [h]), if_pos h2]
theorem sumC_large {f g : List (Int × Int)} (h : bettC f g = 0) (h2 : overU f g = false) (h3 : 6 < (sumF f g).length) : sumC f g = 3 := by
  unfold sumC; rw [if_neg (by simp [h]), if_neg (by simp [h2]), if_pos h3]
theorem sumC_ok {f g : List (Int × Int)} (h : bettC f g = 0) (h2 : overU f g = false) (h3 : ¬ 6 < (sumF f g).length) : sumC f g = 0 := by
  unfold sumC; rw [if_neg (by simp [h]), if_neg (by simp [h2]), if_neg h3]
theorem sumC_inv {f g : List (Int × Int)} (h : sumC f g = 0) : bettC f g = 0 ∧ overU f g = false ∧ (sumF f g).length ≤ 6 := by
  unfold sumC at h
  by_cases h0 : bettC f g = 0
  · rw [if_neg (by simp [h0])] at h
    cases h1 : overU f g with
    | true => rw [h1, if_pos rfl] at h; cases h
    | false =>
      rw [h1, if_neg (by simp)] at h
      by_cases h2 : 6 < (sumF f g).length
      · rw [if_pos h2] at h; cases h
      · exact ⟨h0, rfl, by omega⟩
  · rw [if_pos h0] at h; exact absurd h h0
theorem strips_short {l : List (Int × Int)} (hok : Ok l) : ∀ {s : Int} {x : Int × Int × Int}, x ∈ strips s l → x.2.1 - x.1 ≤ 20 := by
  induction l with
  | nil => intro s x hx; simp [strips] at hx
  | cons z r ih =>
    intro s x hx
    have hz := hok.head
    simp only [strips, List.mem_cons] at hx
    rcases hx with rfl | hx
    · simp only; omega
    · exact ih hok.tail hx
theorem ov_bound {f g : List (Int × Int)} (hf : Ok f) (hg : Ok g) {o : Int × Int × Int} (ho : o ∈ ovs (strips 0 f) (strips 0 g)) : 1 ≤ o.1 ∧ o.1 ≤ 20 ∧ 0 ≤ o.2.1 ∧ o.2.1 ≤ 20 ∧ 0 ≤ o.2.2 ∧ o.2.2 ≤ 20 := by
  unfold ovs at ho
  rw [List.mem_flatMap] at ho
  obtain ⟨s, hs, ho⟩ := ho
  unfold ovRow at ho
  rw [List.mem_flatMap] at ho
  obtain ⟨t, ht, ho⟩ := ho
  unfold ovZ at ho
  have ms := strips_mem hf hs
  have mt := strips_mem hg ht
  have sh := strips_short hf hs
  by_cases h : max s.1 t.1 < min s.2.1 t.2.1
  · rw [if_pos h, List.mem_singleton] at ho
    subst ho
    simp only
    omega
  · rw [if_neg h] at ho
    cases ho
theorem over_yes {f g : List (Int × Int)} (hf : Ok f) (hg : Ok g) {o : Int × Int × Int} (ho : o ∈ ovs (strips 0 f) (strips 0 g)) (h : 20 < o.2.1 + o.2.2) : overU f g = true := by
  obtain ⟨i, h1, h2, e1, e2⟩ := ov_pair hf hg ho
  have hu := units_length hf
  unfold overU
  rw [decide_eq_true_eq]
  exact ⟨i, by omega, by rw [← e1, ← e2]; exact h⟩
theorem over_no {f g : List (Int × Int)} (hf : Ok f) (hg : Ok g) (hl : len f = len g) (h : ∀ o ∈ ovs (strips 0 f) (strips 0 g), ¬ 20 < o.2.1 + o.2.2) : overU f g = false := by
  unfold overU
  rw [decide_eq_false_iff_not]
  rintro ⟨i, h1, h2⟩
  have hu := units_length hf
  obtain ⟨o, ho, e1, e2⟩ := ov_units hf hg i (by omega) (by omega)
  exact h o ho (by rw [e1, e2]; exact h2)
theorem sum_valid {f g : List (Int × Int)} (h : sumC f g = 0) : validate (sumF f g) = 0 ∧ len (sumF f g) = len f := by
  obtain ⟨hb, ho, h6⟩ := sumC_inv h
  obtain ⟨hbo, hl⟩ := bettC_inv hb
  obtain ⟨v1, v2⟩ := bothC_ok hbo
  obtain ⟨⟨f1, -⟩, hf⟩ := validate_ok.1 v1
  obtain ⟨⟨g1, -⟩, hg⟩ := validate_ok.1 v2
  have lf := len_bound hf
  have hok : Ok (sumF f g) := by
    intro z hz
    unfold sumF at hz
    rw [List.mem_map] at hz
    obtain ⟨o, hoo, rfl⟩ := hz
    have b := ov_bound hf hg hoo
    have : ¬ 20 < o.2.1 + o.2.2 := fun h => by rw [over_yes hf hg hoo h] at ho; cases ho
    unfold ovSum
    simp only
    omega
  have hu := sum_units hf hg hl f1 g1
  have h1 := units_length hok
  have h2 := units_length hf
  have h3 := units_length hg
  rw [hu, List.length_zipWith] at h1
  refine ⟨validate_ok.2 ⟨⟨?_, h6⟩, hok⟩, by omega⟩
  rw [Nat.one_le_iff_ne_zero]
  intro h0
  have e := List.length_eq_zero_iff.1 h0
  rw [e] at h1
  simp only [len] at h1
  omega
theorem sum_worth {f g : List (Int × Int)} (h : sumC f g = 0) {a b : Rat} (h0 : 0 ≤ a) (hab : a ≤ b) : worth f a b + worth g a b = worth (sumF f g) a b := by
  obtain ⟨hb, ho, h6⟩ := sumC_inv h
  obtain ⟨hbo, hl⟩ := bettC_inv hb
  obtain ⟨v1, v2⟩ := bothC_ok hbo
  obtain ⟨⟨f1, -⟩, hf⟩ := validate_ok.1 v1
  obtain ⟨⟨g1, -⟩, hg⟩ := validate_ok.1 v2
  have hlen : (units f).length = (units g).length := by
    have h2 := units_length hf
    have h3 := units_length hg
    omega
  rw [worth_before hf h0 hab, worth_before hg h0 hab, worth_before (validate_ok.1 (sum_valid h).1).2 h0 hab, sum_units hf hg hl f1 g1, before_zip_add _ _ hlen, before_zip_add _ _ hlen]
  grind
end Fl
end Go.Proofs.Ytmajcccdbhbkfaa
