import Derived.Test.YtemlfklipkpacaaNha
/- Package knife: a field in which the values of an owner are multiplied: the knife cuts as before, and all parts are the same. -/
namespace Go.Proofs.Ytemlfklipkpacaa
open Go.RowKit
namespace Fl
def scale (b : Int) (l : List (Int × Int)) : List (Int × Int) := l.map fun z => (z.1, z.2 * b)
theorem scale_zip {b : Int} : ∀ {L R : List Int}, List.zip L (R.map (· * b)) = scale b (List.zip L R) := by
  intro L
  induction L with
  | nil => intro R; simp [scale]
  | cons x L ih =>
    intro R
    cases R with
    | nil => simp [scale]
    | cons y R =>
      have := ih (R := R)
      simp only [scale, List.map_cons, List.zip_cons_cons] at this ⊢
      rw [this]
theorem tot_scale {b : Int} {l : List (Int × Int)} : tot (scale b l) = tot l * b := by
  induction l with
  | nil => simp [scale, tot]
  | cons z r ih =>
    simp only [scale, List.map_cons, tot] at ih ⊢
    rw [ih, Int.add_mul, Int.mul_assoc]
theorem piece_scale {b s t v : Int} {a c : Rat} : piece (s, t, v * b) a c = piece (s, t, v) a c * (b : Rat) := by
  unfold piece
  simp only
  split
  · grind
  · rw [Rat.intCast_mul]; grind
theorem sumR_scale {b : Rat} {xs : List Rat} : ∀ {s : Rat}, (xs.map (· * b)).foldl (· + ·) (s * b) = xs.foldl (· + ·) s * b := by
  induction xs with
  | nil => intro s; rfl
  | cons x r ih =>
    intro s
    simp only [List.map_cons, List.foldl_cons]
    rw [show s * b + x * b = (s + x) * b by grind]
    exact ih
theorem strips_scale {b : Int} {l : List (Int × Int)} : ∀ {s : Int}, strips s (scale b l) = (strips s l).map fun x => (x.1, x.2.1, x.2.2 * b) := by
  induction l with
  | nil => intro s; rfl
  | cons z r ih =>
    intro s
    simp only [scale, List.map_cons, strips] at ih ⊢
    rw [ih]
theorem worth_scale {b : Int} {l : List (Int × Int)} {a c : Rat} : worth (scale b l) a c = worth l a c * (b : Rat) := by
  unfold worth sumR
  rw [strips_scale, List.map_map]
  have e : (List.map ((fun x => piece x a c) ∘ fun x => (x.1, x.2.1, x.2.2 * b)) (strips 0 l)) = ((strips 0 l).map fun x => piece x a c).map (· * (b : Rat)) := by
    rw [List.map_map]
    apply List.map_congr_left
    intro x _
    exact piece_scale
  rw [e]
  have := sumR_scale (b := (b : Rat)) (xs := (strips 0 l).map fun x => piece x a c) (s := 0)
  rw [show (0 : Rat) * (b : Rat) = 0 by grind] at this
  exact this
theorem placeO_scale {b : Int} (hb : 0 < b) {a : Rat} {l : List (Int × Int)} : ∀ {s : Int} {w : Rat}, placeO s a (scale b l) (w * (b : Rat)) = placeO s a l w := by
  have hbr : (0 : Rat) < (b : Rat) := by exact_mod_cast hb
  induction l with
  | nil => intro s w; rfl
  | cons z r ih =>
    intro s w
    simp only [scale, List.map_cons, placeO] at ih ⊢
    rw [piece_scale]
    have h1 : (w * (b : Rat) ≤ piece (s, s + z.1, z.2) a ((s + z.1 : Int) : Rat) * (b : Rat)) ↔ (w ≤ piece (s, s + z.1, z.2) a ((s + z.1 : Int) : Rat)) :=
      ⟨fun h => Rat.le_of_mul_le_mul_right h hbr, fun h => Rat.mul_le_mul_of_nonneg_right h (by grind)⟩
    have h2 : w * (b : Rat) / ((z.2 * b : Int) : Rat) = w / (z.2 : Rat) := by
      rw [Rat.intCast_mul, Rat.div_def, Rat.div_def, Rat.inv_mul_rev]
      have := Rat.mul_inv_cancel (b : Rat) (by grind)
      grind
    by_cases h : w ≤ piece (s, s + z.1, z.2) a ((s + z.1 : Int) : Rat)
    · rw [if_pos h, if_pos (h1.2 h), h2]
    · rw [if_neg h, if_neg (fun h3 => h (h1.1 h3))]
      rw [show w * (b : Rat) - piece (s, s + z.1, z.2) a ((s + z.1 : Int) : Rat) * (b : Rat) = (w - piece (s, s + z.1, z.2) a ((s + z.1 : Int) : Rat)) * (b : Rat) by grind]
      exact ih
theorem placeK_scale {b : Int} (hb : 0 < b) {a w : Rat} {l : List (Int × Int)} : placeK (scale b l) a (w * (b : Rat)) = placeK l a w := by
  have hbr : (0 : Rat) < (b : Rat) := by exact_mod_cast hb
  unfold placeK
  by_cases h : w = 0
  · rw [if_pos h, if_pos (by rw [h]; grind)]
  · rw [if_neg h, if_neg (fun h2 => by
      rcases Rat.mul_eq_zero.1 h2 with h3 | h3
      · exact h h3
      · grind)]
    exact placeO_scale hb
end Fl
namespace Kn
/-- The values of an owner, multiplied. -/
def weigh (V : List (List Int)) (o : Nat) (b : Int) : List (List Int) := V.set o ((V.getD o []).map (· * b))
theorem weigh_len (V : List (List Int)) (o : Nat) (b : Int) : (weigh V o b).length = V.length := by unfold weigh; rw [List.length_set]
theorem weigh_Z {L : List Int} {V : List (List Int)} {o : Nat} {b : Int} (ho : o < V.length) (q : Nat) : Z L (weigh V o b) q = if q = o then Fl.scale b (Z L V q) else Z L V q := by
  unfold Z weigh
  by_cases h : q = o
  · subst h
    rw [if_pos rfl, List.getD_eq_getElem?_getD, List.getElem?_set_self ho, Option.getD_some, Fl.scale_zip]
  · rw [if_neg h, List.getD_eq_getElem?_getD, List.getElem?_set_ne (fun e => h e.symm), ← List.getD_eq_getElem?_getD]
theorem weigh_call {L : List Int} {V : List (List Int)} {o : Nat} {b : Int} (ho : o < V.length) (hb : 0 < b) (q : Nat) (a : Rat) : callK L (weigh V o b) q a = callK L V q a := by
  unfold callK
  rw [weigh_Z ho, weigh_len]
  split
  · rw [Fl.tot_scale]
    have e : mkRat (Fl.tot (Z L V q) * b) V.length = mkRat (Fl.tot (Z L V q)) V.length * (b : Rat) := by
      rw [Rat.mkRat_eq_div, Rat.mkRat_eq_div, Rat.intCast_mul, Rat.div_def, Rat.div_def]
      grind
    rw [e, Fl.placeK_scale hb]
  · rfl
theorem weigh_divide {L : List Int} {V : List (List Int)} {o : Nat} {b : Int} (ho : o < V.length) (hb : 0 < b) : divide L (weigh V o b) = divide L V := by
  have hs : ∀ a s q, step L (weigh V o b) a s q = step L V a s q := fun a s q => by
    unfold step; rw [weigh_call ho hb]
  have hf : ∀ left a, first L (weigh V o b) left a = first L V left a := fun left a => by
    unfold first
    rw [show step L (weigh V o b) a = step L V a from funext fun s => funext fun q => hs a s q]
  have hd : ∀ f left a, divF L (weigh V o b) f left a = divF L V f left a := fun f => by
    induction f with
    | zero => intro left a; rfl
    | succ f ih =>
      intro left a
      simp only [divF]
      rw [hf, ih]
  unfold divide
  rw [weigh_len, hd]
theorem weigh_part {L : List Int} {V : List (List Int)} {o : Nat} {b : Int} (ho : o < V.length) (hb : 0 < b) (p : Pc) : partQ L (weigh V o b) p = partQ L V p := by
  have hbr : (0 : Rat) < (b : Rat) := by exact_mod_cast hb
  unfold partQ
  rw [weigh_Z ho]
  split
  · rw [Fl.worth_scale, Fl.tot_scale, Rat.intCast_mul, Rat.div_def, Rat.div_def, Rat.inv_mul_rev]
    have := Rat.mul_inv_cancel (b : Rat) (by grind)
    grind
  · rfl
theorem weigh_parts {L : List Int} {V : List (List Int)} {o : Nat} {b : Int} (ho : o < V.length) (hb : 0 < b) (ps : List Pc) : partsL L (weigh V o b) ps = partsL L V ps := by
  unfold partsL
  rw [show setP L (weigh V o b) = setP L V from funext fun s => funext fun p => by unfold setP; rw [weigh_part ho hb]]
theorem weigh_pcode {L : List Int} {V : List (List Int)} {o : Nat} {b : Int} (h1 : val L (weigh V o b) = 0) (h2 : val L V = 0) (ps : List Pc) : pcode L (weigh V o b) ps = pcode L V ps := by
  have e : okOwn (weigh V o b) ps = okOwn V ps := by
    unfold okOwn isO
    rw [weigh_len]
  unfold pcode
  rw [h1, h2, e]
/-- The knife and the parts of a field that is weighed. -/
theorem weigh_same {L : List Int} {V : List (List Int)} {o : Nat} {b : Int} (ho : o < V.length) (hb : 0 < b) (h1 : val L (weigh V o b) = 0) (h2 : val L V = 0) : knL L (weigh V o b) = knL L V ∧ ∀ ps, prL L (weigh V o b) ps = prL L V ps := by
  refine ⟨?_, fun ps => ?_⟩
  · unfold knL
    rw [h1, h2, weigh_divide ho hb]
  · unfold prL
    rw [weigh_pcode h1 h2, weigh_parts ho hb]
/-- A field that is weighed is one if no value is too great. -/
theorem weigh_ok {L : List Int} {V : List (List Int)} {o : Nat} {b : Int} (hok : Ok L V) (ho : o < V.length) (hb : 1 ≤ b) : Ok L (weigh V o b) ↔ ∀ v ∈ V.getD o [], v * b ≤ 20 := by
  have r0 := hok.rowAt ho
  constructor
  · intro h v hv
    have h1 := h.rowAt (o := o) (by rw [weigh_len]; exact ho)
    have e : (weigh V o b).getD o [] = (V.getD o []).map (· * b) := by
      unfold weigh
      rw [List.getD_eq_getElem?_getD, List.getElem?_set_self ho]; rfl
    rw [e] at h1
    exact (h1.2.1 _ (List.mem_map.2 ⟨v, hv, rfl⟩)).2
  · intro h
    refine ⟨hok.l1, hok.l6, by rw [weigh_len]; exact hok.v1, by rw [weigh_len]; exact hok.v5, hok.ln, fun r hr => ?_⟩
    unfold weigh at hr
    rcases List.mem_or_eq_of_mem_set hr with h1 | h1
    · exact hok.row r h1
    · subst h1
      refine ⟨by rw [List.length_map]; exact r0.1, fun v hv => ?_, ?_⟩
      · obtain ⟨x, hx, rfl⟩ := List.mem_map.1 hv
        exact ⟨Int.mul_nonneg (r0.2.1 x hx).1 (by omega), h x hx⟩
      · obtain ⟨x, hx, hx0⟩ := r0.2.2
        exact ⟨x * b, List.mem_map.2 ⟨x, hx, rfl⟩, Int.mul_pos hx0 (by omega)⟩
end Kn
end Go.Proofs.Ytemlfklipkpacaa
