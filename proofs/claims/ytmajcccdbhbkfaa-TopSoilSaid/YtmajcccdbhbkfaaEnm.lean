import Derived.Test.YtmajcccdbhbkfaaChu
namespace Go.Proofs.Ytmajcccdbhbkfaa
namespace Fl
theorem len_append (l m : List (Int × Int)) : len (l ++ m) = len l + len m := by
  induction l with
  | nil => simp [len]
  | cons z r ih => simp only [List.cons_append, len, ih]; omega
theorem tot_append (l m : List (Int × Int)) : tot (l ++ m) = tot l + tot m := by
  induction l with
  | nil => simp [tot]
  | cons z r ih => simp only [List.cons_append, tot, ih]; omega
theorem len_reverse (l : List (Int × Int)) : len l.reverse = len l := by
  induction l with
  | nil => rfl
  | cons z r ih => rw [List.reverse_cons, len_append, ih]; simp only [len]; omega
theorem tot_reverse (l : List (Int × Int)) : tot l.reverse = tot l := by
  induction l with
  | nil => rfl
  | cons z r ih => rw [List.reverse_cons, tot_append, ih]; simp only [tot]; omega
theorem ok_reverse {l : List (Int × Int)} (h : Ok l) : Ok l.reverse := fun z hz => h z (List.mem_reverse.1 hz)
theorem validate_reverse (l : List (Int × Int)) : validate l.reverse = validate l := by
  unfold validate
  rw [List.length_reverse, List.all_reverse]
theorem cum_append {l m : List (Int × Int)} (hok : Ok l) : ∀ {x : Rat}, 0 ≤ x → cum (l ++ m) x = if x < (len l : Rat) then cum l x else (tot l : Rat) + cum m (x - (len l : Rat)) := by
  induction l with
  | nil =>
    intro x h0
    have e : ((len [] : Int) : Rat) = 0 := rfl
    have e2 : ((tot [] : Int) : Rat) = 0 := rfl
    rw [e, e2, if_neg (by grind), List.nil_append]
    have : x - 0 = x := by grind
    rw [this]; grind
  | cons z r ih =>
    intro x h0
    have hz := hok.head
    have r2 : (1 : Rat) ≤ (z.1 : Rat) := Rat.intCast_le_intCast.2 hz.1
    have el : ((len (z :: r) : Int) : Rat) = (z.1 : Rat) + ((len r : Int) : Rat) := by rw [← Rat.intCast_add]; rfl
    have et : ((tot (z :: r) : Int) : Rat) = (z.1 : Rat) * (z.2 : Rat) + ((tot r : Int) : Rat) := by rw [← Rat.intCast_mul, ← Rat.intCast_add]; rfl
    have hl0 : (0 : Rat) ≤ ((len r : Int) : Rat) := by exact_mod_cast (show (0 : Int) ≤ len r by have := (len_bound hok.tail).1; omega)
    rw [el, et]
    simp only [List.cons_append, cum]
    by_cases hx : x < (z.1 : Rat)
    · rw [if_pos hx, if_pos hx, if_pos (by grind)]
    · rw [if_neg hx, if_neg hx, ih hok.tail (by grind)]
      by_cases h2 : x - (z.1 : Rat) < ((len r : Int) : Rat)
      · rw [if_pos h2, if_pos (by grind)]
      · rw [if_neg h2, if_neg (by grind)]
        have : x - (z.1 : Rat) - ((len r : Int) : Rat) = x - ((z.1 : Rat) + ((len r : Int) : Rat)) := by grind
        rw [this]; grind
theorem cum_rev {l : List (Int × Int)} (hok : Ok l) : ∀ {x : Rat}, 0 ≤ x → x ≤ (len l : Rat) → cum l.reverse x = (tot l : Rat) - cum l ((len l : Rat) - x) := by
  induction l with
  | nil =>
    intro x h0 h1
    simp only [List.reverse_nil, cum, tot]
    have e2 : ((0 : Int) : Rat) = 0 := rfl
    rw [e2]; grind
  | cons z r ih =>
    intro x h0 h1
    have hz := hok.head
    have r2 : (1 : Rat) ≤ (z.1 : Rat) := Rat.intCast_le_intCast.2 hz.1
    have el : ((len (z :: r) : Int) : Rat) = (z.1 : Rat) + ((len r : Int) : Rat) := by rw [← Rat.intCast_add]; rfl
    have et : ((tot (z :: r) : Int) : Rat) = (z.1 : Rat) * (z.2 : Rat) + ((tot r : Int) : Rat) := by rw [← Rat.intCast_mul, ← Rat.intCast_add]; rfl
    rw [el] at h1 ⊢
    rw [et, List.reverse_cons, cum_append (ok_reverse hok.tail) h0, len_reverse, tot_reverse]
    have c0 := cum_zero hok.tail
    by_cases h2 : x < ((len r : Int) : Rat)
    · rw [if_pos h2, ih hok.tail h0 (by grind)]
      simp only [cum]
      rw [if_neg (by grind)]
      have : (z.1 : Rat) + ((len r : Int) : Rat) - x - (z.1 : Rat) = ((len r : Int) : Rat) - x := by grind
      rw [this]; grind
    · rw [if_neg h2]
      simp only [cum]
      by_cases h3 : x - ((len r : Int) : Rat) < (z.1 : Rat)
      · rw [if_pos h3]
        by_cases h4 : (z.1 : Rat) + ((len r : Int) : Rat) - x < (z.1 : Rat)
        · rw [if_pos h4]; grind
        · rw [if_neg h4]
          have e : x = ((len r : Int) : Rat) := by grind
          have : (z.1 : Rat) + ((len r : Int) : Rat) - x - (z.1 : Rat) = 0 := by grind
          rw [this, c0, e]; grind
      · rw [if_neg h3, if_pos (by grind)]
        have : (z.1 : Rat) + ((len r : Int) : Rat) - x = 0 := by grind
        rw [this]; grind
theorem worth_rev {l : List (Int × Int)} (hok : Ok l) {a b : Rat} (h0 : 0 ≤ a) (h1 : a ≤ b) (h2 : b ≤ (len l : Rat)) : worth l.reverse ((len l : Rat) - b) ((len l : Rat) - a) = worth l a b := by
  rw [worth_before (ok_reverse hok) (by grind) (by grind), worth_before hok h0 h1, before_cum (ok_reverse hok) (by grind), before_cum (ok_reverse hok) (by grind), before_cum hok h0, before_cum hok (by grind), cum_rev hok (by grind) (by grind), cum_rev hok (by grind) (by grind)]
  have e1 : (len l : Rat) - ((len l : Rat) - b) = b := by grind
  have e2 : (len l : Rat) - ((len l : Rat) - a) = a := by grind
  rw [e1, e2]; grind
theorem chain_iff {l : List (Int × Int)} : ∀ {ps : List Int} {qs : List Rat} {a : Rat}, ps.length = qs.length → (chainB l a ps qs = true ↔ ∀ k, k < ps.length → ¬ (qs.getD k 0 < (a :: qs).getD k 0) ∧ worth l ((a :: qs).getD k 0) (qs.getD k 0) = ((ps.getD k 0 : Int) : Rat)) := by
  intro ps
  induction ps with
  | nil => intro qs a _; simp [chainB]
  | cons p r ih =>
    intro qs a hl
    match qs, hl with
    | q :: t, hl =>
      rw [chain_next, Bool.and_eq_true, ih (by simpa using hl)]
      constructor
      · rintro ⟨h1, h2⟩ k hk
        match k with
        | 0 => simpa using h1
        | k + 1 => simpa using h2 k (by simpa using hk)
      · intro h
        refine ⟨by simpa using h 0 (by simp), fun k hk => ?_⟩
        simpa using h (k + 1) (by simpa using hk)
theorem sumI_reverse (ps : List Int) : sumI ps.reverse = sumI ps := by
  induction ps with
  | nil => rfl
  | cons x r ih => rw [List.reverse_cons, sumI_app, ih, sumI_cons, sumI_cons]; simp [sumI]; omega
theorem partsC_reverse {l : List (Int × Int)} {ps : List Int} (h : partsC l ps = 0) : partsC l.reverse ps.reverse = 0 := by
  obtain ⟨h0, h1, h2, h3, h4⟩ := partsC_ok h
  unfold partsC
  rw [validate_reverse, if_neg (by simp [h0]), List.length_reverse, if_neg (by omega), List.all_reverse, tot_reverse, sumI_reverse, if_pos, if_pos h4]
  rw [List.all_eq_true]
  exact fun p hp => okP_iff.2 (h3 p hp)
theorem getD_rev {ps : List Int} {k : Nat} (hk : k < ps.length) : ps.reverse.getD k 0 = ps.getD (ps.length - 1 - k) 0 := by
  rw [List.getD_eq_getElem?_getD, List.getD_eq_getElem?_getD, List.getElem?_reverse hk]
/-- The cuts of the turned field are the same, seen from the other end. -/
theorem cuts_reverse {l : List (Int × Int)} {ps : List Int} (hpos : ∀ z ∈ l, 1 ≤ z.2) (h : partsC l ps = 0) : cutsOf l.reverse ps.reverse = (cutsOf l ps).reverse.map fun q => (len l : Rat) - q := by
  obtain ⟨h0, h1, h2, h3, h4⟩ := partsC_ok h
  obtain ⟨⟨-, h6⟩, hok⟩ := validate_ok.1 h0
  obtain ⟨-, k2, k3, k4⟩ := cutsOf_ok h
  obtain ⟨c, hc⟩ : ∃ c, c = cutsOf l ps := ⟨_, rfl⟩
  rw [← hc] at k2 k3 k4 ⊢
  obtain ⟨n, hn⟩ : ∃ n, n = ps.length := ⟨_, rfl⟩
  have hcl : c.length + 1 = n := by omega
  have hL : (len l : Rat) ≤ (len l : Rat) := Rat.le_refl
  have hlen : (0 : Rat) ≤ (len l : Rat) := by exact_mod_cast (show (0 : Int) ≤ len l by have := (len_bound hok).1; omega)
  rw [chain_iff (by simp; omega)] at k3
  -- all places, from the first one to the last one
  obtain ⟨T, hT⟩ : ∃ T : Nat → Rat, T = fun k => (0 :: (c ++ [(len l : Rat)])).getD k 0 := ⟨_, rfl⟩
  have hT1 : ∀ k, (c ++ [(len l : Rat)]).getD k 0 = T (k + 1) := fun k => by rw [hT]; rfl
  have hT2 : ∀ k, (0 :: (c ++ [(len l : Rat)])).getD k 0 = T k := fun k => by rw [hT]
  simp only [hT1, hT2, ← hn] at k3
  have hb : ∀ k, k ≤ n → 0 ≤ T k ∧ T k ≤ (len l : Rat) := by
    intro k hk
    rw [hT]
    match k with
    | 0 => exact ⟨Rat.le_refl, hlen⟩
    | k + 1 =>
      show 0 ≤ (c ++ [(len l : Rat)]).getD k 0 ∧ (c ++ [(len l : Rat)]).getD k 0 ≤ _
      rw [List.getD_eq_getElem?_getD]
      by_cases e : k < c.length
      · rw [List.getElem?_append_left e, List.getElem?_eq_getElem e]
        have := k2 c[k] (List.getElem_mem e)
        exact ⟨this.1, this.2.1⟩
      · have : k = c.length := by omega
        rw [this, List.getElem?_append_right (Nat.le_refl _)]
        simp [hlen]
  -- the other places
  have hu : ∀ k, k ≤ n → (0 :: (c.reverse.map (fun q => (len l : Rat) - q) ++ [(len l : Rat)])).getD k 0 = (len l : Rat) - T (n - k) := by
    intro k hk
    match k with
    | 0 =>
      rw [hT]
      show (0 : Rat) = (len l : Rat) - (0 :: (c ++ [(len l : Rat)])).getD (n - 0) 0
      rw [show n - 0 = c.length + 1 by omega]
      show (0 : Rat) = (len l : Rat) - (c ++ [(len l : Rat)]).getD c.length 0
      rw [List.getD_eq_getElem?_getD, List.getElem?_append_right (Nat.le_refl _)]
      simp
      grind
    | k + 1 =>
      show (c.reverse.map (fun q => (len l : Rat) - q) ++ [(len l : Rat)]).getD k 0 = _
      rw [List.getD_eq_getElem?_getD]
      by_cases e : k < c.length
      · rw [List.getElem?_append_left (by simpa using e), List.getElem?_map, List.getElem?_reverse e, List.getElem?_eq_getElem (by omega)]
        have : n - (k + 1) = (c.length - 1 - k) + 1 := by omega
        rw [this, ← hT1, List.getD_eq_getElem?_getD, List.getElem?_append_left (by omega), List.getElem?_eq_getElem (by omega)]
        rfl
      · have e2 : k = c.length := by omega
        rw [e2, List.getElem?_append_right (by simp)]
        have : n - (c.length + 1) = 0 := by omega
        rw [this, hT]
        simp
        grind
  have hu1 : ∀ k, k < n → (c.reverse.map (fun q => (len l : Rat) - q) ++ [(len l : Rat)]).getD k 0 = (len l : Rat) - T (n - (k + 1)) := fun k hk => hu (k + 1) (by omega)
  have hchain : chainB l.reverse 0 ps.reverse (c.reverse.map (fun q => (len l : Rat) - q) ++ [(len l.reverse : Rat)]) = true := by
    rw [len_reverse, chain_iff (by simp; omega)]
    intro k hk
    rw [List.length_reverse, ← hn] at hk
    rw [hu k (by omega), hu1 k hk, getD_rev (by omega), ← hn]
    obtain ⟨g1, g2⟩ := k3 (n - 1 - k) (by omega)
    have e1 : n - 1 - k + 1 = n - k := by omega
    have e2 : n - (k + 1) = n - 1 - k := by omega
    rw [e1] at g1 g2
    rw [e2]
    have b1 := hb (n - 1 - k) (by omega)
    have b2 := hb (n - k) (by omega)
    refine ⟨by grind, ?_⟩
    rw [worth_rev hok b1.1 (by grind) b2.2, g2]
  have hpr := partsC_reverse h
  obtain ⟨p0, p1, p2, p3, p4⟩ := partsC_ok hpr
  match hps : ps.reverse, p1 with
  | p :: r, _ =>
    rw [hps] at hchain p3 p4 hpr
    have hrl : r.length + 1 = n := by
      have := congrArg List.length hps
      rw [List.length_reverse, List.length_cons] at this
      omega
    have := chain_unique (ok_reverse hok) (by rw [List.length_reverse]; exact h6) (fun z hz => hpos z (List.mem_reverse.1 hz)) (qs := c.reverse.map fun q => (len l : Rat) - q) (cutAt_zero (ok_reverse hok)) p3 (by rw [p4]; omega)
      (fun q hq => by
        simp only [List.mem_map, List.mem_reverse] at hq
        obtain ⟨x, hx, rfl⟩ := hq
        have := k2 x hx
        refine ⟨by grind, by rw [len_reverse]; grind, ?_⟩
        have hd := den_sub_le (len l : Rat) x
        rw [Rat.den_intCast] at hd
        omega) (by simp; omega) hchain
    rw [this]
    unfold cutsOf
    simp only [List.length_cons, Nat.add_sub_cancel, ← List.map_take]
end Fl
end Go.Proofs.Ytmajcccdbhbkfaa
