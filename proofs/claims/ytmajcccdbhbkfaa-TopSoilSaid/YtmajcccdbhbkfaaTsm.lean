import Derived.Test.YtmajcccdbhbkfaaEnm
namespace Go.Proofs.Ytmajcccdbhbkfaa
namespace Fl
/-- All places of the cuts, from the first one on. -/
def placesOf (l : List (Int × Int)) (ps : List Int) : List Rat := cutsOf l ps ++ [(len l : Rat)]
theorem places_length {l : List (Int × Int)} {ps : List Int} (h : partsC l ps = 0) : (placesOf l ps).length = ps.length := by
  have h1 := (partsC_ok h).2.1
  have h2 := (cutsOf_ok h).2.2.2
  unfold placesOf
  rw [List.length_append, h2]
  simp only [List.length_cons, List.length_nil]
  omega
theorem places_mem {l : List (Int × Int)} {ps : List Int} (h : partsC l ps = 0) : ∀ q ∈ 0 :: placesOf l ps, 0 ≤ q ∧ q ≤ (len l : Rat) ∧ q.den ≤ 20 := by
  obtain ⟨-, k2, -, -⟩ := cutsOf_ok h
  have hok := (validate_ok.1 (partsC_ok h).1).2
  have hlen : (0 : Rat) ≤ (len l : Rat) := by exact_mod_cast (show (0 : Int) ≤ len l by have := (len_bound hok).1; omega)
  intro q hq
  unfold placesOf at hq
  rw [List.mem_cons, List.mem_append] at hq
  rcases hq with rfl | hq | hq
  · exact ⟨Rat.le_refl, hlen, by decide⟩
  · exact k2 q hq
  · rw [List.mem_singleton] at hq
    subst hq
    exact ⟨hlen, Rat.le_refl, by rw [Rat.den_intCast]; decide⟩
theorem places_at {l : List (Int × Int)} {ps : List Int} (h : partsC l ps = 0) {k : Nat} (hk : k ≤ ps.length) :
    0 ≤ (0 :: placesOf l ps).getD k 0 ∧ (0 :: placesOf l ps).getD k 0 ≤ (len l : Rat) ∧ ((0 :: placesOf l ps).getD k 0).den ≤ 20 := by
  have hl : k < (0 :: placesOf l ps).length := by rw [List.length_cons, places_length h]; omega
  have := places_mem h _ (List.getElem_mem hl)
  rwa [List.getD_eq_getElem?_getD, List.getElem?_eq_getElem hl]
/-- Each piece has the worth that was asked. -/
theorem places_worth {l : List (Int × Int)} {ps : List Int} (h : partsC l ps = 0) {k : Nat} (hk : k < ps.length) :
    (0 :: placesOf l ps).getD k 0 ≤ (placesOf l ps).getD k 0 ∧ worth l ((0 :: placesOf l ps).getD k 0) ((placesOf l ps).getD k 0) = ((ps.getD k 0 : Int) : Rat) := by
  obtain ⟨-, -, k3, -⟩ := cutsOf_ok h
  have := (chain_iff (places_length h).symm).1 k3 k hk
  exact ⟨Rat.not_lt.1 this.1, this.2⟩
theorem plc_of {L : Int} {q : Rat} {most : Int} (h0 : 0 ≤ q) (h1 : q ≤ (L : Rat)) (hd : (q.den : Int) ≤ most) : plc L q.num q.den most = true := by
  unfold plc
  rw [amt_of_rat h0 hd, mk_self, Bool.true_and]
  exact decide_eq_true h1
theorem wcode_places {l : List (Int × Int)} (h : validate l = 0) {a b : Rat} (h0 : 0 ≤ a) (h1 : a ≤ (len l : Rat)) (h2 : 0 ≤ b) (h3 : b ≤ (len l : Rat)) (hab : a ≤ b) (ha : (a.den : Int) ≤ 1000) (hb : (b.den : Int) ≤ 1000) : wcode l a.num a.den b.num b.den = 0 := by
  apply wcode_ok h
  rw [plc_of h0 h1 ha, plc_of h2 h3 hb, mk_self, mk_self, Bool.true_and, Bool.true_and]
  exact decide_eq_true hab
/-- Seen from the other end, the cuts are accepted. -/
theorem chain_rev {l : List (Int × Int)} {ps : List Int} (h : partsC l ps = 0) : chainB l.reverse 0 ps.reverse ((cutsOf l ps).reverse.map (fun q => (len l : Rat) - q) ++ [(len l.reverse : Rat)]) = true := by
  obtain ⟨h0, h1, h2, h3, h4⟩ := partsC_ok h
  obtain ⟨⟨-, h6⟩, hok⟩ := validate_ok.1 h0
  obtain ⟨-, k2, k3, k4⟩ := cutsOf_ok h
  obtain ⟨c, hc⟩ : ∃ c, c = cutsOf l ps := ⟨_, rfl⟩
  rw [← hc] at k2 k3 k4 ⊢
  obtain ⟨n, hn⟩ : ∃ n, n = ps.length := ⟨_, rfl⟩
  have hcl : c.length + 1 = n := by omega
  have hlen : (0 : Rat) ≤ (len l : Rat) := by exact_mod_cast (show (0 : Int) ≤ len l by have := (len_bound hok).1; omega)
  rw [chain_iff (by simp; omega)] at k3
  obtain ⟨T, hT⟩ : ∃ T : Nat → Rat, T = fun k => (0 :: (c ++ [(len l : Rat)])).getD k 0 := ⟨_, rfl⟩
  have hT1 : ∀ k, (c ++ [(len l : Rat)]).getD k 0 = T (k + 1) := fun k => by rw [hT]; rfl
  have hT2 : ∀ k, (0 :: (c ++ [(len l : Rat)])).getD k 0 = T k := fun k => by rw [hT]
  simp only [hT1, hT2, ← hn] at k3
  have hb : ∀ k, k ≤ n → 0 ≤ T k ∧ T k ≤ (len l : Rat) := by
    intro k hk
    have := places_at h (k := k) (by omega)
    unfold placesOf at this
    rw [← hc, hT2] at this
    exact ⟨this.1, this.2.1⟩
  have hu : ∀ k, k ≤ n → (0 :: (c.reverse.map (fun q => (len l : Rat) - q) ++ [(len l : Rat)])).getD k 0 = (len l : Rat) - T (n - k) := by
    intro k hk
    match k with
    | 0 =>
      rw [hT]
      show (0 : Rat) = (len l : Rat) - (0 :: (c ++ [(len l : Rat)])).getD (n - 0) 0
      rw [show n - 0 = c.length + 1 by omega]
      show (0 : Rat) = (len l : Rat) - (c ++ [(len l : Rat)]).getD c.length 0
      rw [List.getD_eq_getElem?_getD, List.getElem?_append_right (Nat.le_refl _)]
      simp
      grind
    | k + 1 =>
      show (c.reverse.map (fun q => (len l : Rat) - q) ++ [(len l : Rat)]).getD k 0 = _
      rw [List.getD_eq_getElem?_getD]
      by_cases e : k < c.length
      · rw [List.getElem?_append_left (by simpa using e), List.getElem?_map, List.getElem?_reverse e, List.getElem?_eq_getElem (by omega)]
        have : n - (k + 1) = (c.length - 1 - k) + 1 := by omega
        rw [this, ← hT1, List.getD_eq_getElem?_getD, List.getElem?_append_left (by omega), List.getElem?_eq_getElem (by omega)]
        rfl
      · have e2 : k = c.length := by omega
        rw [e2, List.getElem?_append_right (by simp)]
        have : n - (c.length + 1) = 0 := by omega
        rw [this, hT]
        simp
        grind
  have hu1 : ∀ k, k < n → (c.reverse.map (fun q => (len l : Rat) - q) ++ [(len l : Rat)]).getD k 0 = (len l : Rat) - T (n - (k + 1)) := fun k hk => hu (k + 1) (by omega)
  rw [len_reverse, chain_iff (by simp; omega)]
  intro k hk
  rw [List.length_reverse, ← hn] at hk
  rw [hu k (by omega), hu1 k hk, getD_rev (by omega), ← hn]
  obtain ⟨g1, g2⟩ := k3 (n - 1 - k) (by omega)
  have e1 : n - 1 - k + 1 = n - k := by omega
  have e2 : n - (k + 1) = n - 1 - k := by omega
  rw [e1] at g1 g2
  rw [e2]
  have b1 := hb (n - 1 - k) (by omega)
  have b2 := hb (n - k) (by omega)
  refine ⟨by grind, ?_⟩
  rw [worth_rev hok b1.1 (by grind) b2.2, g2]
/-- The cuts of the turned field, seen from this end. -/
def mirrored (l : List (Int × Int)) (ps : List Int) : List Rat := (cutsOf l.reverse ps.reverse).reverse.map fun q => (len l : Rat) - q
theorem rt_pr (q : Rat) : rt (pr q) = q := by
  unfold rt pr
  exact mk_self q
theorem mirrored_ok {l : List (Int × Int)} {ps : List Int} (h : partsC l ps = 0) : checkC l ps ((mirrored l ps).map pr) = 0 := by
  have hr := partsC_reverse h
  obtain ⟨h0, h1, h2, h3, h4⟩ := partsC_ok h
  obtain ⟨⟨-, h6⟩, hok⟩ := validate_ok.1 h0
  obtain ⟨-, k2, -, k4⟩ := cutsOf_ok hr
  have hl : (mirrored l ps).length = ps.length - 1 := by
    unfold mirrored
    rw [List.length_map, List.length_reverse, k4, List.length_reverse]
  have hc := chain_rev hr
  rw [List.reverse_reverse, List.reverse_reverse, len_reverse] at hc
  have hm : ((mirrored l ps).map pr).map rt = mirrored l ps := by
    rw [List.map_map]
    conv => rhs; rw [← List.map_id (mirrored l ps)]
    exact List.map_congr_left fun q _ => rt_pr q
  have hp : ∀ c ∈ (mirrored l ps).map pr, plc (len l) c.1 c.2 1000000 = true := by
    intro c hc
    rw [List.mem_map] at hc
    obtain ⟨q, hq, rfl⟩ := hc
    unfold mirrored at hq
    rw [List.mem_map] at hq
    obtain ⟨x, hx, rfl⟩ := hq
    have := k2 x (List.mem_reverse.1 hx)
    rw [len_reverse] at this
    have hd := den_sub_le (len l : Rat) x
    rw [Rat.den_intCast] at hd
    exact plc_of (by grind) (by grind) (by omega)
  rw [checkC_ok h (by rw [List.length_map, hl]) hp, hm]
  unfold mirrored
  rw [hc]
  rfl
end Fl
end Go.Proofs.Ytmajcccdbhbkfaa
