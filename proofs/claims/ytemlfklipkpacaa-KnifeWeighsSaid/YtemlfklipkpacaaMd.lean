import Derived.Test.YtemlfklipkpacaaMc
/- Package knife: what is known of pieces; what they are worth together. -/
namespace Go.Proofs.Ytemlfklipkpacaa
open Go.RowKit
theorem plStep_some {E : Int} {d d2 : Nat} {x : Int × Int} (h : Kn.plStep E (some d) x = some d2) : Fl.plc E x.1 x.2 1000000 = true ∧ d2 = Nat.lcm d x.2.toNat ∧ d2 ≤ 1000000 := by
  unfold Kn.plStep at h
  simp only at h
  split at h
  · rename_i h4
    cases h
    exact ⟨h4.1, rfl, h4.2⟩
  · cases h
theorem plP_some {E : Int} {d d2 : Nat} {p : Pc} (h : Kn.plP E (some d) p = some d2) (h0 : 1 ≤ d) :
    d ∣ d2 ∧ p.2.1.2.toNat ∣ d2 ∧ p.2.2.2.toNat ∣ d2 ∧ d2 ≤ 1000000 ∧ 1 ≤ d2 := by
  obtain ⟨o, x1, x2⟩ := p
  have e : Kn.plP E (some d) (o, x1, x2) = Kn.plStep E (Kn.plStep E (some d) x1) x2 := rfl
  rw [e] at h
  cases h1 : Kn.plStep E (some d) x1 with
  | none => rw [h1] at h; cases h
  | some d1 =>
    rw [h1] at h
    obtain ⟨a1, a2, a3⟩ := plStep_some h1
    obtain ⟨b1, b2, b3⟩ := plStep_some h
    have q1 : 1 ≤ x1.2.toNat := by obtain ⟨q, -, -, e2, -⟩ := Fl.plc_rat a1; have := q.den_pos; omega
    have q2 : 1 ≤ x2.2.toNat := by obtain ⟨q, -, -, e2, -⟩ := Fl.plc_rat b1; have := q.den_pos; omega
    have c1 : d ∣ d1 := by rw [a2]; exact Nat.dvd_lcm_left _ _
    have c2 : x1.2.toNat ∣ d1 := by rw [a2]; exact Nat.dvd_lcm_right _ _
    have c3 : d1 ∣ d2 := by rw [b2]; exact Nat.dvd_lcm_left _ _
    have c4 : x2.2.toNat ∣ d2 := by rw [b2]; exact Nat.dvd_lcm_right _ _
    have p1 : 0 < d1 := by rw [a2]; exact Nat.lcm_pos h0 q1
    have p2 : 0 < d2 := by rw [b2]; exact Nat.lcm_pos p1 q2
    exact ⟨Nat.dvd_trans c1 c3, Nat.dvd_trans c2 c3, c4, b3, p2⟩
theorem pl_dvd {E : Int} {ps : List Pc} : ∀ {d D : Nat}, 1 ≤ d → d ≤ 1000000 → ps.foldl (Kn.plP E) (some d) = some D →
    d ∣ D ∧ 1 ≤ D ∧ D ≤ 1000000 ∧ ∀ p ∈ ps, p.2.1.2.toNat ∣ D ∧ p.2.2.2.toNat ∣ D := by
  induction ps with
  | nil =>
    intro d D h1 h2 h
    cases h
    exact ⟨Nat.dvd_refl _, h1, h2, fun p hp => by cases hp⟩
  | cons z r ih =>
    intro d D h1 h2 h
    have h3 : r.foldl (Kn.plP E) (Kn.plP E (some d) z) = some D := h
    cases h4 : Kn.plP E (some d) z with
    | none => rw [h4, plP_fold_none] at h3; cases h3
    | some d1 =>
      rw [h4] at h3
      obtain ⟨a1, a2, a3, a4, a5⟩ := plP_some h4 h1
      obtain ⟨b1, b2, b3, b4⟩ := ih a5 a4 h3
      refine ⟨Nat.dvd_trans a1 b1, b2, b3, fun p hp => ?_⟩
      rcases List.mem_cons.1 hp with rfl | hp
      · exact ⟨Nat.dvd_trans a2 b1, Nat.dvd_trans a3 b1⟩
      · exact b4 p hp

/-- Where the piece k begins. -/
def Kn.begins (ps : List Pc) (k : Nat) : Rat := match (ps.take k).foldl Kn.jStep (some (0, 1)) with
  | some a => mkRat a.1 a.2.toNat
  | none => 0
/-- What is known of right pieces. -/
structure Kn.PcsOk (L : List Int) (V : List (List Int)) (ps : List Pc) (D : Nat) : Prop where
  ok : Kn.Ok L V
  own : Kn.okOwn V ps = true
  d1 : 1 ≤ D
  d2 : D ≤ 1000000
  zero : Kn.begins ps 0 = 0
  fin : Kn.begins ps ps.length = (Kn.stop L : Rat)
  at_ : ∀ k (h : k < ps.length), (ps[k]).2.1 = pr (Kn.begins ps k) ∧ (ps[k]).2.2 = pr (Kn.begins ps (k + 1)) ∧ 0 ≤ Kn.begins ps k ∧ Kn.begins ps k ≤ Kn.begins ps (k + 1) ∧ Kn.begins ps (k + 1) ≤ (Kn.stop L : Rat) ∧
    (Kn.begins ps k).den ∣ D ∧ (Kn.begins ps (k + 1)).den ∣ D
theorem pcode_ok {L : List Int} {V : List (List Int)} {ps : List Pc} (h : Kn.pcode L V ps = 0) : ∃ D, Kn.PcsOk L V ps D := by
  unfold Kn.pcode at h
  have hz : Kn.val L V = 0 := by
    split at h
    · exact h
    · rename_i h2; simpa using h2
  rw [if_neg (by simpa using hz)] at h
  have hb : (Kn.okOwn V ps && (Kn.okPl (Kn.stop L) ps && Kn.okJoin (Kn.stop L) ps)) = true := by
    split at h
    · assumption
    · cases h
  rw [Bool.and_eq_true, Bool.and_eq_true] at hb
  obtain ⟨h1, h2, h3⟩ := hb
  have hpl := pl_all (s := some 1) (by unfold Kn.okPl at h2; exact h2)
  unfold Kn.okPl at h2
  obtain ⟨D, hD⟩ := Option.isSome_iff_exists.1 h2
  obtain ⟨-, d1, d2, d3⟩ := pl_dvd (by omega) (by omega) hD
  unfold Kn.okJoin at h3
  have h3 := of_decide_eq_true h3
  have pre : ∀ k, ∃ a, (ps.take k).foldl Kn.jStep (some (0, 1)) = some a := fun k => by
    cases h4 : (ps.take k).foldl Kn.jStep (some (0, 1)) with
    | some a => exact ⟨a, rfl⟩
    | none =>
      rw [foldl_cut ps k, h4, jStep_fold_none] at h3
      cases h3
  refine ⟨D, ⟨Kn.val_ok.1 hz, h1, d1, d2, rfl, ?_, fun k hk => ?_⟩⟩
  · unfold Kn.begins
    rw [List.take_length, h3]
    show mkRat (Kn.stop L) ((1 : Int).toNat) = _
    rw [show (1 : Int).toNat = 1 from rfl, Rat.mkRat_one]
  · obtain ⟨a, ha⟩ := pre k
    have hs := foldl_snoc hk Kn.jStep (some (0, 1))
    rw [ha] at hs
    obtain ⟨c, hc⟩ := pre (k + 1)
    rw [hc] at hs
    have hb1 : Kn.begins ps k = mkRat a.1 a.2.toNat := by unfold Kn.begins; rw [ha]
    have hb2 : Kn.begins ps (k + 1) = mkRat c.1 c.2.toNat := by unfold Kn.begins; rw [hc]
    have hmem := List.getElem_mem hk
    obtain ⟨z1, z2⟩ := hpl _ hmem
    obtain ⟨y1, y2⟩ := d3 _ hmem
    obtain ⟨⟨o, x1, x2⟩, hz⟩ : ∃ z, z = ps[k] := ⟨_, rfl⟩
    rw [← hz] at hs z1 z2 y1 y2 ⊢
    simp only at z1 z2 y1 y2 ⊢
    unfold Kn.jStep at hs
    simp only at hs
    split at hs
    · rename_i h5
      cases hs
      obtain ⟨h5, h6⟩ := h5
      subst h5
      obtain ⟨q1, e1, f1, g1, i1, j1, -⟩ := Fl.plc_rat z1
      obtain ⟨q2, e2, f2, g2, i2, j2, -⟩ := Fl.plc_rat z2
      rw [← e1] at hb1 h6
      rw [← e2] at hb2 h6
      rw [hb1, hb2]
      have k1 : x1 = pr q1 := by rw [Prod.ext_iff]; exact ⟨f1.symm, g1.symm⟩
      have k2 : c = pr q2 := by rw [Prod.ext_iff]; exact ⟨f2.symm, g2.symm⟩
      refine ⟨k1, k2, i1, h6, j2, ?_, ?_⟩
      · rw [← g1] at y1; simpa using y1
      · rw [← g2] at y2; simpa using y2
    · cases hs

theorem cum_frac {D : Nat} {l : List (Int × Int)} : ∀ {x : Rat}, Frac D x → Frac D (Fl.cum l x) := by
  induction l with
  | nil => intro x _; exact Frac.int D 0
  | cons z r ih =>
    intro x hx
    simp only [Fl.cum]
    split
    · exact hx.mulI z.2
    · refine Frac.add ?_ (ih (hx.sub (Frac.int D z.1)))
      rw [← Rat.intCast_mul]
      exact Frac.int D _
theorem cum_mono {l : List (Int × Int)} (hok : Fl.Ok l) : ∀ {x y : Rat}, 0 ≤ x → x ≤ y → Fl.cum l x ≤ Fl.cum l y := by
  induction l with
  | nil => intro x y _ _; exact Rat.le_refl
  | cons z r ih =>
    intro x y h0 h1
    have hz := hok.head
    have r1 : (0 : Rat) ≤ (z.2 : Rat) := by exact_mod_cast hz.2.2.1
    simp only [Fl.cum]
    by_cases hy : y < (z.1 : Rat)
    · rw [if_pos hy, if_pos (by grind)]
      exact Rat.mul_le_mul_of_nonneg_right h1 r1
    · rw [if_neg hy]
      by_cases hx : x < (z.1 : Rat)
      · rw [if_pos hx]
        have h2 := Rat.mul_le_mul_of_nonneg_right (show x ≤ (z.1 : Rat) by grind) r1
        have h3 := (Fl.cum_bound hok.tail (show 0 ≤ y - (z.1 : Rat) by grind)).1
        grind
      · rw [if_neg hx]
        have h3 := ih hok.tail (show 0 ≤ x - (z.1 : Rat) by grind) (show x - (z.1 : Rat) ≤ y - (z.1 : Rat) by grind)
        grind
/-- What of the land lies between two places with a common Den. -/
theorem worth_facts {l : List (Int × Int)} (hok : Fl.Ok l) (h6 : l.length ≤ 6) {a b : Rat} {D : Nat} (h0 : 0 ≤ a) (h1 : a ≤ b) (ha : a.den ∣ D) (hb : b.den ∣ D) :
    0 ≤ Fl.worth l a b ∧ Fl.worth l a b ≤ ((2400 : Nat) : Rat) ∧ (Fl.worth l a b).den ∣ D := by
  have h2 : 0 ≤ b := Rat.le_trans h0 h1
  have hw := Fl.worth_before hok h0 h1
  rw [Fl.before_cum hok h2, Fl.before_cum hok h0] at hw
  have hm := cum_mono hok h0 h1
  have hT := Fl.tot_bound hok
  have hbb := (Fl.cum_bound hok h2).2
  have haa := (Fl.cum_bound hok h0).1
  have e : ((Fl.tot l : Int) : Rat) ≤ ((2400 : Int) : Rat) := Rat.intCast_le_intCast.2 (by omega)
  have e2 : ((2400 : Int) : Rat) = ((2400 : Nat) : Rat) := rfl
  refine ⟨by grind, by grind, ?_⟩
  rw [hw]
  exact ((cum_frac (Frac.of_den hb)).sub (cum_frac (Frac.of_den ha))).den
theorem worth_add {l : List (Int × Int)} (hok : Fl.Ok l) {a b : Rat} (h0 : 0 ≤ a) (h1 : a ≤ b) : Fl.worth l 0 b = Fl.worth l 0 a + Fl.worth l a b := by
  rw [Fl.worth_before hok Rat.le_refl (Rat.le_trans h0 h1), Fl.worth_before hok Rat.le_refl h0, Fl.worth_before hok h0 h1]
  grind
end Go.Proofs.Ytemlfklipkpacaa
