import Derived.Test.YtemlfklipkpacaaMd
/- Package knife: pieces that follow one another over a common Den are right; the parts; the cut with the same part for both. -/
namespace Go.Proofs.Ytemlfklipkpacaa
open Go.RowKit

theorem plc_of {E : Int} {q : Rat} (h0 : 0 ≤ q) (h1 : q ≤ (E : Rat)) (hd : q.den ≤ 1000000) : Fl.plc E (pr q).1 (pr q).2 1000000 = true := by
  have hp := q.den_pos
  unfold Fl.plc
  rw [Bool.and_eq_true]
  refine ⟨Fl.amt_iff.2 ⟨Rat.num_nonneg.2 h0, ?_, ?_, ?_⟩, ?_⟩
  · show (1 : Int) ≤ (q.den : Int); omega
  · show (q.den : Int) ≤ 1000000; omega
  · show Nat.gcd q.num.natAbs ((q.den : Int)).natAbs = 1
    rw [Int.natAbs_natCast]; exact q.reduced
  · rw [decide_eq_true_iff]
    show mkRat q.num ((q.den : Int)).toNat ≤ (E : Rat)
    rw [Int.toNat_natCast, Rat.mkRat_self]; exact h1
theorem pr_rat (q : Rat) : mkRat (pr q).1 (pr q).2.toNat = q := by
  show mkRat q.num ((q.den : Int)).toNat = q
  rw [Int.toNat_natCast, Rat.mkRat_self]

/-- Pieces that follow one another from a place to the end, over a common Den. -/
def Kn.chained (E : Int) (D : Nat) : Rat → List Pc → Prop
  | a, [] => a = (E : Rat)
  | a, p :: r => p.2.1 = pr a ∧ 0 ≤ a ∧ a.den ∣ D ∧ ∃ b : Rat, p.2.2 = pr b ∧ a ≤ b ∧ b ≤ (E : Rat) ∧ b.den ∣ D ∧ Kn.chained E D b r
theorem plStep_of {E : Int} {D d : Nat} (hD1 : 1 ≤ D) (hD : D ≤ 1000000) {x : Rat} (hd : d ∣ D) (h0 : 0 ≤ x) (h1 : x ≤ (E : Rat)) (hx : x.den ∣ D) :
    Kn.plStep E (some d) (pr x) = some (Nat.lcm d x.den) ∧ Nat.lcm d x.den ∣ D := by
  have hl : Nat.lcm d x.den ∣ D := Nat.lcm_dvd hd hx
  have h2 := Nat.le_of_dvd (by omega) hl
  have h3 := Nat.le_of_dvd (by omega) hx
  refine ⟨?_, hl⟩
  have e : (pr x).2.toNat = x.den := Int.toNat_natCast _
  unfold Kn.plStep
  simp only
  rw [e, if_pos ⟨plc_of h0 h1 (by omega), by omega⟩]
theorem chained_pl {E : Int} {D : Nat} (hD1 : 1 ≤ D) (hD : D ≤ 1000000) {ps : List Pc} : ∀ {a : Rat} {d : Nat}, d ∣ D → Kn.chained E D a ps → (ps.foldl (Kn.plP E) (some d)).isSome = true := by
  induction ps with
  | nil => intro a d _ _; rfl
  | cons p r ih =>
    intro a d hd h
    obtain ⟨h1, h2, h3, b, h4, h5, h6, h7, h8⟩ := h
    obtain ⟨s1, s2⟩ := plStep_of hD1 hD hd h2 (Rat.le_trans h5 h6) h3
    obtain ⟨s3, s4⟩ := plStep_of hD1 hD s2 (Rat.le_trans h2 h5) h6 h7
    have e : Kn.plP E (some d) p = some (Nat.lcm (Nat.lcm d a.den) b.den) := by
      show Kn.plStep E (Kn.plStep E (some d) p.2.1) p.2.2 = _
      rw [h1, h4, s1, s3]
    show (r.foldl (Kn.plP E) (Kn.plP E (some d) p)).isSome = true
    rw [e]
    exact ih s4 h8
theorem chained_join {E : Int} {D : Nat} {ps : List Pc} : ∀ {a : Rat}, Kn.chained E D a ps → ps.foldl Kn.jStep (some (pr a)) = some (E, 1) := by
  induction ps with
  | nil => intro a h; rw [show a = (E : Rat) from h]; rfl
  | cons p r ih =>
    intro a h
    obtain ⟨h1, h2, h3, b, h4, h5, h6, h7, h8⟩ := h
    have e : Kn.jStep (some (pr a)) p = some (pr b) := by
      unfold Kn.jStep
      simp only
      rw [h1, h4, if_pos ⟨rfl, by rw [pr_rat, pr_rat]; exact h5⟩]
    show r.foldl Kn.jStep (Kn.jStep (some (pr a)) p) = _
    rw [e]
    exact ih h8
theorem pcode_mk {L : List Int} {V : List (List Int)} {ps : List Pc} {D : Nat} (hok : Kn.Ok L V) (hown : Kn.okOwn V ps = true) (h1 : 1 ≤ D) (h2 : D ≤ 1000000) (h : Kn.chained (Kn.stop L) D 0 ps) : Kn.pcode L V ps = 0 := by
  unfold Kn.pcode
  rw [if_neg (by rw [Kn.val_ok.2 hok]; simp), hown]
  have e1 : Kn.okPl (Kn.stop L) ps = true := chained_pl h1 h2 (d := 1) (Nat.one_dvd _) h
  have e2 : Kn.okJoin (Kn.stop L) ps = true := by
    unfold Kn.okJoin
    rw [decide_eq_true_iff]
    exact chained_join h
  rw [e1, e2]; rfl

/-- The part that an owner has with his piece. -/
def Kn.partQ (L : List Int) (V : List (List Int)) (p : Pc) : Rat := Fl.worth (Kn.Z L V p.1.toNat) (mkRat p.2.1.1 p.2.1.2.toNat) (mkRat p.2.2.1 p.2.2.2.toNat) / (Fl.tot (Kn.Z L V p.1.toNat) : Rat)
def Kn.setP (L : List Int) (V : List (List Int)) (s : List (Int × Int)) (p : Pc) : List (Int × Int) := s.set p.1.toNat (pr (Kn.partQ L V p))
/-- The parts of all. -/
def Kn.partsL (L : List Int) (V : List (List Int)) (ps : List Pc) : List (Int × Int) := ps.foldl (Kn.setP L V) (List.replicate ps.length (0, 0))
theorem partsF_len {L : List Int} {V : List (List Int)} {ps : List Pc} : ∀ {s : List (Int × Int)}, (ps.foldl (Kn.setP L V) s).length = s.length := by
  induction ps with
  | nil => intro s; rfl
  | cons p r ih =>
    intro s
    show (r.foldl (Kn.setP L V) (Kn.setP L V s p)).length = _
    rw [ih]
    unfold Kn.setP
    rw [List.length_set]
theorem partsL_len {L : List Int} {V : List (List Int)} {ps : List Pc} : (Kn.partsL L V ps).length = ps.length := by
  unfold Kn.partsL
  rw [partsF_len, List.length_replicate]

/-- From 0, strip to strip is unit to unit. -/
theorem placeO_reachF {V : Int} {l : List (Int × Int)} (hok : OkW V l) : ∀ {s S : Int} {w : Rat}, 0 ≤ s → 0 < w → Fl.placeO s 0 l w = Fl.reachF S s (Fl.units l) ((S : Rat) + w) := by
  induction l with
  | nil => intro s S w _ _; rfl
  | cons z r ih =>
    intro s S w hs hw
    have hz := hok z (by simp)
    obtain ⟨zl, v⟩ := z
    have en : ((zl.toNat : Nat) : Int) = zl := Int.toNat_of_nonneg (by omega)
    have hs0 : (0 : Rat) ≤ (s : Rat) := by exact_mod_cast hs
    simp only [Fl.placeO, Fl.units]
    rw [piece_zero hs hz.1, Fl.reach_zone v hz.2.2.1 (Fl.units r) _ zl.toNat S s (by grind), en]
    have e : ((S + zl * v : Int) : Rat) = (S : Rat) + ((zl * v : Int) : Rat) := Rat.intCast_add _ _
    have hls : Fl.later 0 (s : Rat) = (s : Rat) := by rw [Fl.later_eq]; grind
    rw [e]
    by_cases h : w ≤ ((zl * v : Int) : Rat)
    · rw [if_pos h, if_pos (by grind), hls, show (S : Rat) + w - (S : Rat) = w by grind]
    · rw [if_neg h, if_neg (by grind), ih (S := S + zl * v) (fun x hx => hok x (by simp [hx])) (by omega) (by grind), e]
      congr 1
      grind
theorem cum_zeroW {V : Int} {l : List (Int × Int)} (hok : OkW V l) : Fl.cum l 0 = 0 := by
  cases l with
  | nil => rfl
  | cons z r =>
    have hz := hok z (by simp)
    have z1 : (1 : Rat) ≤ (z.1 : Rat) := by exact_mod_cast hz.1
    simp only [Fl.cum]
    rw [if_pos (by grind)]
    grind
theorem placeO_cum {V : Int} {l : List (Int × Int)} (hok : OkW V l) : ∀ {s : Int} {w q : Rat}, 0 ≤ s → 0 < w → Fl.placeO s 0 l w = some q → (s : Rat) ≤ q ∧ Fl.cum l (q - (s : Rat)) = w := by
  induction l with
  | nil => intro s w q _ _ h; cases h
  | cons z r ih =>
    intro s w q hs hw h
    have hz := hok z (by simp)
    have hr : OkW V r := fun x hx => hok x (by simp [hx])
    have hs0 : (0 : Rat) ≤ (s : Rat) := by exact_mod_cast hs
    have z1 : (1 : Rat) ≤ (z.1 : Rat) := by exact_mod_cast hz.1
    have v0 : (0 : Rat) ≤ (z.2 : Rat) := by exact_mod_cast hz.2.2.1
    have hls : Fl.later 0 (s : Rat) = (s : Rat) := by rw [Fl.later_eq]; grind
    simp only [Fl.placeO] at h
    rw [piece_zero hs hz.1, hls] at h
    have em : ((z.1 * z.2 : Int) : Rat) = (z.1 : Rat) * (z.2 : Rat) := Rat.intCast_mul _ _
    rw [em] at h
    simp only [Fl.cum]
    split at h
    · rename_i hle
      simp only [Option.some.injEq] at h
      have hv : (0 : Rat) < (z.2 : Rat) := by
        rcases Classical.em ((z.2 : Rat) = 0) with h0 | h0
        · rw [h0] at hle; grind
        · grind
      have hqv : w / (z.2 : Rat) * (z.2 : Rat) = w := Rat.div_mul_cancel (by grind)
      obtain ⟨x, hx⟩ : ∃ x, x = w / (z.2 : Rat) := ⟨_, rfl⟩
      rw [← hx] at h hqv
      have hx0 : 0 ≤ x := by
        rcases Classical.em (0 ≤ x) with h0 | h0
        · exact h0
        · have := Rat.mul_le_mul_of_nonneg_right (show x ≤ 0 by grind) v0
          grind
      have eqs : q - (s : Rat) = x := by rw [← h]; grind
      rw [eqs]
      refine ⟨by rw [← h]; grind, ?_⟩
      split
      · exact hqv
      · rename_i hnl
        have h2 := Rat.mul_le_mul_of_nonneg_right (show (z.1 : Rat) ≤ x by grind) v0
        have h3 : (z.1 : Rat) * (z.2 : Rat) = x * (z.2 : Rat) := by grind
        have h4 : x = (z.1 : Rat) := by
          have h5 : (x - (z.1 : Rat)) * (z.2 : Rat) = 0 := by grind
          rcases Rat.mul_eq_zero.1 h5 with h6 | h6
          · grind
          · grind
        rw [h4, show (z.1 : Rat) - (z.1 : Rat) = 0 by grind, cum_zeroW hr]
        grind
    · rename_i hle
      have e1 : ((s + z.1 : Int) : Rat) = (s : Rat) + (z.1 : Rat) := Rat.intCast_add _ _
      obtain ⟨i1, i2⟩ := ih hr (by omega) (by grind) h
      rw [e1] at i1 i2
      refine ⟨by grind, ?_⟩
      rw [if_neg (by grind), show q - (s : Rat) - (z.1 : Rat) = q - ((s : Rat) + (z.1 : Rat)) by grind, i2]
      grind
theorem cum_both {A B : Int} : ∀ {L P Q : List Int} {x : Rat}, P.length = L.length → Q.length = L.length → Fl.cum (List.zip L (List.zipWith (fun x y => x * B + y * A) P Q)) x = Fl.cum (List.zip L P) x * (B : Rat) + Fl.cum (List.zip L Q) x * (A : Rat) := by
  intro L
  induction L with
  | nil => intro P Q x _ _; simp [Fl.cum]; grind
  | cons y L ih =>
    intro P Q x h1 h2
    cases P with
    | nil => simp at h1
    | cons p P =>
      cases Q with
      | nil => simp at h2
      | cons q Q =>
        have := ih (P := P) (Q := Q) (x := x - (y : Rat)) (by simpa using h1) (by simpa using h2)
        simp only [List.zipWith_cons_cons, List.zip_cons_cons, Fl.cum, this, Rat.intCast_add, Rat.intCast_mul]
        split <;> grind
theorem units_both {f : Int → Int → Int} : ∀ {L P Q : List Int}, P.length = L.length → Q.length = L.length → Fl.units (List.zip L (List.zipWith f P Q)) = List.zipWith f (Fl.units (List.zip L P)) (Fl.units (List.zip L Q)) := by
  intro L
  induction L with
  | nil => intro P Q _ _; simp [Fl.units]
  | cons y L ih =>
    intro P Q h1 h2
    cases P with
    | nil => simp at h1
    | cons p P =>
      cases Q with
      | nil => simp at h2
      | cons q Q =>
        have := ih (P := P) (Q := Q) (by simpa using h1) (by simpa using h2)
        simp only [List.zipWith_cons_cons, List.zip_cons_cons, Fl.units, this]
        rw [List.zipWith_append (by simp), List.zipWith_replicate']
theorem units_sumW {V : Int} {l : List (Int × Int)} (h : OkW V l) : Fl.sumI (Fl.units l) = Fl.tot l := by
  induction l with
  | nil => rfl
  | cons z r ih =>
    have hz := h z (by simp)
    simp only [Fl.units, Fl.tot]
    rw [Fl.sumI_app, Fl.sumI_rep, ih (fun x hx => h x (by simp [hx])), Int.toNat_of_nonneg (by omega)]
theorem units_memW {V : Int} {l : List (Int × Int)} (h : OkW V l) : ∀ v ∈ Fl.units l, 0 ≤ v ∧ v ≤ V := by
  induction l with
  | nil => intro v hv; simp [Fl.units] at hv
  | cons z r ih =>
    intro v hv
    have hz := h z (by simp)
    simp only [Fl.units, List.mem_append, List.mem_replicate] at hv
    rcases hv with ⟨_, rfl⟩ | hv
    · exact hz.2.2
    · exact ih (fun x hx => h x (by simp [hx])) v hv
theorem sumI_nn {l : List Int} (h : ∀ v ∈ l, 0 ≤ v) : 0 ≤ Fl.sumI l := by
  induction l with
  | nil => exact Int.le_refl _
  | cons x r ih =>
    have := h x (by simp)
    have := ih (fun v hv => h v (by simp [hv]))
    rw [Fl.sumI_cons]; omega
theorem sumI_pre {l : List Int} (h : ∀ v ∈ l, 0 ≤ v) (k : Nat) : 0 ≤ Fl.sumI (l.take k) ∧ Fl.sumI (l.take k) ≤ Fl.sumI l := by
  have h1 := sumI_nn (l := l.take k) (fun v hv => h v (List.mem_of_mem_take hv))
  have h2 := sumI_nn (l := l.drop k) (fun v hv => h v (List.mem_of_mem_drop hv))
  have h3 := Fl.sumI_app (l.take k) (l.drop k)
  rw [List.take_append_drop] at h3
  omega

/-- What is known of the cut with the same part for both. -/
theorem even_facts {L : List Int} {V : List (List Int)} (hok : Kn.Ok L V) (h2 : V.length = 2) {q : Rat} (hq : Kn.evenK L V = some q) :
    0 ≤ q ∧ q ≤ (Kn.stop L : Rat) ∧ q.den ≤ 96000 ∧ Fl.worth (Kn.Z L V 0) 0 q / (Fl.tot (Kn.Z L V 0) : Rat) = Fl.worth (Kn.Z L V 1) q (Kn.stop L : Rat) / (Fl.tot (Kn.Z L V 1) : Rat) := by
  obtain ⟨o1, o2, o3, o4, o5⟩ := both_ok hok h2
  have t0 := hok.zTot (o := 0) (by omega)
  have t1 := hok.zTot (o := 1) (by omega)
  have z0 := hok.zOk (o := 0) (by omega)
  have z1 := hok.zOk (o := 1) (by omega)
  have r0 := hok.rowAt (o := 0) (by omega)
  have r1 := hok.rowAt (o := 1) (by omega)
  have s1 := hok.zStop (o := 1) (by omega)
  have hst := hok.stopB
  have m0 := Int.mul_pos t0.1 t1.1
  have hlen : Fl.len (Kn.zE L V) = Kn.stop L := by
    unfold Kn.zE
    exact Kn.len_zip (bothL_len r0.1 r1.1).symm
  unfold Kn.evenK at hq
  have hW : (0 : Rat) ≤ ((Fl.tot (Kn.Z L V 0) * Fl.tot (Kn.Z L V 1) : Int) : Rat) := by exact_mod_cast (show (0 : Int) ≤ _ by omega)
  have hl0 : (0 : Rat) ≤ (Fl.len (Kn.zE L V) : Rat) := by rw [hlen]; exact_mod_cast (show (0 : Int) ≤ Kn.stop L by omega)
  obtain ⟨p1, p2, v, p3, p4, p5⟩ := placeK_facts (D := 1) (by omega) (Frac.int 1 0) o1 Rat.le_refl hl0 hW (Frac.int 1 _) hq
  rw [hlen] at p2
  have hd := Nat.le_of_dvd (by omega) p5.den
  refine ⟨p1, p2, by omega, ?_⟩
  unfold Fl.placeK at hq
  have hne : ((Fl.tot (Kn.Z L V 0) * Fl.tot (Kn.Z L V 1) : Int) : Rat) ≠ 0 := by
    intro h
    have := Rat.intCast_eq_zero_iff.1 h
    omega
  rw [if_neg hne] at hq
  obtain ⟨-, hc⟩ := placeO_cum o1 (Int.le_refl 0) (by grind) hq
  have e0 : ((0 : Int) : Rat) = 0 := rfl
  rw [e0, show q - 0 = q by grind] at hc
  unfold Kn.zE Kn.bothL at hc
  rw [cum_both r0.1 r1.1] at hc
  have hw0 := Fl.worth_before z0 (a := 0) (b := q) Rat.le_refl p1
  rw [Fl.before_cum z0 p1, Fl.before_cum z0 Rat.le_refl, Fl.cum_zero z0] at hw0
  have hw1 := Fl.worth_rest z1 p1 (by rw [s1]; exact p2)
  rw [Fl.before_cum z1 p1, s1] at hw1
  rw [hw0, hw1]
  have ez0 : Fl.cum (List.zip L (V.getD 0 [])) q = Fl.cum (Kn.Z L V 0) q := rfl
  have ez1 : Fl.cum (List.zip L (V.getD 1 [])) q = Fl.cum (Kn.Z L V 1) q := rfl
  rw [ez0, ez1, Rat.intCast_mul] at hc
  have a0 : (0 : Rat) < (Fl.tot (Kn.Z L V 0) : Rat) := by exact_mod_cast t0.1
  have a1 : (0 : Rat) < (Fl.tot (Kn.Z L V 1) : Rat) := by exact_mod_cast t1.1
  generalize (Fl.tot (Kn.Z L V 0) : Rat) = A at hc a0 ⊢
  generalize (Fl.tot (Kn.Z L V 1) : Rat) = B at hc a1 ⊢
  generalize Fl.cum (Kn.Z L V 0) q = X at hc ⊢
  generalize Fl.cum (Kn.Z L V 1) q = Y at hc ⊢
  have d0 : (X - 0) / A * A = X - 0 := Rat.div_mul_cancel (by grind)
  have d1 : (B - Y) / B * B = B - Y := Rat.div_mul_cancel (by grind)
  obtain ⟨x, hx⟩ : ∃ x, x = (X - 0) / A := ⟨_, rfl⟩
  obtain ⟨y, hy⟩ : ∃ y, y = (B - Y) / B := ⟨_, rfl⟩
  rw [← hx] at d0 ⊢
  rw [← hy] at d1 ⊢
  have h3 : (x - y) * (A * B) = 0 := by grind
  rcases Rat.mul_eq_zero.1 h3 with h4 | h4
  · grind
  · rcases Rat.mul_eq_zero.1 h4 with h5 | h5 <;> grind
/-- The pieces of the cut with the same part for both are right, and both have the same part. -/
theorem even_right {L : List Int} {V : List (List Int)} (hok : Kn.Ok L V) (h2 : V.length = 2) {q : Rat} (hq : Kn.evenK L V = some q) :
    Kn.pcode L V [(0, (0, 1), pr q), (1, pr q, (Kn.stop L, 1))] = 0 ∧ ∃ z, Kn.partsL L V [(0, (0, 1), pr q), (1, pr q, (Kn.stop L, 1))] = [z, z] := by
  obtain ⟨q0, q1, qd, qe⟩ := even_facts hok h2 hq
  have hst := hok.stopB
  have hE : (0 : Rat) ≤ (Kn.stop L : Rat) := by exact_mod_cast (show (0 : Int) ≤ Kn.stop L by omega)
  constructor
  · refine pcode_mk (D := q.den) hok ?_ q.den_pos (by omega) ?_
    · unfold Kn.okOwn Kn.isO
      simp [h2]
    · refine ⟨rfl, Rat.le_refl, Nat.one_dvd _, q, rfl, q0, q1, Nat.dvd_refl _, rfl, q0, Nat.dvd_refl _, (Kn.stop L : Rat), rfl, q1, Rat.le_refl, Nat.one_dvd _, rfl⟩
  · refine ⟨pr (Kn.partQ L V (0, (0, 1), pr q)), ?_⟩
    have e : Kn.partQ L V (1, pr q, (Kn.stop L, 1)) = Kn.partQ L V (0, (0, 1), pr q) := by
      unfold Kn.partQ
      show Fl.worth (Kn.Z L V 1) (mkRat (pr q).1 (pr q).2.toNat) (mkRat (Kn.stop L) 1) / _ = Fl.worth (Kn.Z L V 0) (mkRat 0 1) (mkRat (pr q).1 (pr q).2.toNat) / _
      rw [pr_rat, Rat.mkRat_one, show mkRat 0 1 = 0 from rfl]
      exact qe.symm
    show [pr (Kn.partQ L V (0, (0, 1), pr q)), pr (Kn.partQ L V (1, pr q, (Kn.stop L, 1)))] = _
    rw [e]
end Go.Proofs.Ytemlfklipkpacaa
