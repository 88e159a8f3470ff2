import Derived.Test.YtmajcccdbhbkfaaB6
namespace Go.Proofs.Ytmajcccdbhbkfaa
namespace Fl
/-- Where nothing is worth nothing, worth grows. -/
theorem cum_lt {l : List (Int × Int)} (hok : Ok l) (hpos : ∀ z ∈ l, 1 ≤ z.2) : ∀ {x y : Rat}, 0 ≤ x → x < y → y ≤ (len l : Rat) → cum l x < cum l y := by
  induction l with
  | nil =>
    intro x y h0 h1 h2
    have e : ((len [] : Int) : Rat) = 0 := rfl
    rw [e] at h2
    grind
  | cons z r ih =>
    intro x y h0 h1 h2
    have hz := hok.head
    have hv := hpos z (by simp)
    have r1 : (1 : Rat) ≤ (z.2 : Rat) := Rat.intCast_le_intCast.2 hv
    have r2 : (1 : Rat) ≤ (z.1 : Rat) := Rat.intCast_le_intCast.2 hz.1
    have el : ((len (z :: r) : Int) : Rat) = (z.1 : Rat) + ((len r : Int) : Rat) := by
      rw [← Rat.intCast_add]; rfl
    rw [el] at h2
    simp only [cum]
    by_cases hx : x < (z.1 : Rat)
    · rw [if_pos hx]
      by_cases hy : y < (z.1 : Rat)
      · rw [if_pos hy]
        have := Rat.mul_lt_mul_of_pos_right h1 (show (0 : Rat) < (z.2 : Rat) by grind)
        grind
      · rw [if_neg hy]
        have hc := (cum_bound hok.tail (x := y - (z.1 : Rat)) (by grind)).1
        have := Rat.mul_lt_mul_of_pos_right hx (show (0 : Rat) < (z.2 : Rat) by grind)
        grind
    · rw [if_neg hx, if_neg (by grind)]
      have := ih hok.tail (fun z hz => hpos z (by simp [hz])) (x := x - (z.1 : Rat)) (y := y - (z.1 : Rat)) (by grind) (by grind) (by grind)
      grind
theorem worth_inj {l : List (Int × Int)} (hok : Ok l) (hpos : ∀ z ∈ l, 1 ≤ z.2) {a q q' : Rat} (h0 : 0 ≤ a) (h1 : a ≤ q) (h2 : a ≤ q') (h3 : q ≤ (len l : Rat)) (h4 : q' ≤ (len l : Rat)) (h : worth l a q = worth l a q') : q = q' := by
  rw [worth_before hok h0 h1, worth_before hok h0 h2, before_cum hok (Rat.le_trans h0 h1), before_cum hok (Rat.le_trans h0 h2)] at h
  have e : cum l q = cum l q' := by grind
  by_cases g1 : q < q'
  · have := cum_lt hok hpos (Rat.le_trans h0 h1) g1 h4
    grind
  · by_cases g2 : q' < q
    · have := cum_lt hok hpos (Rat.le_trans h0 h2) g2 h3
      grind
    · grind
theorem chain_unique {l : List (Int × Int)} (hok : Ok l) (h6 : l.length ≤ 6) (hpos : ∀ z ∈ l, 1 ≤ z.2) : ∀ {ps : List Int} {p : Int} {a : Rat} {P : Int} {qs : List Rat}, CutAt l a P → (∀ x ∈ p :: ps, 0 ≤ x ∧ x ≤ 10000) → P + sumI (p :: ps) = tot l →
    (∀ q ∈ qs, EndAt l q) → qs.length = ps.length → chainB l a (p :: ps) (qs ++ [(len l : Rat)]) = true → qs = cutsF l a (((p :: ps).take ps.length).map fun (x : Int) => (x : Rat)) := by
  intro ps
  induction ps with
  | nil =>
    intro p a P qs h hall hs hq hl hc
    have : qs = [] := by simpa using hl
    subst this
    simp [cutsF]
  | cons p2 r ih =>
    intro p a P qs h hall hs hq hl hc
    match qs, hl with
    | q :: qs', hl =>
      have hp := hall p (by simp)
      have hrest : ∀ x ∈ p2 :: r, 0 ≤ x ∧ x ≤ 10000 := fun x hx => hall x (List.mem_cons_of_mem _ hx)
      rw [sumI_cons] at hs
      have hn := sumI_nonneg hrest
      obtain ⟨c1, c2, c3, c4, -⟩ := cut_step hok h6 h hp.1 (by omega)
      rw [List.cons_append, chain_next] at hc
      simp only [Bool.and_eq_true, Bool.not_eq_true', decide_eq_false_iff_not, decide_eq_true_eq] at hc
      obtain ⟨⟨g1, g2⟩, g3⟩ := hc
      have hqe := hq q (by simp)
      have e : q = place l a (p : Rat) := worth_inj hok hpos h.a0 (by grind) c4 hqe.e1 c1.a1 (by rw [g2, c3])
      subst e
      have := ih c1 hrest (by omega) (fun x hx => hq x (List.mem_cons_of_mem _ hx)) (by simpa using hl) g3
      simp only [List.length_cons, List.take_succ_cons, List.map_cons, cutsF]
      rw [this]
/-- Where nothing is worth nothing, just the cuts that are returned are accepted. -/
theorem check_unique {l : List (Int × Int)} {ps : List Int} {cs : List (Int × Int)} (hpos : ∀ z ∈ l, 1 ≤ z.2) (h : checkC l ps cs = 0) : partsC l ps = 0 ∧ cs = (cutsOf l ps).map pr := by
  by_cases hp : partsC l ps = 0
  · refine ⟨hp, ?_⟩
    obtain ⟨h0, h1, h2, h3, h4⟩ := partsC_ok hp
    obtain ⟨⟨-, h6⟩, hok⟩ := validate_ok.1 h0
    unfold checkC at h
    rw [if_neg (by simp [hp])] at h
    split at h
    · cases h
    · rename_i hl
      split at h
      · rename_i ha
        rw [List.all_eq_true] at ha
        have hl : cs.length = ps.length - 1 := by simpa using hl
        split at h
        · rename_i hc
          match ps, h1 with
          | p :: r, _ =>
            have hu := chain_unique hok h6 hpos (qs := cs.map rt) (cutAt_zero hok) h3 (by rw [h4]; omega)
              (fun q hq => by simp only [List.mem_map] at hq; obtain ⟨c, hc, rfl⟩ := hq; exact (plc_end (ha c hc)).1) (by simpa using hl) hc
            unfold cutsOf
            simp only [List.length_cons, Nat.add_sub_cancel, ← List.map_take]
            rw [← hu, List.map_map]
            refine ((List.map_congr_left fun c hc => ?_).trans (List.map_id _)).symm
            obtain ⟨-, e1, e2⟩ := plc_end (ha c hc)
            exact Prod.ext e1 e2
        · cases h
      · cases h
  · rw [checkC_parts hp] at h
    exact absurd h hp
end Fl
end Go.Proofs.Ytmajcccdbhbkfaa
