import Derived.Test.YtemlfklipkpacaaNc
import Derived.Test.YtemlfklipkpacaaLk
/- Package knife: what the knife makes are pieces, and each one has his part. -/
namespace Go.Proofs.Ytemlfklipkpacaa
open Go.RowKit

theorem placeK_worth {l : List (Int × Int)} (hok : Fl.Ok l) {a w q : Rat} (h0 : 0 ≤ a) (h1 : a ≤ (Fl.len l : Rat)) (hw : 0 ≤ w) (h : Fl.placeK l a w = some q) : a ≤ q ∧ q ≤ (Fl.len l : Rat) ∧ Fl.worth l a q = w := by
  rw [placeK_reach hok h0 h1 hw, reachR_eq hok h0 h1 hw] at h
  split at h
  · cases h
  · rename_i hle
    cases h
    obtain ⟨p1, p2, p3⟩ := Fl.place_spec hok h0 h1 hw (by grind)
    exact ⟨p1, p2, p3⟩
theorem placeK_none {l : List (Int × Int)} (hok : Fl.Ok l) {a w : Rat} (h0 : 0 ≤ a) (h1 : a ≤ (Fl.len l : Rat)) (hw : 0 ≤ w) (h : Fl.placeK l a w = none) : Fl.worth l a (Fl.len l : Rat) < w := by
  rw [placeK_reach hok h0 h1 hw, reachR_eq hok h0 h1 hw] at h
  split at h
  · assumption
  · cases h
theorem worth_cum {l : List (Int × Int)} (hok : Fl.Ok l) {a b : Rat} (h0 : 0 ≤ a) (h1 : a ≤ b) : Fl.worth l a b = Fl.cum l b - Fl.cum l a := by
  rw [Fl.worth_before hok h0 h1, Fl.before_cum hok h0, Fl.before_cum hok (Rat.le_trans h0 h1)]

namespace Kn
/-- The owner who is first calls there, or nobody calls before the end. -/
theorem first_or {L : List Int} {V : List (List Int)} {a : Rat} {left : List Nat} : ∀ {s : Nat × Rat}, (callK L V s.1 a = some s.2 ∨ s.2 = (stop L : Rat)) → (callK L V (left.foldl (step L V a) s).1 a = some (left.foldl (step L V a) s).2 ∨ (left.foldl (step L V a) s).2 = (stop L : Rat)) := by
  induction left with
  | nil => intro s h; exact h
  | cons o r ih =>
    intro s h
    refine ih (s := step L V a s o) ?_
    cases hc : callK L V o a with
    | none => rw [step_none hc]; exact h
    | some t =>
      rw [step_some hc]
      split
      · exact .inl hc
      · exact h
theorem first_le {L : List Int} {V : List (List Int)} {a : Rat} {left : List Nat} : ∀ {s : Nat × Rat}, (left.foldl (step L V a) s).2 ≤ s.2 ∧ ∀ o ∈ left, ∀ t, callK L V o a = some t → (left.foldl (step L V a) s).2 ≤ t := by
  induction left with
  | nil => intro s; exact ⟨Rat.le_refl, fun o ho => by cases ho⟩
  | cons o r ih =>
    intro s
    obtain ⟨i1, i2⟩ := ih (s := step L V a s o)
    have h1 : (step L V a s o).2 ≤ s.2 ∧ ∀ t, callK L V o a = some t → (step L V a s o).2 ≤ t := by
      cases hc : callK L V o a with
      | none => rw [step_none hc]; exact ⟨Rat.le_refl, fun t ht => by cases ht⟩
      | some u =>
        rw [step_some hc]
        split
        · rename_i h
          refine ⟨by show u ≤ s.2; grind, fun t ht => ?_⟩
          cases ht
          exact Rat.le_refl
        · rename_i h
          refine ⟨Rat.le_refl, fun t ht => ?_⟩
          cases ht
          grind
    refine ⟨Rat.le_trans i1 h1.1, fun p hp t ht => ?_⟩
    rcases List.mem_cons.1 hp with rfl | hp
    · exact Rat.le_trans i1 (h1.2 t ht)
    · exact i2 p hp t ht
/-- The pieces of the knife follow one another over a common Den. -/
theorem divF_chain {L : List Int} {V : List (List Int)} (hok : Ok L V) : ∀ {f : Nat} {left : List Nat} {a : Rat} {M : Nat}, St L V f left a → 1 ≤ M → Frac (V.length * M) a → M ≤ 20 ^ (V.length - (f + 1)) →
    ∃ M' : Nat, 1 ≤ M' ∧ M' ≤ 20 ^ (V.length - 1) ∧ M ∣ M' ∧ chained (stop L) (V.length * M') a ((divF L V f left a).map pc) := by
  intro f
  induction f with
  | zero =>
    intro left a M hS hM hF hle
    refine ⟨M, hM, hle, Nat.dvd_refl _, ?_⟩
    exact ⟨rfl, hS.a0, hF.den, (stop L : Rat), rfl, hS.a1, Rat.le_refl, Nat.one_dvd _, rfl⟩
  | succ f ih =>
    intro left a M hS hM hF hle
    have v1 := hok.v1
    have hle2 := hS.le
    have hlen := hS.len
    obtain ⟨n1, n2, n3⟩ := hS.next hok
    have hp : 20 ^ (V.length - (f + 1)) = 20 ^ (V.length - (f + 1 + 1)) * 20 := by
      rw [show V.length - (f + 1) = V.length - (f + 1 + 1) + 1 by omega, Nat.pow_succ]
    obtain ⟨m1, m2, m3, v, hv1, hv2, m4⟩ := first_mem (L := L) (V := V) (a := a) (left := left) (by omega) (Q := fun x => a ≤ x ∧ x ≤ (stop L : Rat) ∧ ∃ v : Nat, 1 ≤ v ∧ v ≤ 20 ∧ Frac (V.length * (M * v)) x)
      ⟨hS.a1, Rat.le_refl, 1, by omega, by omega, Frac.int _ _⟩
      (fun o ho t hc => by
        have hov := hS.mem o ho
        have hs := hok.zStop hov
        unfold callK at hc
        have hT := hok.zTot hov
        have hW : 0 ≤ mkRat (Fl.tot (Z L V o)) V.length := Rat.num_nonneg.1 (mk_num_le (by omega)).1
        obtain ⟨q1, q2, v, hv1, hv2, hq⟩ := placeK_facts (V := 20) (by omega) hF (hok.zOk hov) hS.a0 (by rw [hs]; exact hS.a1) hW ((Frac.mk _ (by omega)).up M) hc
        rw [hs] at q2
        exact ⟨q1, q2, v, hv1, by omega, by rw [← Nat.mul_assoc]; exact hq⟩)
    obtain ⟨M', i1, i2, i3, i4⟩ := ih n3 (Nat.mul_pos hM hv1) m4 (by rw [hp]; exact Nat.mul_le_mul hle hv2)
    have d1 : V.length * M ∣ V.length * M' := Nat.mul_dvd_mul_left _ (Nat.dvd_trans ⟨v, rfl⟩ i3)
    have d2 : V.length * (M * v) ∣ V.length * M' := Nat.mul_dvd_mul_left _ i3
    refine ⟨M', i1, i2, Nat.dvd_trans ⟨v, rfl⟩ i3, ?_⟩
    exact ⟨rfl, hS.a0, Nat.dvd_trans hF.den d1, (first L V left a).2, rfl, m2, m3, Nat.dvd_trans m4.den d2, i4⟩
/-- Each one who is left has one of them. -/
theorem divF_own {L : List Int} {V : List (List Int)} (hok : Ok L V) : ∀ {f : Nat} {left : List Nat} {a : Rat}, St L V f left a →
    (divF L V f left a).length = f + 1 ∧ ((divF L V f left a).map Prod.fst).Nodup ∧ (∀ o, o ∈ (divF L V f left a).map Prod.fst ↔ o ∈ left) := by
  intro f
  induction f with
  | zero =>
    intro left a hS
    have hlen := hS.len
    cases left with
    | nil => simp at hlen
    | cons o r =>
      cases r with
      | nil => exact ⟨rfl, by simp [divF], fun p => by simp [divF]⟩
      | cons p r => simp at hlen
  | succ f ih =>
    intro left a hS
    obtain ⟨n1, n2, n3⟩ := hS.next hok
    obtain ⟨i1, i2, i3⟩ := ih n3
    have e : divF L V (f + 1) left a = ((first L V left a).1, a, (first L V left a).2) :: divF L V f (left.filter fun o => !decide (o = (first L V left a).1)) (first L V left a).2 := rfl
    rw [e]
    refine ⟨by rw [List.length_cons, i1], ?_, fun o => ?_⟩
    · rw [List.map_cons, List.nodup_cons]
      refine ⟨fun h => ?_, i2⟩
      have := (List.mem_filter.1 ((i3 _).1 h)).2
      simp at this
    · rw [List.map_cons, List.mem_cons, i3, List.mem_filter]
      constructor
      · rintro (h | h)
        · rw [h]; exact n1
        · exact h.1
      · intro h
        by_cases h2 : o = (first L V left a).1
        · exact .inl h2
        · exact .inr ⟨h, by simp [h2]⟩
/-- Each one has his part. -/
theorem divF_fair {L : List Int} {V : List (List Int)} (hok : Ok L V) : ∀ {f : Nat} {left : List Nat} {a : Rat}, St L V f left a →
    (∀ o ∈ left, (V.length : Rat) * Fl.cum (Z L V o) a ≤ ((V.length : Rat) - ((f : Rat) + 1)) * (Fl.tot (Z L V o) : Rat)) →
    ∀ p ∈ divF L V f left a, p.1 < V.length ∧ 0 ≤ p.2.1 ∧ p.2.1 ≤ p.2.2 ∧ p.2.2 ≤ (stop L : Rat) ∧ (Fl.tot (Z L V p.1) : Rat) ≤ (V.length : Rat) * Fl.worth (Z L V p.1) p.2.1 p.2.2 := by
  intro f
  induction f with
  | zero =>
    intro left a hS hI p hp
    have hp : p = (left.getD 0 0, a, (stop L : Rat)) := by simpa [divF] using hp
    subst hp
    have hm := getD_mem (left := left) (k := 0) (by have := hS.len; omega)
    have hov := hS.mem _ hm
    have hi := hI _ hm
    refine ⟨hov, hS.a0, hS.a1, Rat.le_refl, ?_⟩
    have hw := worth_cum (hok.zOk hov) hS.a0 hS.a1
    rw [← hok.zStop hov, Fl.cum_all (hok.zOk hov), hok.zStop hov] at hw
    show (Fl.tot (Z L V (left.getD 0 0)) : Rat) ≤ (V.length : Rat) * Fl.worth (Z L V (left.getD 0 0)) a (stop L : Rat)
    rw [hw]
    have e0 : ((0 : Nat) : Rat) = 0 := rfl
    rw [e0] at hi
    grind
  | succ f ih =>
    intro left a hS hI p hp
    have v1 := hok.v1
    have hlen := hS.len
    obtain ⟨n1, n2, n3⟩ := hS.next hok
    have e : divF L V (f + 1) left a = ((first L V left a).1, a, (first L V left a).2) :: divF L V f (left.filter fun o => !decide (o = (first L V left a).1)) (first L V left a).2 := rfl
    rw [e] at hp
    have hnp : (0 : Rat) < (V.length : Rat) := by
      have : ((0 : Int) : Rat) < ((V.length : Int) : Rat) := Rat.intCast_lt_intCast.2 (by omega)
      exact this
    have ef : ((f + 1 : Nat) : Rat) = (f : Rat) + 1 := by rw [Rat.natCast_add]; rfl
    rw [ef] at hI
    have hf0 : (0 : Rat) ≤ (f : Rat) := by
      have : ((0 : Int) : Rat) ≤ ((f : Int) : Rat) := Rat.intCast_le_intCast.2 (by omega)
      exact this
    have hor := first_or (L := L) (V := V) (a := a) (left := left) (s := (left.getD 0 0, (stop L : Rat))) (.inr rfl)
    have hle := (first_le (L := L) (V := V) (a := a) (left := left) (s := (left.getD 0 0, (stop L : Rat)))).2
    have htE := n3.a1
    have ht0 := n3.a0
    have hff : first L V left a = left.foldl (step L V a) (left.getD 0 0, (stop L : Rat)) := rfl
    rw [← hff] at hor hle
    generalize (first L V left a).2 = t at *
    generalize (first L V left a).1 = x at *
    clear hff
    -- what is known of each one who is left
    have key : ∀ o ∈ left, (V.length : Rat) * Fl.worth (Z L V o) a t ≤ (Fl.tot (Z L V o) : Rat) ∧ (callK L V o a = some t ∨ t = (stop L : Rat) → (Fl.tot (Z L V o) : Rat) ≤ (V.length : Rat) * Fl.worth (Z L V o) a t) := by
      intro o ho
      have hov := hS.mem o ho
      have hzo := hok.zOk hov
      have hs := hok.zStop hov
      have hi := hI o ho
      have hT := hok.zTot hov
      have hT0 : (0 : Rat) < (Fl.tot (Z L V o) : Rat) := by exact_mod_cast hT.1
      have hall := Fl.cum_all hzo
      have hwE := worth_cum hzo hS.a0 hS.a1
      rw [← hs, hall] at hwE
      have hW : 0 ≤ mkRat (Fl.tot (Z L V o)) V.length := Rat.num_nonneg.1 (mk_num_le (by omega)).1
      have hWe : (V.length : Rat) * mkRat (Fl.tot (Z L V o)) V.length = (Fl.tot (Z L V o) : Rat) := by
        rw [Rat.mkRat_eq_div]
        have := Rat.div_mul_cancel (a := (Fl.tot (Z L V o) : Rat)) (b := (V.length : Rat)) (by grind)
        grind
      have hT2 : (f : Rat) * (Fl.tot (Z L V o) : Rat) ≥ 0 := Rat.mul_nonneg hf0 (by grind)
      cases hc : callK L V o a with
      | none =>
        exfalso
        have := placeK_none hzo hS.a0 (by rw [hs]; exact hS.a1) hW hc
        rw [hwE] at this
        have h2 := Rat.mul_lt_mul_of_pos_left this hnp
        rw [hWe] at h2
        grind
      | some u =>
        obtain ⟨q1, q2, q3⟩ := placeK_worth hzo hS.a0 (by rw [hs]; exact hS.a1) hW hc
        have hu := hle o ho u hc
        have hm := cum_mono hzo ht0 hu
        have hwt := worth_cum hzo hS.a0 n2
        have hwu := worth_cum hzo hS.a0 q1
        rw [q3] at hwu
        have hm2 : Fl.worth (Z L V o) a t ≤ mkRat (Fl.tot (Z L V o)) V.length := by rw [hwt]; grind
        refine ⟨by rw [← hWe]; exact Rat.mul_le_mul_of_nonneg_left hm2 (by grind), fun h => ?_⟩
        rcases h with h | h
        · cases h
          rw [q3, hWe]; exact Rat.le_refl
        · subst h
          rw [← hs, hwE]
          grind
    rcases List.mem_cons.1 hp with rfl | hp
    · exact ⟨hS.mem _ n1, hS.a0, n2, htE, (key _ n1).2 hor⟩
    · refine ih n3 (fun o ho => ?_) p hp
      have hol := (List.mem_filter.1 ho).1
      have hov := hS.mem o hol
      have hi := hI o hol
      have hk := (key o hol).1
      have hwt := worth_cum (hok.zOk hov) hS.a0 n2
      rw [hwt] at hk
      grind
end Kn
end Go.Proofs.Ytemlfklipkpacaa
