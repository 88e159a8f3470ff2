import Derived.Test.YtemlfklipkpacaaKr
/- The pieces with the same part for two owners. -/
namespace Go.Proofs.Ytemlfklipkpacaa
open Go.RowKit
namespace Kn
/-- What both owners have of each unit together, in common numbers. -/
def bothL (V : List (List Int)) (A B : Int) : List Int := List.zipWith (fun x y => x * B + y * A) (V.getD 0 []) (V.getD 1 [])
def zE (L : List Int) (V : List (List Int)) : List (Int × Int) := List.zip L (bothL V (Fl.tot (Z L V 0)) (Fl.tot (Z L V 1)))
def evenK (L : List Int) (V : List (List Int)) : Option Rat := Fl.placeK (zE L V) 0 ((Fl.tot (Z L V 0) * Fl.tot (Z L V 1) : Int) : Rat)
end Kn

theorem bothL_len {V : List (List Int)} {A B : Int} {n : Nat} (h0 : (V.getD 0 []).length = n) (h1 : (V.getD 1 []).length = n) : (Kn.bothL V A B).length = n := by
  unfold Kn.bothL
  rw [List.length_zipWith, h0, h1, Nat.min_self]
theorem bothL_at {V : List (List Int)} {A B : Int} {k : Nat} (h0 : k < (V.getD 0 []).length) (h1 : k < (V.getD 1 []).length) : (Kn.bothL V A B).getD k 0 = (V.getD 0 []).getD k 0 * B + (V.getD 1 []).getD k 0 * A := by
  unfold Kn.bothL
  generalize V.getD 0 [] = P at h0 ⊢
  generalize V.getD 1 [] = Q at h1 ⊢
  simp [List.getD_eq_getElem?_getD, List.getElem?_zipWith, h0, h1]
theorem tot_both {A B : Int} : ∀ {L P Q : List Int}, P.length = L.length → Q.length = L.length → Fl.tot (List.zip L (List.zipWith (fun x y => x * B + y * A) P Q)) = Fl.tot (List.zip L P) * B + Fl.tot (List.zip L Q) * A := by
  intro L
  induction L with
  | nil => intro P Q _ _; simp [Fl.tot]
  | cons x L ih =>
    intro P Q h1 h2
    cases P with
    | nil => simp at h1
    | cons p P =>
      cases Q with
      | nil => simp at h2
      | cons q Q =>
        have := ih (P := P) (Q := Q) (by simpa using h1) (by simpa using h2)
        simp only [List.zipWith_cons_cons, List.zip_cons_cons, Fl.tot, this, Int.mul_add, Int.add_mul, Int.mul_assoc]
        omega
theorem both_ok {L : List Int} {V : List (List Int)} (hok : Kn.Ok L V) (h2 : V.length = 2) : OkW 96000 (Kn.zE L V) ∧ (Kn.zE L V).length = L.length ∧ Fl.tot (Kn.zE L V) = 2 * (Fl.tot (Kn.Z L V 0) * Fl.tot (Kn.Z L V 1)) ∧ (Kn.zE L V).map Prod.fst = L ∧ (Kn.zE L V).map Prod.snd = Kn.bothL V (Fl.tot (Kn.Z L V 0)) (Fl.tot (Kn.Z L V 1)) := by
  have r0 := hok.rowAt (o := 0) (by omega)
  have r1 := hok.rowAt (o := 1) (by omega)
  have t0 := hok.zTot (o := 0) (by omega)
  have t1 := hok.zTot (o := 1) (by omega)
  have hl := bothL_len (A := Fl.tot (Kn.Z L V 0)) (B := Fl.tot (Kn.Z L V 1)) r0.1 r1.1
  refine ⟨fun x hx => ?_, ?_, ?_, ?_, ?_⟩
  · unfold Kn.zE at hx
    have hm := List.of_mem_zip hx
    have hL := hok.ln _ hm.1
    obtain ⟨k, hk, he⟩ := List.getElem_of_mem hm.2
    have hat := bothL_at (V := V) (A := Fl.tot (Kn.Z L V 0)) (B := Fl.tot (Kn.Z L V 1)) (k := k) (by omega) (by omega)
    rw [List.getD_eq_getElem?_getD, List.getElem?_eq_getElem hk, Option.getD_some, he] at hat
    have v0 := int_at (k := k) r0.2.1 (by omega)
    have v1 := int_at (k := k) r1.2.1 (by omega)
    have m0 : 0 ≤ (V.getD 0 []).getD k 0 * Fl.tot (Kn.Z L V 1) := Int.mul_nonneg v0.1 (by omega)
    have m1 : (V.getD 0 []).getD k 0 * Fl.tot (Kn.Z L V 1) ≤ 20 * 2400 := Int.mul_le_mul v0.2 t1.2 (by omega) (by omega)
    have m2 : 0 ≤ (V.getD 1 []).getD k 0 * Fl.tot (Kn.Z L V 0) := Int.mul_nonneg v1.1 (by omega)
    have m3 : (V.getD 1 []).getD k 0 * Fl.tot (Kn.Z L V 0) ≤ 20 * 2400 := Int.mul_le_mul v1.2 t0.2 (by omega) (by omega)
    exact ⟨hL.1, hL.2, by omega, by omega⟩
  · unfold Kn.zE
    rw [List.length_zip, hl, Nat.min_self]
  · unfold Kn.zE Kn.bothL
    rw [tot_both r0.1 r1.1]
    show Fl.tot (Kn.Z L V 0) * Fl.tot (Kn.Z L V 1) + Fl.tot (Kn.Z L V 1) * Fl.tot (Kn.Z L V 0) = _
    rw [Int.mul_comm (Fl.tot (Kn.Z L V 1))]
    omega
  · unfold Kn.zE
    rw [List.map_fst_zip (by omega)]
  · unfold Kn.zE
    rw [List.map_snd_zip (by omega)]

theorem piece_zero {s l v : Int} (hs : 0 ≤ s) (hl : 1 ≤ l) : Fl.piece (s, s + l, v) 0 ((s + l : Int) : Rat) = ((l * v : Int) : Rat) := by
  have h1 : (0 : Rat) ≤ (s : Rat) := by exact_mod_cast hs
  have h2 : (1 : Rat) ≤ (l : Rat) := by exact_mod_cast hl
  have e1 : ((s + l : Int) : Rat) = (s : Rat) + (l : Rat) := Rat.intCast_add s l
  rw [Fl.piece_tail hl, if_neg (by grind), Rat.intCast_mul]
  split
  · have : (s : Rat) = 0 := by grind
    rw [e1, this]; grind
  · rw [e1]; grind
theorem placeO_zero {V : Int} {l : List (Int × Int)} (hok : OkW V l) : ∀ {s : Int} {w : Rat}, 0 ≤ s → 0 < w → w ≤ (Fl.tot l : Rat) → ∃ q, Fl.placeO s 0 l w = some q := by
  induction l with
  | nil =>
    intro s w _ h1 h2
    exfalso
    have : ((Fl.tot [] : Int) : Rat) = 0 := rfl
    grind
  | cons z r ih =>
    intro s w hs h1 h2
    have hz := hok z (by simp)
    unfold Fl.placeO
    rw [piece_zero hs hz.1]
    have e : ((Fl.tot (z :: r) : Int) : Rat) = ((z.1 * z.2 : Int) : Rat) + (Fl.tot r : Rat) := by rw [← Rat.intCast_add]; rfl
    split
    · exact ⟨_, rfl⟩
    · exact ih (fun x hx => hok x (by simp [hx])) (by omega) (by grind) (by grind)
theorem kgo_even {A B : Int} (hA0 : 0 < A) (hA : A ≤ 2400) (hB0 : 0 < B) (hB : B ≤ 2400) : KGo 5760000 96000 0 ((A * B : Int) : Rat) := by
  have m0 : 0 < A * B := Int.mul_pos hA0 hB0
  have m1 : A * B ≤ 2400 * 2400 := Int.mul_le_mul hA hB (by omega) (by omega)
  refine ⟨Rat.le_refl, by decide, by exact_mod_cast (show (0 : Int) ≤ A * B by omega), Rat.intCast_le_intCast.2 (by omega), by omega, by omega, ?_, ?_, ?_⟩
  · rw [Rat.den_intCast]; decide
  · rw [Rat.den_intCast]; decide
  · decide
theorem even_some {L : List Int} {V : List (List Int)} (hok : Kn.Ok L V) (h2 : V.length = 2) : ∃ q, Kn.evenK L V = some q := by
  obtain ⟨o1, o2, o3, -, -⟩ := both_ok hok h2
  have t0 := hok.zTot (o := 0) (by omega)
  have t1 := hok.zTot (o := 1) (by omega)
  have m0 := Int.mul_pos t0.1 t1.1
  unfold Kn.evenK Fl.placeK
  split
  · exact ⟨_, rfl⟩
  · exact placeO_zero o1 (Int.le_refl _) (by exact_mod_cast m0) (Rat.intCast_le_intCast.2 (by omega))
end Go.Proofs.Ytemlfklipkpacaa
