import Derived.Test.YtkpabehjehbidaaPm
import Derived.Test.YtkpabehjehbidaaUn
namespace Go.Proofs.Ytkpabehjehbidaa
namespace Fl
/-- From unit to unit: where a worth is reached. -/
def reachF (s : Int) (i : Int) : List Int → Rat → Option Rat
  | [], _ => none
  | v :: r, want => if want ≤ ((s + v : Int) : Rat) then some ((i : Rat) + (want - (s : Rat)) / (v : Rat)) else reachF (s + v) (i + 1) r want
theorem reach_zone (v : Int) (hv : 0 ≤ v) (rest : List Int) (want : Rat) : ∀ (n : Nat) (s i : Int), (s : Rat) < want →
    reachF s i (List.replicate n v ++ rest) want = if want ≤ ((s + n * v : Int) : Rat) then some ((i : Rat) + (want - (s : Rat)) / (v : Rat)) else reachF (s + n * v) (i + n) rest want := by
  intro n
  induction n with
  | zero =>
    intro s i hs
    have e : s + ((0 : Nat) : Int) * v = s := by simp
    rw [e, if_neg (by grind)]
    simp
  | succ n ih =>
    intro s i hs
    have hnv : 0 ≤ (n : Int) * v := Int.mul_nonneg (by omega) hv
    have e : s + ((n + 1 : Nat) : Int) * v = s + v + (n : Int) * v := by push_cast; rw [Int.add_mul]; omega
    rw [List.replicate_succ, List.cons_append]
    simp only [reachF]
    rw [e]
    by_cases h1 : want ≤ ((s + v : Int) : Rat)
    · have h2 : ((s + v : Int) : Rat) ≤ ((s + v + (n : Int) * v : Int) : Rat) := Rat.intCast_le_intCast.2 (by omega)
      rw [if_pos h1, if_pos (Rat.le_trans h1 h2)]
    · rw [if_neg h1, ih (s + v) (i + 1) (by grind)]
      have e2 : i + ((n + 1 : Nat) : Int) = i + 1 + (n : Int) := by push_cast; omega
      rw [e2]
      by_cases h2 : want ≤ ((s + v + (n : Int) * v : Int) : Rat)
      · rw [if_pos h2, if_pos h2]
        have hv0 : v ≠ 0 := by
          intro h0
          rw [h0] at h2 h1
          simp at h2 h1
          grind
        have hvr : (v : Rat) ≠ 0 := by
          intro h; exact hv0 (Rat.intCast_eq_zero_iff.1 h)
        congr 1
        rw [Rat.intCast_add, Rat.intCast_add, Rat.div_def, Rat.div_def]
        have hi := Rat.mul_inv_cancel _ hvr
        have e1 : ((1 : Int) : Rat) = 1 := rfl
        rw [e1]
        grind
      · rw [if_neg h2, if_neg h2]
theorem sooner_self (x : Rat) : sooner x x = x := by unfold sooner; split <;> rfl
/-- What a field is worth from a place on, its zones beginning at s. -/
def rem (a : Rat) (s : Int) (l : List (Int × Int)) : Rat := if (s : Rat) ≤ a then (tot l : Rat) - cum l (a - (s : Rat)) else (tot l : Rat)
theorem cum_bound {l : List (Int × Int)} (hok : Ok l) : ∀ {x : Rat}, 0 ≤ x → 0 ≤ cum l x ∧ cum l x ≤ (tot l : Rat) := by
  induction l with
  | nil => intro x _; exact ⟨Rat.le_refl, Rat.le_refl⟩
  | cons z r ih =>
    intro x hx
    have hz := hok.head
    have ht := (tot_bound hok.tail).1
    have r1 : (0 : Rat) ≤ (z.2 : Rat) := by exact_mod_cast hz.2.2.1
    have r2 : (1 : Rat) ≤ (z.1 : Rat) := Rat.intCast_le_intCast.2 hz.1
    have e : ((tot (z :: r) : Int) : Rat) = (z.1 : Rat) * (z.2 : Rat) + ((tot r : Int) : Rat) := by
      rw [← Rat.intCast_mul, ← Rat.intCast_add]; rfl
    have ht2 : (0 : Rat) ≤ ((tot r : Int) : Rat) := by exact_mod_cast ht
    simp only [cum]
    rw [e]
    split
    · have m1 := Rat.mul_nonneg hx r1
      have m2 := Rat.mul_le_mul_of_nonneg_right (show x ≤ (z.1 : Rat) by grind) r1
      exact ⟨m1, by grind⟩
    · have h := ih hok.tail (show 0 ≤ x - (z.1 : Rat) by grind)
      have m1 := Rat.mul_nonneg (show (0 : Rat) ≤ (z.1 : Rat) by grind) r1
      exact ⟨by grind, by grind⟩
theorem reach_place {a want : Rat} {l : List (Int × Int)} (hok : Ok l) : ∀ {s S : Int} {w : Rat}, 0 < w → ((s : Rat) ≤ a → want = (S : Rat) + cum l (a - (s : Rat)) + w) → (¬ (s : Rat) ≤ a → want = (S : Rat) + w) →
    reachF S s (units l) want = if w ≤ rem a s l then some (placeF s a l w) else none := by
  induction l with
  | nil =>
    intro s S w hw _ _
    simp only [units, reachF]
    unfold rem
    rw [if_neg]
    simp only [tot, cum]
    split <;> grind
  | cons z r ih =>
    intro s S w hw h1 h2
    obtain ⟨zl, v⟩ := z
    have hz := hok.head
    simp only at hz
    have r1 : (0 : Rat) ≤ (v : Rat) := by exact_mod_cast hz.2.2.1
    have r2 : (1 : Rat) ≤ (zl : Rat) := Rat.intCast_le_intCast.2 hz.1
    have ht : (0 : Rat) ≤ ((tot r : Int) : Rat) := by exact_mod_cast (tot_bound hok.tail).1
    have e : ((tot ((zl, v) :: r) : Int) : Rat) = (zl : Rat) * (v : Rat) + ((tot r : Int) : Rat) := by
      rw [← Rat.intCast_mul, ← Rat.intCast_add]; rfl
    have en : ((zl.toNat : Nat) : Int) = zl := Int.toNat_of_nonneg (by omega)
    have es : ((s + zl : Int) : Rat) = (s : Rat) + (zl : Rat) := Rat.intCast_add s zl
    have eS : ((S + zl * v : Int) : Rat) = (S : Rat) + (zl : Rat) * (v : Rat) := by rw [Rat.intCast_add, Rat.intCast_mul]
    have hlt : (S : Rat) < want := by
      by_cases hsa : (s : Rat) ≤ a
      · have := (cum_bound hok (show 0 ≤ a - (s : Rat) by grind)).1
        rw [h1 hsa]; grind
      · rw [h2 hsa]; grind
    simp only [units]
    rw [reach_zone v hz.2.2.1 (units r) want zl.toNat S s hlt, en]
    simp only [placeF]
    by_cases hsa : (s : Rat) ≤ a
    · have hw1 := h1 hsa
      simp only [cum] at hw1
      by_cases hin : a - (s : Rat) < (zl : Rat)
      · rw [if_pos hin] at hw1
        have hp : piece (s, s + zl, v) a ((s + zl : Int) : Rat) = ((s : Rat) + (zl : Rat) - a) * (v : Rat) := by
          unfold piece
          simp only [sooner_self, later_eq, es]
          rw [show max a (s : Rat) = a by grind, if_neg (by grind)]
        have hr : rem a s ((zl, v) :: r) = (zl : Rat) * (v : Rat) + ((tot r : Int) : Rat) - (a - (s : Rat)) * (v : Rat) := by
          unfold rem; rw [if_pos hsa, e]; simp only [cum]; rw [if_pos hin]
        have hvr : w ≤ ((s : Rat) + (zl : Rat) - a) * (v : Rat) → (v : Rat) ≠ 0 := by
          intro h h0; rw [h0] at h; grind
        rw [hp, hr, eS]
        by_cases hc : w ≤ ((s : Rat) + (zl : Rat) - a) * (v : Rat)
        · rw [if_pos (by grind), if_pos (by grind), if_pos hc]
          have hi := Rat.mul_inv_cancel _ (hvr hc)
          congr 1
          rw [hw1, later_eq, show max a (s : Rat) = a by grind, Rat.div_def, Rat.div_def]
          grind
        · rw [if_neg (by grind), if_neg hc]
          have hn : ¬ ((s + zl : Int) : Rat) ≤ a := by rw [es]; grind
          rw [ih hok.tail (s := s + zl) (S := S + zl * v) (w := w - ((s : Rat) + (zl : Rat) - a) * (v : Rat)) (by grind) (fun h => absurd h hn) (fun _ => by rw [eS]; grind)]
          unfold rem
          rw [if_neg hn]
          congr 1
          rw [eq_iff_iff]
          constructor <;> intro h <;> grind
      · rw [if_neg hin] at hw1
        have hp : piece (s, s + zl, v) a ((s + zl : Int) : Rat) = 0 := by
          unfold piece
          simp only [sooner_self, later_eq, es]
          rw [if_pos (by grind)]
        have hcb := (cum_bound hok.tail (show 0 ≤ a - (s : Rat) - (zl : Rat) by grind)).1
        have hge : ((s + zl : Int) : Rat) ≤ a := by rw [es]; grind
        have ea : a - ((s + zl : Int) : Rat) = a - (s : Rat) - (zl : Rat) := by rw [es]; grind
        rw [hp, if_neg (by rw [eS]; grind), if_neg (c := w ≤ 0) (by grind)]
        rw [show w - 0 = w by grind, ih hok.tail (s := s + zl) (S := S + zl * v) hw (fun _ => by rw [eS, ea]; grind) (fun h => absurd hge h)]
        unfold rem
        rw [if_pos hge, if_pos hsa, e, ea]
        simp only [cum]
        rw [if_neg hin]
        congr 1
        rw [eq_iff_iff]
        constructor <;> intro h <;> grind
    · have hw1 := h2 hsa
      have hp : piece (s, s + zl, v) a ((s + zl : Int) : Rat) = (zl : Rat) * (v : Rat) := by
        unfold piece
        simp only [sooner_self, later_eq, es]
        rw [show max a (s : Rat) = (s : Rat) by grind, if_neg (by grind)]
        grind
      have hn : ¬ ((s + zl : Int) : Rat) ≤ a := by rw [es]; grind
      have hr : rem a s ((zl, v) :: r) = (zl : Rat) * (v : Rat) + ((tot r : Int) : Rat) := by
        unfold rem; rw [if_neg hsa, e]
      rw [hp, hr, eS]
      by_cases hc : w ≤ (zl : Rat) * (v : Rat)
      · rw [if_pos (by grind), if_pos (by grind), if_pos hc]
        congr 1
        rw [hw1, later_eq, show max a (s : Rat) = (s : Rat) by grind]
        congr 2
        grind
      · rw [if_neg (by grind), if_neg hc]
        rw [ih hok.tail (s := s + zl) (S := S + zl * v) (w := w - (zl : Rat) * (v : Rat)) (by grind) (fun h => absurd h hn) (fun _ => by rw [eS]; grind)]
        unfold rem
        rw [if_neg hn]
        congr 1
        rw [eq_iff_iff]
        constructor <;> intro h <;> grind
theorem cum_all {l : List (Int × Int)} (hok : Ok l) : cum l (len l : Rat) = (tot l : Rat) := by
  induction l with
  | nil => rfl
  | cons z r ih =>
    have hz := hok.head
    have hl := (len_bound hok.tail).1
    have e : ((tot (z :: r) : Int) : Rat) = (z.1 : Rat) * (z.2 : Rat) + ((tot r : Int) : Rat) := by
      rw [← Rat.intCast_mul, ← Rat.intCast_add]; rfl
    have e2 : ((len (z :: r) : Int) : Rat) = (z.1 : Rat) + ((len r : Int) : Rat) := by
      rw [← Rat.intCast_add]; rfl
    have h0 : (0 : Rat) ≤ ((len r : Int) : Rat) := by exact_mod_cast (show (0 : Int) ≤ len r by omega)
    simp only [cum]
    rw [e, e2, if_neg (by grind), show (z.1 : Rat) + ((len r : Int) : Rat) - (z.1 : Rat) = ((len r : Int) : Rat) by grind, ih hok.tail]
theorem worth_rest {l : List (Int × Int)} (hok : Ok l) {a : Rat} (h0 : 0 ≤ a) (h1 : a ≤ (len l : Rat)) : worth l a (len l : Rat) = (tot l : Rat) - before (units l) a := by
  rw [worth_before hok h0 h1, before_cum hok (Rat.le_trans h0 h1), cum_all hok]
/-- What Reach answers. -/
theorem reach_eq {l : List (Int × Int)} (hok : Ok l) {a w : Rat} (h0 : 0 ≤ a) (h1 : a ≤ (len l : Rat)) (hw : 0 < w) :
    reachF 0 0 (units l) (before (units l) a + w) = if w ≤ worth l a (len l : Rat) then some (place l a w) else none := by
  have e0 : ((0 : Int) : Rat) = 0 := rfl
  have es : a - ((0 : Int) : Rat) = a := by rw [e0]; grind
  have h := reach_place (a := a) (want := before (units l) a + w) hok (s := 0) (S := 0) hw (fun _ => by rw [es, before_cum hok h0, e0]; grind) (fun h => absurd (by rw [e0]; exact h0) h)
  rw [h]
  have hr : rem a 0 l = worth l a (len l : Rat) := by
    unfold rem
    rw [if_pos (by rw [e0]; exact h0), es, worth_rest hok h0 h1, before_cum hok h0]
  rw [hr]
  have hwz : place l a w = placeF 0 a l w := by unfold place; rw [if_neg (by grind)]
  rw [hwz]
end Fl
end Go.Proofs.Ytkpabehjehbidaa
