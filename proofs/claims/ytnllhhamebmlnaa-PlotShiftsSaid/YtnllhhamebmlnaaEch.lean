import Derived.Test.YtnllhhamebmlnaaCor
namespace Go.Proofs.Ytnllhhamebmlnaa
open Go.RowKit

theorem quarter1_any (x y : Int) (w : World) (hy : Geo.Sm y) :
    Calls Try.prog 93 #[.agg #[.int .i64 x, .int .i64 y]] w fun e w' => e = .returned (.agg #[.int .i64 (-y), .int .i64 x]) ∧ Below w.heap.size w w' := by
  have e1 : IntKind.i64.wrap (-y) = -y := IntWalk.i64_in _ (by unfold Geo.Sm at hy; omega)
  go_enter Try.func93, Try.ntmps93
  go_wp2
  refine bodyPost_ret (results_cell_row rfl _ _ _ _ _ _ _ rfl (heap_alloc2_new w (.cells #[.int .i64 x, .int .i64 y] 32) (.cells #[.int .i64 (-y), .int .i64 x] 32)) Try.underlying32 rfl Try.infoPt) rfl ⟨rfl, ((Below.refl _ w).alloc (Nat.le_refl _) _).alloc (by simp) _⟩
theorem mirror1_any (x y : Int) (w : World) :
    Calls Try.prog 94 #[.agg #[.int .i64 x, .int .i64 y]] w fun e w' => e = .returned (.agg #[.int .i64 y, .int .i64 x]) ∧ Below w.heap.size w w' := by
  go_enter Try.func94, Try.ntmps94
  go_wp2
  refine bodyPost_ret (results_cell_row rfl _ _ _ _ _ _ _ rfl (heap_alloc2_new w (.cells #[.int .i64 x, .int .i64 y] 32) (.cells #[.int .i64 y, .int .i64 x] 32)) Try.underlying32 rfl Try.infoPt) rfl ⟨rfl, ((Below.refl _ w).alloc (Nat.le_refl _) _).alloc (by simp) _⟩
theorem shift1_any (x y dx dy : Int) (b : Nat) (w : World) (hx : Geo.Sm x) (hy : Geo.Sm y) (hdx : Geo.Sm dx) (hdy : Geo.Sm dy) (hb : b < w.heap.size) (h0 : w.cell? ⟨b, 0, none⟩ = some (.int .i64 dx)) (h1 : w.cell? ⟨b, 1, none⟩ = some (.int .i64 dy)) :
    Calls Try.prog 92 #[.agg #[.int .i64 x, .int .i64 y], .pointer (some ⟨b, 0, none⟩)] w fun e w' => e = .returned (.agg #[.int .i64 (x + dx), .int .i64 (y + dy)]) ∧ Below w.heap.size w w' := by
  have e1 : IntKind.i64.wrap (x + dx) = x + dx := IntWalk.i64_in _ (by unfold Geo.Sm at hx hdx; omega)
  have e2 : IntKind.i64.wrap (y + dy) = y + dy := IntWalk.i64_in _ (by unfold Geo.Sm at hy hdy; omega)
  go_enter Try.func92, Try.ntmps92
  go_wp2
  refine bodyPost_ret (results_cell_row rfl _ _ _ _ _ _ _ rfl (heap_alloc2_new w (.cells #[.int .i64 x, .int .i64 y] 32) (.cells #[.int .i64 (x + dx), .int .i64 (y + dy)] 32)) Try.underlying32 rfl Try.infoPt) rfl ⟨rfl, ((Below.refl _ w).alloc (Nat.le_refl _) _).alloc (by simp) _⟩

theorem isRing_set {X : Array Value} {l : List (Int × Int)} (hX : IsRing X l) {k : Nat} (hk : k < l.length) (h10 : l.length ≤ 10) (p : Int × Int) :
    IsRing ((X.setIfInBounds (1 + k * 2) (.int .i64 p.1)).setIfInBounds (1 + k * 2 + 1) (.int .i64 p.2)) (l.set k p) := by
  have hs := hX.size
  have ho := hX.one
  refine ⟨by simp [hs], ?_, ?_, ?_, ?_⟩
  · rw [Array.all_eq_true] at ho ⊢
    intro i hi
    simp only [Array.size_setIfInBounds] at hi
    rw [Array.getElem_setIfInBounds, Array.getElem_setIfInBounds]
    · split
      · rfl
      · split
        · rfl
        · exact ho i hi
    · simpa using hi
  · rw [Array.getElem?_setIfInBounds, if_neg (by omega), Array.getElem?_setIfInBounds, if_neg (by omega), hX.n, List.length_set]
  · intro i hi
    rw [List.length_set] at hi
    rw [Array.getElem?_setIfInBounds, if_neg (by omega), Array.getElem?_setIfInBounds]
    by_cases e : i = k
    · subst e
      rw [if_pos rfl, if_pos (by omega)]
      simp [List.getD_eq_getElem?_getD, hi]
    · rw [if_neg (by omega), hX.x i hi]
      simp [List.getD_eq_getElem?_getD, show ¬ k = i by omega]
  · intro i hi
    rw [List.length_set] at hi
    rw [Array.getElem?_setIfInBounds]
    by_cases e : i = k
    · subst e
      rw [if_pos rfl, if_pos (by simp; omega)]
      simp [List.getD_eq_getElem?_getD, hi]
    · rw [if_neg (by omega), Array.getElem?_setIfInBounds, if_neg (by omega), hX.y i hi]
      simp [List.getD_eq_getElem?_getD, show ¬ k = i by omega]
/-- The first k points are moved. -/
def upTo (T : Int × Int → Int × Int) (l : List (Int × Int)) : Nat → List (Int × Int)
  | 0 => l
  | k + 1 => (upTo T l k).set k (T (l.getD k (0, 0)))
theorem upTo_length (T : Int × Int → Int × Int) (l : List (Int × Int)) (k : Nat) : (upTo T l k).length = l.length := by
  induction k with
  | zero => rfl
  | succ k ih => unfold upTo; rw [List.length_set, ih]
theorem upTo_at (T : Int × Int → Int × Int) (l : List (Int × Int)) (k i : Nat) (hi : i < l.length) : (upTo T l k)[i]? = some (if i < k then T (l.getD i (0, 0)) else l.getD i (0, 0)) := by
  induction k with
  | zero => unfold upTo; simp [List.getD_eq_getElem?_getD, hi]
  | succ k ih =>
    unfold upTo
    rw [List.getElem?_set, ih]
    by_cases e : k = i
    · subst e
      rw [if_pos rfl, if_pos (by rw [upTo_length]; exact hi), if_pos (by omega)]
    · rw [if_neg e]
      congr 1
      by_cases e2 : i < k
      · rw [if_pos e2, if_pos (by omega)]
      · rw [if_neg e2, if_neg (by omega)]
theorem upTo_all (T : Int × Int → Int × Int) (l : List (Int × Int)) : upTo T l l.length = l.map T := by
  refine List.ext_getElem? fun i => ?_
  by_cases hi : i < l.length
  · rw [upTo_at T l _ i hi, if_pos hi]
    simp [List.getD_eq_getElem?_getD, hi]
  · rw [List.getElem?_eq_none (by rw [upTo_length]; omega), List.getElem?_eq_none (by simp; omega)]
end Go.Proofs.Ytnllhhamebmlnaa
