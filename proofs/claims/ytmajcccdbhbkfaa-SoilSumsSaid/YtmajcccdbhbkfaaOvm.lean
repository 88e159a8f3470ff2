import Derived.Test.YtmajcccdbhbkfaaDrm
import Derived.Deep.AppendLies
namespace Go.Proofs.Ytmajcccdbhbkfaa
namespace Fl
/-- What two strips have in common: its length and both values. -/
def ovZ (s t : Int × Int × Int) : List (Int × Int × Int) := if max s.1 t.1 < min s.2.1 t.2.1 then [(min s.2.1 t.2.1 - max s.1 t.1, s.2.2, t.2.2)] else []
def ovRow (s : Int × Int × Int) (G : List (Int × Int × Int)) : List (Int × Int × Int) := G.flatMap (ovZ s)
def ovs (F G : List (Int × Int × Int)) : List (Int × Int × Int) := F.flatMap fun s => ovRow s G
theorem ovRow_take {s : Int × Int × Int} {G : List (Int × Int × Int)} {j : Nat} (hj : j < G.length) : ovRow s (G.take (j + 1)) = ovRow s (G.take j) ++ ovZ s G[j] := by
  unfold ovRow
  rw [List.take_succ_eq_append_getElem hj, List.flatMap_append]
  simp
theorem ovs_take {F G : List (Int × Int × Int)} {k : Nat} (hk : k < F.length) : ovs (F.take (k + 1)) G = ovs (F.take k) G ++ ovRow F[k] G := by
  unfold ovs
  rw [List.take_succ_eq_append_getElem hk, List.flatMap_append]
  simp
theorem ovZ_length (s t : Int × Int × Int) : (ovZ s t).length ≤ 1 := by
  unfold ovZ; split <;> simp
theorem ovRow_length (s : Int × Int × Int) (G : List (Int × Int × Int)) : (ovRow s G).length ≤ G.length := by
  induction G with
  | nil => simp [ovRow]
  | cons t r ih =>
    have := ovZ_length s t
    unfold ovRow at ih ⊢
    rw [List.flatMap_cons, List.length_append, List.length_cons]
    omega
theorem ovs_length (F G : List (Int × Int × Int)) : (ovs F G).length ≤ F.length * G.length := by
  induction F with
  | nil => simp [ovs]
  | cons s r ih =>
    have := ovRow_length s G
    unfold ovs at ih ⊢
    rw [List.flatMap_cons, List.length_append, List.length_cons, Nat.add_mul]
    omega
theorem strips_mem {l : List (Int × Int)} (hok : Ok l) : ∀ {s : Int} {x : Int × Int × Int}, x ∈ strips s l → s ≤ x.1 ∧ x.1 < x.2.1 ∧ x.2.1 ≤ s + len l ∧ 0 ≤ x.2.2 ∧ x.2.2 ≤ 20 := by
  induction l with
  | nil => intro s x hx; simp [strips] at hx
  | cons z r ih =>
    intro s x hx
    have hz := hok.head
    have hl := (len_bound hok.tail).1
    simp only [strips, List.mem_cons] at hx
    simp only [len]
    rcases hx with rfl | hx
    · refine ⟨Int.le_refl _, ?_, ?_, ?_, ?_⟩ <;> simp only [] <;> omega
    · have := ih hok.tail hx
      omega
/-- The value of a unit is that of the strip in which it lies. -/
theorem strips_unit {l : List (Int × Int)} (hok : Ok l) : ∀ {s : Int} {x : Int × Int × Int}, x ∈ strips s l → ∀ i : Nat, x.1 ≤ s + i → s + (i : Int) < x.2.1 → (units l).getD i 0 = x.2.2 := by
  induction l with
  | nil => intro s x hx; simp [strips] at hx
  | cons z r ih =>
    intro s x hx i h1 h2
    have hz := hok.head
    simp only [strips, List.mem_cons] at hx
    simp only [units]
    rcases hx with rfl | hx
    · simp only at h1 h2
      rw [List.getD_eq_getElem?_getD, List.getElem?_append_left (by rw [List.length_replicate]; omega), List.getElem?_replicate, if_pos (by omega)]
      rfl
    · have hm := strips_mem hok.tail hx
      have hge : z.1.toNat ≤ i := by omega
      rw [List.getD_eq_getElem?_getD, List.getElem?_append_right (by rw [List.length_replicate]; exact hge), List.length_replicate, ← List.getD_eq_getElem?_getD]
      exact ih hok.tail hx (i - z.1.toNat) (by omega) (by omega)
theorem strips_has {l : List (Int × Int)} (hok : Ok l) : ∀ {s : Int} (i : Nat), (i : Int) < len l → ∃ x ∈ strips s l, x.1 ≤ s + i ∧ s + (i : Int) < x.2.1 := by
  induction l with
  | nil => intro s i h; simp only [len] at h; omega
  | cons z r ih =>
    intro s i h
    have hz := hok.head
    simp only [strips, List.mem_cons]
    simp only [len] at h
    by_cases hi : (i : Int) < z.1
    · exact ⟨_, .inl rfl, by simp only []; omega, by simp only []; omega⟩
    · obtain ⟨x, hx, h1, h2⟩ := ih hok.tail (s := s + z.1) (i - z.1.toNat) (by omega)
      exact ⟨x, .inr hx, by omega, by omega⟩
/-- Each pair of values that both fields have at the same unit is that of an overlap, and each overlap has such a pair. -/
theorem ov_units {f g : List (Int × Int)} (hf : Ok f) (hg : Ok g) (i : Nat) (h1 : (i : Int) < len f) (h2 : (i : Int) < len g) : ∃ o ∈ ovs (strips 0 f) (strips 0 g), o.2.1 = (units f).getD i 0 ∧ o.2.2 = (units g).getD i 0 := by
  obtain ⟨s, hs, s1, s2⟩ := strips_has hf (s := 0) i h1
  obtain ⟨t, ht, t1, t2⟩ := strips_has hg (s := 0) i h2
  refine ⟨(min s.2.1 t.2.1 - max s.1 t.1, s.2.2, t.2.2), ?_, (strips_unit hf hs i s1 s2).symm, (strips_unit hg ht i t1 t2).symm⟩
  unfold ovs
  rw [List.mem_flatMap]
  refine ⟨s, hs, ?_⟩
  unfold ovRow
  rw [List.mem_flatMap]
  refine ⟨t, ht, ?_⟩
  unfold ovZ
  rw [if_pos (by omega)]
  simp
theorem ov_pair {f g : List (Int × Int)} (hf : Ok f) (hg : Ok g) {o : Int × Int × Int} (ho : o ∈ ovs (strips 0 f) (strips 0 g)) : ∃ i : Nat, (i : Int) < len f ∧ (i : Int) < len g ∧ o.2.1 = (units f).getD i 0 ∧ o.2.2 = (units g).getD i 0 := by
  unfold ovs at ho
  rw [List.mem_flatMap] at ho
  obtain ⟨s, hs, ho⟩ := ho
  unfold ovRow at ho
  rw [List.mem_flatMap] at ho
  obtain ⟨t, ht, ho⟩ := ho
  unfold ovZ at ho
  have ms := strips_mem hf hs
  have mt := strips_mem hg ht
  by_cases h : max s.1 t.1 < min s.2.1 t.2.1
  · rw [if_pos h, List.mem_singleton] at ho
    subst ho
    refine ⟨(max s.1 t.1).toNat, by omega, by omega, (strips_unit hf hs _ (by omega) (by omega)).symm, (strips_unit hg ht _ (by omega) (by omega)).symm⟩
  · rw [if_neg h] at ho
    cases ho
end Fl
end Go.Proofs.Ytmajcccdbhbkfaa
