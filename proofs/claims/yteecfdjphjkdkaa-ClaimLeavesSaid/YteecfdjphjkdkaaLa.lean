import Derived.Test.YteecfdjphjkdkaaHa
namespace Go.Proofs.Yteecfdjphjkdkaa
open Go.RowKit
namespace Cl
theorem sum_map_take (f : Int → Int) {L : List Int} {k : Nat} (hk : k < L.length) : Fl.sumI ((L.take (k + 1)).map f) = Fl.sumI ((L.take k).map f) + f L[k] := by
  rw [List.take_succ_eq_append_getElem hk, List.map_append, Fl.sumI_app]
  simp [Fl.sumI]
/-- What the claims below c are together. -/
def sB (L : List Int) (c : Int) : Int := Fl.sumI (L.map fun x => if x < c then x else 0)
/-- How many claims are not below c. -/
def nG (L : List Int) (c : Int) : Int := Fl.sumI (L.map fun x => if x < c then 0 else 1)
/-- The greatest claim below c, or 0. -/
def mS (L : List Int) (c : Int) : Int := L.foldl (fun m x => if x < c then max m x else m) 0
theorem sB_cons (x : Int) (L : List Int) (c : Int) : sB (x :: L) c = (if x < c then x else 0) + sB L c := by unfold sB; rw [List.map_cons, Fl.sumI_cons]
theorem nG_cons (x : Int) (L : List Int) (c : Int) : nG (x :: L) c = (if x < c then 0 else 1) + nG L c := by unfold nG; rw [List.map_cons, Fl.sumI_cons]
theorem sB_take {L : List Int} {k : Nat} (c : Int) (hk : k < L.length) : sB (L.take (k + 1)) c = sB (L.take k) c + if L[k] < c then L[k] else 0 := sum_map_take _ hk
theorem nG_take {L : List Int} {k : Nat} (c : Int) (hk : k < L.length) : nG (L.take (k + 1)) c = nG (L.take k) c + if L[k] < c then 0 else 1 := sum_map_take _ hk
theorem mS_take {L : List Int} {k : Nat} (c : Int) (hk : k < L.length) : mS (L.take (k + 1)) c = if L[k] < c then max (mS (L.take k) c) L[k] else mS (L.take k) c := by
  unfold mS
  rw [List.take_succ_eq_append_getElem hk, List.foldl_append]
  rfl
theorem nG_bound (L : List Int) (c : Int) : 0 ≤ nG L c ∧ nG L c ≤ L.length := by
  induction L with
  | nil => simp [nG, Fl.sumI]
  | cons x r ih => rw [nG_cons, List.length_cons]; push_cast; split <;> omega
theorem sB_bound {L : List Int} (h : ∀ x ∈ L, 0 ≤ x) (c : Int) : 0 ≤ sB L c ∧ sB L c ≤ Fl.sumI L := by
  induction L with
  | nil => simp [sB, Fl.sumI]
  | cons x r ih =>
    have h1 := h x (by simp)
    have h2 := ih fun y hy => h y (by simp [hy])
    rw [sB_cons, Fl.sumI_cons]
    split <;> omega
theorem mS_fold (L : List Int) (c m : Int) (hm : 0 ≤ m) : m ≤ L.foldl (fun m x => if x < c then max m x else m) m ∧ (∀ x ∈ L, x < c → x ≤ L.foldl (fun m x => if x < c then max m x else m) m) ∧
    (L.foldl (fun m x => if x < c then max m x else m) m = m ∨ (L.foldl (fun m x => if x < c then max m x else m) m ∈ L ∧ L.foldl (fun m x => if x < c then max m x else m) m < c)) := by
  induction L generalizing m with
  | nil => simp
  | cons x r ih =>
    rw [List.foldl_cons]
    by_cases hx : x < c
    · rw [if_pos hx]
      obtain ⟨h1, h2, h3⟩ := ih (max m x) (by omega)
      generalize List.foldl (fun m x => if x < c then max m x else m) (max m x) r = F at *
      refine ⟨by omega, fun y hy hyc => ?_, ?_⟩
      · rcases List.mem_cons.1 hy with rfl | hy
        · omega
        · exact h2 y hy hyc
      · rcases h3 with h3 | ⟨h3, h4⟩
        · by_cases hmx : x ≤ m
          · left; omega
          · right; exact ⟨by rw [show F = x by omega]; simp, by omega⟩
        · exact .inr ⟨List.mem_cons_of_mem _ h3, h4⟩
    · rw [if_neg hx]
      obtain ⟨h1, h2, h3⟩ := ih m hm
      generalize List.foldl (fun m x => if x < c then max m x else m) m r = F at *
      refine ⟨h1, fun y hy hyc => ?_, ?_⟩
      · rcases List.mem_cons.1 hy with rfl | hy
        · exact absurd hyc hx
        · exact h2 y hy hyc
      · rcases h3 with h3 | ⟨h3, h4⟩
        · exact .inl h3
        · exact .inr ⟨List.mem_cons_of_mem _ h3, h4⟩
theorem mS_spec (L : List Int) (c : Int) : 0 ≤ mS L c ∧ (∀ x ∈ L, x < c → x ≤ mS L c) ∧ (mS L c = 0 ∨ (mS L c ∈ L ∧ mS L c < c)) := mS_fold L c 0 (by omega)
theorem mS_take_bound {L : List Int} (h : ∀ x ∈ L, 0 ≤ x ∧ x ≤ 1000) (c : Int) (k : Nat) : 0 ≤ mS (L.take k) c ∧ mS (L.take k) c ≤ 1000 := by
  obtain ⟨h1, h2, h3⟩ := mS_spec (L.take k) c
  refine ⟨h1, ?_⟩
  rcases h3 with h3 | ⟨h3, -⟩
  · omega
  · exact (h _ (List.mem_of_mem_take h3)).2
def pass (L : List Int) (E c : Int) : Prop := nG L c * mS L c ≤ E - sB L c ∧ E - sB L c ≤ nG L c * c
theorem below_split {L M : List Int} {c a d : Int} (hsub : ∀ x ∈ M, x ∈ L) (h1 : ∀ x ∈ L, x < c → x * d ≤ a) (h2 : ∀ x ∈ L, ¬ x < c → a ≤ x * d) : below M a d = sB M c * d + nG M c * a := by
  induction M with
  | nil => simp [below, sB, nG, Fl.sumI]
  | cons x r ih =>
    rw [below_cons, sB_cons, nG_cons, ih fun y hy => hsub y (by simp [hy]), Int.add_mul, Int.add_mul]
    have hx := hsub x (by simp)
    by_cases hxc : x < c
    · rw [if_pos hxc, if_pos hxc, Int.min_eq_left (h1 x hx hxc)]; omega
    · rw [if_neg hxc, if_neg hxc, Int.min_eq_right (h2 x hx hxc)]; omega
theorem nG_pos {L : List Int} {c : Int} (hc : c ∈ L) : 1 ≤ nG L c := by
  induction L with
  | nil => cases hc
  | cons x r ih =>
    rw [nG_cons]
    have := (nG_bound r c).1
    rcases List.mem_cons.1 hc with rfl | h
    · rw [if_neg (by omega)]; omega
    · have := ih h; split <;> omega
theorem pass_lev {L : List Int} {E c : Int} (hC : okC L = true) (h1 : E ≤ Fl.sumI L) (hc : c ∈ L) (hp : pass L E c) : LevS L E (E - sB L c) (nG L c) := by
  obtain ⟨p1, p2⟩ := hp
  have hC := okC_iff.1 hC
  obtain ⟨m1, m2, m3⟩ := mS_spec L c
  have hn := nG_pos hc
  have hnb := nG_bound L c
  have hsb := sB_bound (fun x hx => (hC.2.2 x hx).1) c
  have hS8 : Fl.sumI L ≤ 8000 := by
    have h := Cl.sum_small (B := 1000) (by omega) (l := L) (fun x hx => by have := hC.2.2 x hx; omega)
    omega
  have p0 : 0 ≤ nG L c * mS L c := Int.mul_nonneg (by omega) m1
  refine ⟨⟨by omega, by omega, ?_, c, hc, by rw [Int.mul_comm c]; exact p2⟩, by omega, by omega⟩
  rw [below_split (L := L) (c := c) (fun x hx => hx)]
  · rw [← Int.mul_comm (E - sB L c), ← Int.add_mul]; congr 1; omega
  · intro x hx hxc
    have := Int.mul_le_mul_of_nonneg_right (m2 x hx hxc) (show 0 ≤ nG L c by omega)
    rw [Int.mul_comm (mS L c)] at this
    omega
  · intro x hx hxc
    have := Int.mul_le_mul_of_nonneg_left (show c ≤ x by omega) (show 0 ≤ nG L c by omega)
    rw [Int.mul_comm x]
    omega
/-- The sum of those from c on. -/
theorem sB_top {L : List Int} {c : Int} (h : ∀ x ∈ L, x ≤ c) : Fl.sumI L - sB L c = nG L c * c := by
  induction L with
  | nil => simp [sB, nG, Fl.sumI]
  | cons x r ih =>
    have := ih fun y hy => h y (by simp [hy])
    have hx := h x (by simp)
    rw [sB_cons, nG_cons, Fl.sumI_cons, Int.add_mul]
    by_cases hxc : x < c
    · rw [if_pos hxc, if_pos hxc]; omega
    · rw [if_neg hxc, if_neg hxc]; omega
theorem sB_step {L : List Int} {s c : Int} (hsc : s < c) (h : ∀ x ∈ L, x < c → x ≤ s) : sB L c = sB L s + (nG L s - nG L c) * s := by
  induction L with
  | nil => simp [sB, nG, Fl.sumI]
  | cons x r ih =>
    have := ih fun y hy => h y (by simp [hy])
    have hx := h x (by simp)
    rw [sB_cons, sB_cons, nG_cons, nG_cons]
    by_cases h1 : x < s
    · rw [if_pos h1, if_pos h1, if_pos (show x < c by omega), if_pos (show x < c by omega)]
      rw [Int.zero_add, Int.zero_add, this]; omega
    · by_cases h2 : x < c
      · have : x = s := by have := hx h2; omega
        subst this
        rw [if_neg h1, if_neg h1, if_pos h2, if_pos h2, ‹sB r c = _›]
        rw [show (1 + nG r x - (0 + nG r c)) = (nG r x - nG r c) + 1 by omega, Int.add_mul]; omega
      · rw [if_neg h1, if_neg h1, if_neg h2, if_neg h2, this]
        rw [show (1 + nG r s - (1 + nG r c)) = (nG r s - nG r c) by omega]; omega
theorem exists_min {P : Int → Prop} {L : List Int} (h : ∃ c ∈ L, P c) : ∃ c ∈ L, P c ∧ ∀ x ∈ L, x < c → ¬ P x := by
  induction L with
  | nil => obtain ⟨c, hc, _⟩ := h; cases hc
  | cons y r ih =>
    by_cases hr : ∃ c ∈ r, P c
    · obtain ⟨c, hc, hp, hmin⟩ := ih hr
      by_cases hy : P y ∧ y < c
      · exact ⟨y, by simp, hy.1, fun x hx hxy => by
          rcases List.mem_cons.1 hx with rfl | hx
          · omega
          · exact hmin x hx (by omega)⟩
      · exact ⟨c, List.mem_cons_of_mem _ hc, hp, fun x hx hxc => by
          rcases List.mem_cons.1 hx with rfl | hx
          · exact fun h => hy ⟨h, hxc⟩
          · exact hmin x hx hxc⟩
    · obtain ⟨c, hc, hp⟩ := h
      rcases List.mem_cons.1 hc with rfl | hc
      · exact ⟨c, by simp, hp, fun x hx hxc => by
          rcases List.mem_cons.1 hx with rfl | hx
          · omega
          · exact fun h => hr ⟨x, hx, h⟩⟩
      · exact absurd ⟨c, hc, hp⟩ hr
theorem pass_exists {L : List Int} {E : Int} (hC : okC L = true) (h0 : 0 ≤ E) (h1 : E ≤ Fl.sumI L) : ∃ c ∈ L, pass L E c := by
  have hC := okC_iff.1 hC
  obtain ⟨m, hm, hmax⟩ := exists_max (R := L) (by omega)
  obtain ⟨c, hc, hp, hmin⟩ := exists_min (P := fun c => E - sB L c ≤ nG L c * c) ⟨m, hm, by have := sB_top hmax; omega⟩
  refine ⟨c, hc, ?_, hp⟩
  obtain ⟨m1, m2, m3⟩ := mS_spec L c
  by_cases hs : ∃ x ∈ L, x < c
  · obtain ⟨x, hx, hxc⟩ := hs
    rcases m3 with m3 | ⟨m3, m4⟩
    · have hx0 : x = 0 := by have := m2 x hx hxc; have := (hC.2.2 x hx).1; omega
      subst hx0
      have hnp := hmin 0 hx hxc
      have hst := sB_step hxc (fun y hy hyc => by rw [← m3]; exact m2 y hy hyc)
      rw [m3]
      rw [Int.mul_zero] at *
      omega
    · have hnp := hmin _ m3 m4
      have hst := sB_step m4 (fun y hy hyc => m2 y hy hyc)
      rw [Int.sub_mul] at hst
      omega
  · have hz : sB L c = 0 := by
      have : ∀ (M : List Int), (∀ x ∈ M, ¬ x < c) → sB M c = 0 := by
        intro M hM
        induction M with
        | nil => simp [sB, Fl.sumI]
        | cons y r ih => rw [sB_cons, if_neg (hM y (by simp)), ih fun x hx => hM x (by simp [hx])]; rfl
      exact this L fun x hx hxc => hs ⟨x, hx, hxc⟩
    rcases m3 with m3 | ⟨m3, m4⟩
    · rw [m3, Int.mul_zero]; omega
    · exact absurd ⟨_, m3, m4⟩ hs
theorem levS_unique {L : List Int} {E a d b e : Int} (h1 : LevS L E a d) (h2 : LevS L E b e) : mkRat a d.toNat = mkRat b e.toNat := by
  have h := lev_unique h1.1 h2.1
  have hd := h1.1.2.1
  have he := h2.1.2.1
  rw [Rat.mkRat_eq_iff (by omega) (by omega), Int.toNat_of_nonneg (by omega), Int.toNat_of_nonneg (by omega)]
  exact h
end Cl
end Go.Proofs.Yteecfdjphjkdkaa
