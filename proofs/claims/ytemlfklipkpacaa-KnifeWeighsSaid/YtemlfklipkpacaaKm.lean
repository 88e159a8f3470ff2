import Derived.Test.YtemlfklipkpacaaB1
/- Plain arithmetic of the fields of package knife; nothing of the program is imported. -/
namespace Go.Proofs.Ytemlfklipkpacaa
namespace Kn
def okL (x : Int) : Bool := decide (1 ≤ x) && decide (x ≤ 20)
def okV (x : Int) : Bool := decide (0 ≤ x) && decide (x ≤ 20)
def okRow (n : Nat) (r : List Int) : Bool := decide (r.length = n) && (r.all okV && r.any fun v => decide (0 < v))
/-- The code of a field. -/
def val (L : List Int) (V : List (List Int)) : Int :=
  if (L.length < 1 ∨ 6 < L.length) ∨ (V.length < 1 ∨ 5 < V.length) then 3 else if L.all okL && V.all (okRow L.length) then 0 else 1
/-- A field as an owner values it. -/
def Z (L : List Int) (V : List (List Int)) (o : Nat) : List (Int × Int) := List.zip L (V.getD o [])
def stop (L : List Int) : Int := Fl.sumI L
structure Ok (L : List Int) (V : List (List Int)) : Prop where
  l1 : 1 ≤ L.length
  l6 : L.length ≤ 6
  v1 : 1 ≤ V.length
  v5 : V.length ≤ 5
  ln : ∀ x ∈ L, 1 ≤ x ∧ x ≤ 20
  row : ∀ r ∈ V, r.length = L.length ∧ (∀ v ∈ r, 0 ≤ v ∧ v ≤ 20) ∧ ∃ v ∈ r, 0 < v
theorem val_ok {L : List Int} {V : List (List Int)} : val L V = 0 ↔ Ok L V := by
  unfold val
  by_cases h : (L.length < 1 ∨ 6 < L.length) ∨ (V.length < 1 ∨ 5 < V.length)
  · rw [if_pos h]
    constructor
    · intro h'; cases h'
    · intro h'; have := h'.l1; have := h'.l6; have := h'.v1; have := h'.v5; omega
  · rw [if_neg h]
    by_cases h2 : (L.all okL && V.all (okRow L.length)) = true
    · rw [if_pos h2]
      simp only [Bool.and_eq_true, List.all_eq_true, okRow, okL, okV, List.any_eq_true, decide_eq_true_eq] at h2
      refine ⟨fun _ => ⟨by omega, by omega, by omega, by omega, h2.1, fun r hr => ?_⟩, fun _ => rfl⟩
      obtain ⟨a, b, c⟩ := h2.2 r hr
      exact ⟨a, b, c⟩
    · rw [if_neg h2]
      constructor
      · intro h'; cases h'
      · intro h'
        exfalso
        apply h2
        simp only [Bool.and_eq_true, List.all_eq_true, okRow, okL, okV, List.any_eq_true, decide_eq_true_eq]
        exact ⟨h'.ln, fun r hr => ⟨(h'.row r hr).1, (h'.row r hr).2.1, (h'.row r hr).2.2⟩⟩
theorem Ok.rowAt {L : List Int} {V : List (List Int)} (h : Ok L V) {o : Nat} (ho : o < V.length) : (V.getD o []).length = L.length ∧ (∀ v ∈ V.getD o [], 0 ≤ v ∧ v ≤ 20) ∧ ∃ v ∈ V.getD o [], 0 < v := by
  rw [List.getD_eq_getElem?_getD, List.getElem?_eq_getElem ho]
  exact h.row _ (List.getElem_mem ho)
theorem Ok.zOk {L : List Int} {V : List (List Int)} (h : Ok L V) {o : Nat} (ho : o < V.length) : Fl.Ok (Z L V o) := by
  intro z hz
  have := List.of_mem_zip hz
  have a := h.ln _ this.1
  have b := (h.rowAt ho).2.1 _ this.2
  exact ⟨a.1, a.2, b.1, b.2⟩
theorem Ok.zLen {L : List Int} {V : List (List Int)} (h : Ok L V) {o : Nat} (ho : o < V.length) : (Z L V o).length = L.length := by
  unfold Z
  rw [List.length_zip, (h.rowAt ho).1, Nat.min_self]
theorem len_zip {L R : List Int} : L.length = R.length → Fl.len (List.zip L R) = Fl.sumI L := by
  induction L generalizing R with
  | nil => intro _; rfl
  | cons x L ih =>
    cases R with
    | nil => intro h; simp at h
    | cons y R =>
      intro h
      have := ih (R := R) (by simpa using h)
      simp only [List.zip_cons_cons, Fl.len, Fl.sumI_cons, this]
theorem Ok.zStop {L : List Int} {V : List (List Int)} (h : Ok L V) {o : Nat} (ho : o < V.length) : Fl.len (Z L V o) = stop L := len_zip (h.rowAt ho).1.symm
theorem tot_zip_pos {L R : List Int} (hl : L.length = R.length) (hL : ∀ x ∈ L, 1 ≤ x) (hR : ∀ v ∈ R, 0 ≤ v) (hp : ∃ v ∈ R, 0 < v) : 0 < Fl.tot (List.zip L R) := by
  induction L generalizing R with
  | nil =>
    obtain ⟨v, hv, -⟩ := hp
    cases R with
    | nil => simp at hv
    | cons => simp at hl
  | cons x L ih =>
    cases R with
    | nil => simp at hl
    | cons y R =>
      have hx := hL x (by simp)
      have hy := hR y (by simp)
      have h0 : ∀ {A B : List Int}, (∀ x ∈ A, 1 ≤ x) → (∀ v ∈ B, 0 ≤ v) → 0 ≤ Fl.tot (List.zip A B) := by
        intro A
        induction A with
        | nil => intros; simp [Fl.tot]
        | cons a A iA =>
          intro B h1 h2
          cases B with
          | nil => simp [Fl.tot]
          | cons b B =>
            have := iA (B := B) (fun x hx => h1 x (by simp [hx])) (fun x hx => h2 x (by simp [hx]))
            have m := Int.mul_nonneg (show 0 ≤ a by have := h1 a (by simp); omega) (h2 b (by simp))
            simp only [List.zip_cons_cons, Fl.tot]
            omega
      have t0 := h0 (A := L) (B := R) (fun x hx => hL x (by simp [hx])) (fun x hx => hR x (by simp [hx]))
      simp only [List.zip_cons_cons, Fl.tot]
      by_cases hy0 : 0 < y
      · have := Int.mul_pos (show 0 < x by omega) hy0
        omega
      · have : y = 0 := by omega
        subst this
        obtain ⟨v, hv, hv0⟩ := hp
        rcases List.mem_cons.1 hv with rfl | hv
        · omega
        · have := ih (R := R) (by simpa using hl) (fun x hx => hL x (by simp [hx])) (fun x hx => hR x (by simp [hx])) ⟨v, hv, hv0⟩
          rw [Int.mul_zero]
          omega
theorem Ok.zTot {L : List Int} {V : List (List Int)} (h : Ok L V) {o : Nat} (ho : o < V.length) : 0 < Fl.tot (Z L V o) ∧ Fl.tot (Z L V o) ≤ 2400 := by
  refine ⟨tot_zip_pos (h.rowAt ho).1.symm (fun x hx => (h.ln x hx).1) (fun v hv => ((h.rowAt ho).2.1 v hv).1) (h.rowAt ho).2.2, ?_⟩
  have := (Fl.tot_bound (h.zOk ho)).2
  have := h.zLen ho
  have := h.l6
  omega
theorem Ok.stopB {L : List Int} {V : List (List Int)} (h : Ok L V) : 1 ≤ stop L ∧ stop L ≤ 120 := by
  have h1 := h.zStop (o := 0) h.v1
  have h2 := Fl.len_bound (h.zOk (o := 0) h.v1)
  have h3 := h.zLen (o := 0) h.v1
  have := h.l1
  have := h.l6
  omega
end Kn
end Go.Proofs.Ytemlfklipkpacaa
