import Derived.Test.YtmajcccdbhbkfaaPlm
namespace Go.Proofs.Ytmajcccdbhbkfaa
namespace Fl
/-- The units of a field, each with its value and whether a zone begins there; p for the first one. -/
def fu (p : Bool) : List (Int × Int) → List (Int × Bool)
  | [] => []
  | z :: r => (z.2, p) :: List.replicate (z.1.toNat - 1) (z.2, false) ++ fu true r
def both (s t : Int × Bool) : Int × Bool := (s.1 + t.1, s.2 || t.2)
def sumU (p q : Bool) (f g : List (Int × Int)) : List (Int × Bool) := List.zipWith both (fu p f) (fu q g)
/-- Zones out of units: what is done, the last zone, and the units to come. -/
def sumGo (A : List (Int × Int)) (y : Int × Int) : List (Int × Bool) → List (Int × Int)
  | [] => A ++ [y]
  | u :: r => if u.2 then sumGo (A ++ [y]) (1, u.1) r else sumGo A (y.1 + 1, y.2) r
def ovSum (o : Int × Int × Int) : Int × Int := (o.1, o.2.1 + o.2.2)
/-- The zones of the sum. -/
def sumF (f g : List (Int × Int)) : List (Int × Int) := (ovs (strips 0 f) (strips 0 g)).map ovSum
theorem sumGo_rep (k : Nat) : ∀ {A : List (Int × Int)} {c s v : Int} {R : List (Int × Bool)}, sumGo A (c, s) (List.replicate k (v, false) ++ R) = sumGo A (c + k, s) R := by
  induction k with
  | zero => intro A c s v R; simp
  | succ k ih =>
    intro A c s v R
    rw [List.replicate_succ, List.cons_append]
    simp only [sumGo, Bool.false_eq_true, if_false]
    rw [ih]
    congr 2
    push_cast
    omega
theorem fu_split {p : Bool} {a x : Int} {r : List (Int × Int)} {m : Nat} (h1 : 1 ≤ m) (h2 : (m : Int) ≤ a) :
    fu p ((a, x) :: r) = (x, p) :: List.replicate (m - 1) (x, false) ++ (if (m : Int) = a then fu true r else fu false ((a - m, x) :: r)) := by
  simp only [fu]
  split
  · rename_i h
    rw [← h]
    rfl
  · rename_i h
    have e : a.toNat - 1 = (m - 1) + ((a - m).toNat - 1 + 1) := by omega
    rw [e, ← List.replicate_append_replicate, List.replicate_succ]
    simp only [List.cons_append, List.append_assoc]
theorem sumU_split {p q : Bool} {a x b y : Int} {f g : List (Int × Int)} {m : Nat} (h1 : 1 ≤ m) (h2 : (m : Int) ≤ a) (h3 : (m : Int) ≤ b) :
    sumU p q ((a, x) :: f) ((b, y) :: g) = (x + y, p || q) :: List.replicate (m - 1) (x + y, false) ++ List.zipWith both (if (m : Int) = a then fu true f else fu false ((a - m, x) :: f)) (if (m : Int) = b then fu true g else fu false ((b - m, y) :: g)) := by
  unfold sumU
  rw [fu_split h1 h2, fu_split h1 h3, List.zipWith_append (by simp)]
  simp only [List.zipWith_cons_cons, List.zipWith_replicate, Nat.min_self]
  rfl
theorem ovZ_nil {s t : Int × Int × Int} (h : s.2.1 ≤ t.1 ∨ t.2.1 ≤ s.1) : ovZ s t = [] := by
  unfold ovZ; rw [if_neg (by omega)]
theorem ovRow_nil {s : Int × Int × Int} {G : List (Int × Int × Int)} (h : ∀ t ∈ G, s.2.1 ≤ t.1) : ovRow s G = [] := by
  unfold ovRow
  rw [List.flatMap_eq_nil_iff]
  exact fun t ht => ovZ_nil (.inl (h t ht))
theorem ovRow_cons (s t : Int × Int × Int) (G : List (Int × Int × Int)) : ovRow s (t :: G) = ovZ s t ++ ovRow s G := by unfold ovRow; rw [List.flatMap_cons]
theorem ovs_cons (s : Int × Int × Int) (F G : List (Int × Int × Int)) : ovs (s :: F) G = ovRow s G ++ ovs F G := by unfold ovs; rw [List.flatMap_cons]
theorem ovs_congr {F G G' : List (Int × Int × Int)} (h : ∀ s ∈ F, ovRow s G = ovRow s G') : ovs F G = ovs F G' := by
  induction F with
  | nil => rfl
  | cons s r ih => rw [ovs_cons, ovs_cons, h s (by simp), ih (fun s hs => h s (by simp [hs]))]
theorem ovRow_congr {s s' : Int × Int × Int} {G : List (Int × Int × Int)} (h : ∀ t ∈ G, ovZ s t = ovZ s' t) : ovRow s G = ovRow s' G := by
  induction G with
  | nil => rfl
  | cons t r ih => rw [ovRow_cons, ovRow_cons, h t (by simp), ih (fun t ht => h t (by simp [ht]))]
/-- The zones that the units make are those that the strips have in common. -/
theorem sum_merge (n : Nat) : ∀ {f g : List (Int × Int)} {s : Int} {p q : Bool} {A : List (Int × Int)} {y0 : Int × Int}, f.length + g.length ≤ n → Ok f → Ok g → len f = len g → (p || q) = true →
    sumGo A y0 (sumU p q f g) = A ++ [y0] ++ (ovs (strips s f) (strips s g)).map ovSum := by
  induction n with
  | zero =>
    intro f g s p q A y0 hn hf hg hl hpq
    have h1 : f = [] := List.length_eq_zero_iff.1 (by omega)
    subst h1
    simp [sumU, fu, sumGo, strips, ovs]
  | succ n ih =>
    intro f g s p q A y0 hn hf hg hl hpq
    match f, g, hn, hf, hg, hl with
    | [], g, _, _, _, _ => simp [sumU, fu, sumGo, strips, ovs]
    | z :: f, [], _, hf, _, hl =>
      have := hf.head
      have := (len_bound hf.tail).1
      simp only [len] at hl
      omega
    | (a, x) :: f, (b, y) :: g, hn, hf, hg, hl =>
      have ha := hf.head
      have hb := hg.head
      simp only at ha hb
      simp only [List.length_cons] at hn
      simp only [len] at hl
      have hFm : ∀ t ∈ strips (s + a) f, s + a ≤ t.1 ∧ t.1 < t.2.1 := fun t ht => by have := strips_mem hf.tail ht; omega
      have hGm : ∀ t ∈ strips (s + b) g, s + b ≤ t.1 ∧ t.1 < t.2.1 := fun t ht => by have := strips_mem hg.tail ht; omega
      simp only [strips]
      rw [ovs_cons, ovRow_cons]
      have hz : ovZ (s, s + a, x) (s, s + b, y) = [(min a b, x, y)] := by
        unfold ovZ
        simp only
        rw [if_pos (by omega)]
        congr 2
        omega
      rw [hz]
      by_cases h1 : a < b
      · have e1 : ovRow (s, s + a, x) (strips (s + b) g) = [] := ovRow_nil fun t ht => by have := hGm t ht; simp only; omega
        have e2 : ovs (strips (s + a) f) ((s, s + b, y) :: strips (s + b) g) = ovs (strips (s + a) f) (strips (s + a) ((b - a, y) :: g)) := by
          simp only [strips]
          rw [show s + a + (b - a) = s + b by omega]
          refine ovs_congr fun t ht => ?_
          rw [ovRow_cons, ovRow_cons]
          congr 1
          have := hFm t ht
          unfold ovZ
          simp only
          rw [show max t.1 s = max t.1 (s + a) by omega]
        rw [sumU_split (m := a.toNat) (by omega) (by omega) (by omega), if_pos (by omega), if_neg (by omega)]
        rw [hpq]
        simp only [List.cons_append, sumGo, if_true]
        rw [sumGo_rep, e1, e2, show min a b = a by omega, show (1 : Int) + ((a.toNat - 1 : Nat) : Int) = a by omega, show b - (a.toNat : Int) = b - a by omega]
        have hg2 : Ok ((b - a, y) :: g) := fun z hz => by
          rcases List.mem_cons.1 hz with rfl | hz
          · simp only; omega
          · exact hg.tail z hz
        have := ih (f := f) (g := (b - a, y) :: g) (s := s + a) (p := true) (q := false) (A := A ++ [y0]) (y0 := (a, x + y)) (by simp only [List.length_cons]; omega) hf.tail hg2 (by simp only [len]; omega) rfl
        unfold sumU at this
        rw [this]
        simp [ovSum]
      · by_cases h2 : b < a
        · have e1 : ovs (strips (s + a) f) ((s, s + b, y) :: strips (s + b) g) = ovs (strips (s + a) f) (strips (s + b) g) := by
            refine ovs_congr fun t ht => ?_
            have := hFm t ht
            rw [ovRow_cons, ovZ_nil (.inr (by simp only; omega)), List.nil_append]
          have e2 : ovRow (s, s + a, x) (strips (s + b) g) = ovRow (s + b, s + a, x) (strips (s + b) g) := by
            refine ovRow_congr fun t ht => ?_
            have := hGm t ht
            unfold ovZ
            simp only
            rw [show max s t.1 = max (s + b) t.1 by omega]
          have e3 : ovRow (s + b, s + a, x) (strips (s + b) g) ++ ovs (strips (s + a) f) (strips (s + b) g) = ovs (strips (s + b) ((a - b, x) :: f)) (strips (s + b) g) := by
            simp only [strips]
            rw [show s + b + (a - b) = s + a by omega, ovs_cons]
          rw [sumU_split (m := b.toNat) (by omega) (by omega) (by omega), if_neg (by omega), if_pos (by omega)]
          rw [hpq]
          simp only [List.cons_append, sumGo, if_true]
          rw [sumGo_rep, e1, e2, List.nil_append, e3, show min a b = b by omega, show (1 : Int) + ((b.toNat - 1 : Nat) : Int) = b by omega, show a - (b.toNat : Int) = a - b by omega]
          have hf2 : Ok ((a - b, x) :: f) := fun z hz => by
            rcases List.mem_cons.1 hz with rfl | hz
            · simp only; omega
            · exact hf.tail z hz
          have := ih (f := (a - b, x) :: f) (g := g) (s := s + b) (p := false) (q := true) (A := A ++ [y0]) (y0 := (b, x + y)) (by simp only [List.length_cons]; omega) hf2 hg.tail (by simp only [len]; omega) rfl
          unfold sumU at this
          rw [this]
          simp [ovSum]
        · have hab : a = b := by omega
          subst hab
          have e1 : ovRow (s, s + a, x) (strips (s + a) g) = [] := ovRow_nil fun t ht => by have := hGm t ht; simp only; omega
          have e2 : ovs (strips (s + a) f) ((s, s + a, y) :: strips (s + a) g) = ovs (strips (s + a) f) (strips (s + a) g) := by
            refine ovs_congr fun t ht => ?_
            have := hFm t ht
            rw [ovRow_cons, ovZ_nil (.inr (by simp only; omega)), List.nil_append]
          rw [sumU_split (m := a.toNat) (by omega) (by omega) (by omega), if_pos (by omega), if_pos (by omega)]
          rw [hpq]
          simp only [List.cons_append, sumGo, if_true]
          rw [sumGo_rep, e1, e2, show min a a = a by omega, show (1 : Int) + ((a.toNat - 1 : Nat) : Int) = a by omega]
          have := ih (f := f) (g := g) (s := s + a) (p := true) (q := true) (A := A ++ [y0]) (y0 := (a, x + y)) (by omega) hf.tail hg.tail (by omega) rfl
          unfold sumU at this
          rw [this]
          simp [ovSum]
end Fl
end Go.Proofs.Ytmajcccdbhbkfaa
