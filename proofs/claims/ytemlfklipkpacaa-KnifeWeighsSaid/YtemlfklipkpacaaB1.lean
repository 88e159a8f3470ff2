import Derived.Test.YtemlfklipkpacaaRows
import Derived.WalkKit
import Derived.WalkSpells
import Derived.WalkLawsBesides
import Derived.Lib.Hide
import Derived.Laws.CopyOwn
import Derived.Laws.AppendOwn
import Derived.Lib.SliceRun
import Derived.Deep.AppendLies
import Derived.BigQuiet
import Derived.Deep.QuietTactic
import Derived.StillTailTactics
import Derived.Deep.RegionWith
import Derived.Deep.RegionHeld3
import Derived.BigRegion
import Derived.Deep.Cut
import Derived.Deep.CutRange
import Derived.Orders
/- Plain arithmetic of fields: fractions and lists of zones; nothing of the program is imported. -/
namespace Go.Proofs.Ytemlfklipkpacaa
namespace Fl

/-- A zone: its length and its value. -/
def okZ (z : Int × Int) : Bool := decide (1 ≤ z.1) && (decide (z.1 ≤ 20) && (decide (0 ≤ z.2) && decide (z.2 ≤ 20)))
def validate (f : List (Int × Int)) : Int := if f.length < 1 ∨ 6 < f.length then 3 else if f.all okZ then 0 else 1
def len : List (Int × Int) → Int
  | [] => 0
  | z :: r => z.1 + len r
def tot : List (Int × Int) → Int
  | [] => 0
  | z :: r => z.1 * z.2 + tot r
def strips (s : Int) : List (Int × Int) → List (Int × Int × Int)
  | [] => []
  | z :: r => (s, s + z.1, z.2) :: strips (s + z.1) r
def later (a b : Rat) : Rat := if a < b then b else a
def sooner (a b : Rat) : Rat := if b < a then b else a
def cmpR (a b : Rat) : Int := if a < b then -1 else if b < a then 1 else 0
/-- What a strip is worth between two places. -/
def piece (x : Int × Int × Int) (a b : Rat) : Rat :=
  if sooner b (x.2.1 : Rat) ≤ later a (x.1 : Rat) then 0 else (sooner b (x.2.1 : Rat) - later a (x.1 : Rat)) * (x.2.2 : Rat)
def sumR (l : List Rat) : Rat := l.foldl (· + ·) 0
def worth (f : List (Int × Int)) (a b : Rat) : Rat := sumR ((strips 0 f).map fun x => piece x a b)

theorem okZ_iff {z : Int × Int} : okZ z = true ↔ 1 ≤ z.1 ∧ z.1 ≤ 20 ∧ 0 ≤ z.2 ∧ z.2 ≤ 20 := by
  simp [okZ]
def Ok (f : List (Int × Int)) : Prop := ∀ z ∈ f, 1 ≤ z.1 ∧ z.1 ≤ 20 ∧ 0 ≤ z.2 ∧ z.2 ≤ 20
theorem Ok.tail {z : Int × Int} {f : List (Int × Int)} (h : Ok (z :: f)) : Ok f := fun y hy => h y (by simp [hy])
theorem Ok.head {z : Int × Int} {f : List (Int × Int)} (h : Ok (z :: f)) : 1 ≤ z.1 ∧ z.1 ≤ 20 ∧ 0 ≤ z.2 ∧ z.2 ≤ 20 := h z (by simp)
theorem validate_ok {f : List (Int × Int)} : validate f = 0 ↔ (1 ≤ f.length ∧ f.length ≤ 6) ∧ Ok f := by
  unfold validate Ok
  split
  · constructor
    · intro h; simp at h
    · rintro ⟨⟨h1, h2⟩, h3⟩; omega
  · split
    · rename_i h1 h2
      simp only [List.all_eq_true, okZ_iff] at h2
      exact ⟨fun _ => ⟨by omega, h2⟩, fun _ => rfl⟩
    · rename_i h1 h2
      simp only [List.all_eq_true, okZ_iff] at h2
      constructor
      · intro h; simp at h
      · rintro ⟨h3, h4⟩; exact absurd h4 h2
theorem len_bound {f : List (Int × Int)} (h : Ok f) : (f.length : Int) ≤ len f ∧ len f ≤ 20 * f.length := by
  induction f with
  | nil => simp [len]
  | cons z r ih =>
    have := ih h.tail
    have hz := h.head
    simp only [len, List.length_cons]
    push_cast
    omega
theorem tot_bound {f : List (Int × Int)} (h : Ok f) : 0 ≤ tot f ∧ tot f ≤ 400 * f.length := by
  induction f with
  | nil => simp [tot]
  | cons z r ih =>
    have := ih h.tail
    have hz := h.head
    simp only [tot, List.length_cons]
    have h1 : 0 ≤ z.1 * z.2 := Int.mul_nonneg (by omega) (by omega)
    have h2 : z.1 * z.2 ≤ 20 * 20 := Int.mul_le_mul (by omega) (by omega) (by omega) (by omega)
    push_cast
    omega

/-- Two fractions that can be added without a number that is too large. -/
def Add2 (x y : Rat) : Prop := 0 ≤ x ∧ 0 ≤ y ∧ x ≤ 3000 ∧ y ≤ 3000 ∧ x.den * y.den ≤ 100000000000000

theorem num_le {x : Rat} {n : Nat} (h : x ≤ (n : Rat)) : x.num ≤ n * x.den := by
  have := (Rat.le_iff x (n : Rat)).mp h
  simpa using this
theorem num_nonneg {x : Rat} (h : 0 ≤ x) : 0 ≤ x.num := Rat.num_nonneg.mpr h
theorem den_sub_le (x y : Rat) : (x - y).den ≤ x.den * y.den := by
  rw [Rat.sub_def', Rat.den_mkRat]
  split
  · exact Nat.mul_pos x.den_pos y.den_pos
  · exact Nat.div_le_self _ _
theorem den_add_le (x y : Rat) : (x + y).den ≤ x.den * y.den := by
  rw [Rat.add_def', Rat.den_mkRat]
  split
  · exact Nat.mul_pos x.den_pos y.den_pos
  · exact Nat.div_le_self _ _
theorem den_mul_int_le (x : Rat) (n : Int) : (x * (n : Rat)).den ≤ x.den := by
  rw [Rat.mul_def', Rat.den_mkRat]
  have := x.den_pos
  split
  · exact this
  · exact Nat.le_trans (Nat.div_le_self _ _) (by simp)
theorem den_add_int_le (x : Rat) (n : Int) : (x + (n : Rat)).den ≤ x.den := by
  have := den_add_le x (n : Rat); simpa using this

theorem later_eq (a b : Rat) : later a b = max a b := by unfold later; grind
theorem sooner_eq (a b : Rat) : sooner a b = min a b := by unfold sooner; grind

/-- The sums of the beginnings of a list can be made. -/
def Adds (A : Rat) : List Rat → Prop
  | [] => True
  | x :: r => Add2 A x ∧ Adds (A + x) r
theorem Adds.at {l : List Rat} {A : Rat} (h : Adds A l) (k : Nat) (hk : k < l.length) : Add2 ((l.take k).foldl (· + ·) A) l[k] := by
  induction l generalizing A k with
  | nil => simp at hk
  | cons x r ih =>
    cases k with
    | zero => exact h.1
    | succ k => simpa using ih h.2 k (by simpa using hk)
theorem sumR_step (l : List Rat) (k : Nat) (hk : k < l.length) : sumR (l.take (k + 1)) = sumR (l.take k) + l[k] := by
  unfold sumR
  rw [List.take_succ_eq_append_getElem hk, List.foldl_append]
  rfl

def Pre (a b : Rat) (s : Int) (A : Rat) : Prop :=
  0 ≤ A ∧ ((s : Rat) ≤ a → A = 0) ∧ ((s : Rat) ≤ b → A.den ≤ a.den) ∧ A.den ≤ a.den * b.den ∧ A ≤ ((20 * s : Int) : Rat)

theorem piece_pre {a b : Rat} {s l v : Int} {A : Rat} (h1 : 1 ≤ l) (h2 : l ≤ 20) (h3 : 0 ≤ v) (h4 : v ≤ 20) (hs : 0 ≤ s) (hl : s + l ≤ 140) (hA : Pre a b s A)
    (hd : a.den * b.den ≤ 100000000000000) : Add2 A (piece (s, s + l, v) a b) ∧ Pre a b (s + l) (A + piece (s, s + l, v) a b) := by
  obtain ⟨p1, p2, p3, p4, p5⟩ := hA
  have da := a.den_pos
  have db := b.den_pos
  have r1 : (1 : Rat) ≤ (l : Rat) := by exact_mod_cast h1
  have r2 : (l : Rat) ≤ 20 := by exact_mod_cast h2
  have r3 : (0 : Rat) ≤ (v : Rat) := by exact_mod_cast h3
  have r4 : (v : Rat) ≤ 20 := by exact_mod_cast h4
  have r5 : (s : Rat) + (l : Rat) ≤ 140 := by exact_mod_cast hl
  have r6 : (0 : Rat) ≤ (s : Rat) := by exact_mod_cast hs
  have e1 : ((s + l : Int) : Rat) = (s : Rat) + (l : Rat) := Rat.intCast_add s l
  have e2 : ((20 * s : Int) : Rat) = 20 * (s : Rat) := by rw [Rat.intCast_mul]; rfl
  have e3 : ((20 * (s + l) : Int) : Rat) = 20 * ((s : Rat) + (l : Rat)) := by rw [Rat.intCast_mul, e1]; rfl
  rw [e2] at p5
  unfold Pre Add2
  rw [e3]
  by_cases hle : sooner b ((s + l : Int) : Rat) ≤ later a (s : Rat)
  · have hp : piece (s, s + l, v) a b = 0 := by unfold piece; simp only [hle, if_true]
    rw [hp, Rat.add_zero]
    refine ⟨⟨p1, by grind, by grind, by grind, by rw [Rat.zero_den]; omega⟩, p1, fun h => p2 (by grind), fun h => p3 (by grind), p4, by grind⟩
  · have hp : piece (s, s + l, v) a b = (sooner b ((s + l : Int) : Rat) - later a (s : Rat)) * (v : Rat) := by unfold piece; simp only [hle, if_false]
    obtain ⟨hi, hhi⟩ : ∃ x, x = sooner b ((s + l : Int) : Rat) := ⟨_, rfl⟩
    obtain ⟨lo, hlo⟩ : ∃ x, x = later a (s : Rat) := ⟨_, rfl⟩
    rw [← hhi, ← hlo] at hle hp
    have q1 : lo < hi := by grind
    have q2 : hi ≤ (s : Rat) + (l : Rat) := by rw [hhi, sooner_eq]; grind
    have q3 : (s : Rat) ≤ lo := by rw [hlo, later_eq]; grind
    have q4 : hi ≤ b := by rw [hhi, sooner_eq]; grind
    have q5 : a ≤ lo := by rw [hlo, later_eq]; grind
    have m1 : 0 ≤ (hi - lo) * (v : Rat) := Rat.mul_nonneg (by grind) r3
    have m2 : (hi - lo) * (v : Rat) ≤ 20 * (l : Rat) := by
      have := Rat.mul_le_mul_of_nonneg_left r4 (c := hi - lo) (by grind)
      grind
    have d1 : ((hi - lo) * (v : Rat)).den ≤ hi.den * lo.den := Nat.le_trans (den_mul_int_le _ _) (den_sub_le _ _)
    have d2 : hi.den ≤ b.den := by
      rw [hhi]; unfold sooner; split
      · exact db
      · exact Nat.le_refl _
    have d3 : lo.den ≤ a.den := by
      rw [hlo]; unfold later; split
      · exact da
      · exact Nat.le_refl _
    have d4 : (s : Rat) + (l : Rat) ≤ b → hi.den = 1 := by
      intro h
      have : hi = ((s + l : Int) : Rat) := by rw [hhi, sooner_eq]; grind
      rw [this]; rfl
    have d5 : a < (s : Rat) → lo.den = 1 := by
      intro h
      have : lo = ((s : Int) : Rat) := by rw [hlo, later_eq]; grind
      rw [this]; rfl
    have dd : hi.den * lo.den ≤ a.den * b.den := by
      rw [Nat.mul_comm a.den]; exact Nat.mul_le_mul d2 d3
    rw [hp]
    by_cases hsa : (s : Rat) ≤ a
    · have hA0 := p2 hsa
      subst hA0
      rw [Rat.zero_add]
      refine ⟨⟨p1, m1, by grind, by grind, by rw [Rat.zero_den]; omega⟩, m1, fun h => by grind, fun h => ?_, by omega, by grind⟩
      rw [e1] at h
      have := d4 h
      rw [this, Nat.one_mul] at d1
      omega
    · have hsb : (s : Rat) ≤ b := by grind
      have hAd := p3 hsb
      have hl1 := d5 (by grind)
      rw [hl1, Nat.mul_one] at d1
      have hm : A.den * ((hi - lo) * (v : Rat)).den ≤ a.den * b.den := Nat.mul_le_mul hAd (by omega)
      refine ⟨⟨p1, m1, by grind, by grind, by omega⟩, Rat.add_nonneg p1 m1, fun h => by grind, fun h => ?_, Nat.le_trans (den_add_le _ _) hm, by grind⟩
      rw [e1] at h
      have := d4 h
      rw [this] at d1
      have hd := den_add_le A ((hi - lo) * (v : Rat))
      have : A.den * ((hi - lo) * (v : Rat)).den ≤ A.den * 1 := Nat.mul_le_mul_left _ d1
      omega

theorem adds_strips {a b : Rat} (hd : a.den * b.den ≤ 100000000000000) {f : List (Int × Int)} : ∀ {s : Int} {A : Rat}, Ok f → 0 ≤ s → s + len f ≤ 140 → Pre a b s A →
    Adds A ((strips s f).map fun x => piece x a b) ∧ Pre a b (s + len f) (((strips s f).map fun x => piece x a b).foldl (· + ·) A) := by
  induction f with
  | nil => intro s A _ _ _ h; simpa [strips, Adds, len] using h
  | cons z r ih =>
    intro s A hok hs hl hA
    have hz := hok.head
    have hlr := (len_bound hok.tail).1
    simp only [len] at hl
    have := piece_pre (v := z.2) hz.1 hz.2.1 hz.2.2.1 hz.2.2.2 hs (by omega) hA hd
    have h2 := ih hok.tail (s := s + z.1) (by omega) (by omega) this.2
    simp only [strips, List.map_cons, Adds, List.foldl_cons, len]
    refine ⟨⟨this.1, h2.1⟩, ?_⟩
    have e : s + (z.1 + len r) = s + z.1 + len r := by omega
    rw [e]
    exact h2.2

theorem pre_zero (a b : Rat) : Pre a b 0 0 :=
  ⟨by decide, fun _ => rfl, fun _ => a.den_pos, Nat.mul_pos a.den_pos b.den_pos, by decide⟩
theorem worth_adds {a b : Rat} (hd : a.den * b.den ≤ 100000000000000) {f : List (Int × Int)} (hf : Ok f) (h6 : f.length ≤ 6) :
    Adds 0 ((strips 0 f).map fun x => piece x a b) ∧ Pre a b (len f) (worth f a b) := by
  have := adds_strips hd (s := 0) (A := 0) hf (Int.le_refl _) (by have := (len_bound hf).2; omega) (pre_zero a b)
  simpa [worth, sumR] using this
end Fl
end Go.Proofs.Ytemlfklipkpacaa

namespace Go.Proofs.Ytemlfklipkpacaa
open Go.RowKit

theorem ret_int {k : IntKind} {a b : Int} (h : a = b) : Ending.returned (.int k a) = .returned (.int k b) := by rw [h]
theorem ret_bool {a b : Bool} (h : a = b) : Ending.returned (.bool a) = .returned (.bool b) := by rw [h]
theorem bcell {W w1 : World} (hb : Below W.heap.size W w1) : (∀ b o, b < W.heap.size → w1.cell? ⟨b, o, none⟩ = W.cell? ⟨b, o, none⟩) ∧ (∀ b o, b < W.heap.size → w1.frozen? ⟨b, o, none⟩ = W.frozen? ⟨b, o, none⟩) :=
  ⟨fun b o h => hb.cell (p := ⟨b, o, none⟩) h, fun b o h => hb.frozen (p := ⟨b, o, none⟩) h⟩

/-- A fraction as the program holds it. -/
abbrev Fr (q : Rat) : Value := .agg #[.int .i64 q.num, .int .i64 q.den]
theorem fr_eq {n d : Int} {q : Rat} (h1 : n = q.num) (h2 : d = q.den) : (.agg #[.int .i64 n, .int .i64 d] : Value) = Fr q := by rw [h1, h2]
theorem infoFrAll : (Try.prog.info? 89).map (fun i => (i.zero, i.size, i.bytes)) = some (some (.agg #[.int .i64 0, .int .i64 0]), 2, 16) := by kernel_rfl
theorem infoFr : (Try.prog.info? 89).isSome = true := by kernel_rfl
/-- A store of a whole row: what is known of the world behind it. -/
theorem wpList_store_row_b {P : Program} {ops : Array Oper} {rest : List Oper} {o : Oper} {a : Act} {w : World} {Q : Exit → Act → World → Prop} (hgd : o.guard = none) (ty : TypeId) (x y : Operand) (ho : o.op = .store ty x y)
    (g : Nat) (cells : Array Value) (hx : a.eval x = .pointer (some ⟨g, 0, none⟩)) (hy : a.eval y = .agg cells)
    (t : TypeId) (old : Array Value) (hg : w.heap[g]? = some (.cells old t (0, 0))) (hi : (P.info? ty).map (·.size) = some cells.size)
    (hold : old.size = cells.size) (h1 : cells.all (·.oneCell') = true)
    (h : ∀ w', w'.heap[g]? = some (.cells cells t (0, 0)) → Below g w w' → w'.heap.size = w.heap.size → wpList P ops Q rest (a.put o.dst undef) w') : wpList P ops Q (o :: rest) a w :=
  wpList_store_row hgd ty x y ho g cells hx hy t old hg hi hold h1 (h _ (setRow_heap w g _ _ t _ hg) (below_setRow (Below.refl _ _) (Nat.le_refl _) _) (by simp [World.setRow]))

theorem infoFr2 : (Try.prog.info? 89).map (·.size) = some 2 := by kernel_rfl
theorem infoRat2 : (Try.prog.info? 29).map (·.size) = some 2 := by kernel_rfl
theorem fr_one (q : Rat) : (#[.int .i64 q.num, .int .i64 q.den] : Array Value).all (·.oneCell') = true := by simp [Value.oneCell']
theorem two_cells {w : World} {g : Nat} {a b : Value} {t : TypeId} (hh : w.heap[g]? = some (.cells #[a, b] t (0, 0))) (u v : Value) :
    ((w.setCell ⟨g, 0, none⟩ u).setCell ⟨g, 1, none⟩ v).heap[g]? = some (.cells #[u, v] t (0, 0)) := by
  have := heap_setCell_same _ g 1 _ t v (heap_setCell_same w g 0 _ t u hh)
  simpa using this
theorem below_setCell {B g o : Nat} {w0 w : World} (hb : Below B w0 w) (hg : B ≤ g) (v : Value) : Below B w0 (w.setCell ⟨g, o, none⟩ v) :=
  ⟨hb.os, hb.tape, hb.output, by rw [show (w.setCell ⟨g, o, none⟩ v).heap.size = w.heap.size by simp [World.setCell]]; exact hb.size,
   fun k hk => (heap_setCell_other w ⟨g, o, none⟩ k v (by show k ≠ g; omega)).trans (hb.block k hk)⟩
theorem cell_two_other {w : World} {g h o : Nat} {x : Value} (u v : Value) (hne : h ≠ g) (hx : w.cell? ⟨h, o, none⟩ = some x) : ((w.setCell ⟨g, 0, none⟩ u).setCell ⟨g, 1, none⟩ v).cell? ⟨h, o, none⟩ = some x := by
  rw [← hx]
  unfold World.cell?
  rw [heap_setCell_other _ _ _ _ (by show h ≠ g; exact hne), heap_setCell_other _ _ _ _ (by show h ≠ g; exact hne)]
theorem ret_fr {n d : Int} {q : Rat} (h1 : n = q.num) (h2 : d = q.den) : Ending.returned (.agg #[.int .i64 n, .int .i64 d]) = .returned (Fr q) := by rw [fr_eq h1 h2]
theorem heap_alloc3 (w : World) (A B C : Obj) : (((w.alloc A).alloc B).alloc C).heap[w.heap.size + 1 + 1]? = some C := by
  have h := heap_alloc_new ((w.alloc A).alloc B) C
  simpa only [World.size_alloc] using h
theorem below_alloc3 (w : World) (A B C : Obj) : Below w.heap.size w (((w.alloc A).alloc B).alloc C) :=
  (((Below.refl _ w).alloc (Nat.le_refl _) _).alloc (by simp) _).alloc (by simp; omega) _
theorem heap_alloc4_new (w : World) (A B C D : Obj) : ((((w.alloc A).alloc B).alloc C).alloc D).heap[w.heap.size + 1 + 1 + 1]? = some D := by
  have h := heap_alloc_new (((w.alloc A).alloc B).alloc C) D
  simpa only [World.size_alloc] using h
theorem heap_alloc4_old (w : World) (A B C D : Obj) : ((((w.alloc A).alloc B).alloc C).alloc D).heap[w.heap.size + 1 + 1]? = some C := by
  refine (heap_alloc_old _ D (by simp)).trans ?_
  exact heap_alloc3 w A B C
theorem below_alloc4 (w : World) (A B C D : Obj) : Below w.heap.size w ((((w.alloc A).alloc B).alloc C).alloc D) :=
  (below_alloc3 w A B C).alloc (by simp; omega) _
theorem heap_alloc4 (w : World) (A B C D : Obj) : ((((w.alloc A).alloc B).alloc C).alloc D).heap[w.heap.size]? = some A ∧ ((((w.alloc A).alloc B).alloc C).alloc D).heap[w.heap.size + 1]? = some B ∧ ((((w.alloc A).alloc B).alloc C).alloc D).heap[w.heap.size + 1 + 1]? = some C ∧ ((((w.alloc A).alloc B).alloc C).alloc D).heap[w.heap.size + 1 + 1 + 1]? = some D :=
  ⟨(heap_alloc_old _ _ (by simp; omega)).trans ((heap_alloc_old _ _ (by simp; omega)).trans (heap_alloc2_old w A B)), (heap_alloc_old _ _ (by simp; try omega)).trans ((heap_alloc_old _ _ (by simp; try omega)).trans (heap_alloc2_new w A B)), heap_alloc4_old w A B C D, heap_alloc4_new w A B C D⟩
theorem below_alloc2 (w : World) (A B : Obj) : Below w.heap.size w ((w.alloc A).alloc B) :=
  ((Below.refl _ w).alloc (Nat.le_refl _) _).alloc (by simp) _
/-- A box of a fraction. -/
theorem row_fr {w' : World} {g : Nat} {a b : Value} {t : TypeId} (hh : w'.heap[g]? = some (.cells #[a, b] t (0, 0))) :
    (w'.cell? ⟨g, 0, none⟩ = some a ∧ w'.cell? ⟨g, 1, none⟩ = some b) ∧ (w'.frozen? ⟨g, 0, none⟩ = false ∧ w'.frozen? ⟨g, 1, none⟩ = false) :=
  ⟨⟨cell_of_row w' g 0 _ _ _ hh, cell_of_row w' g 1 _ _ _ hh⟩, ⟨frozen_of_row w' g 0 _ _ hh, frozen_of_row w' g 1 _ _ hh⟩⟩
theorem heap_keep {g : Nat} {W W' : World} {o : Obj} (hb : Below W.heap.size W W') (h : W.heap[g]? = some o) : W'.heap[g]? = some o :=
  (hb.block g (by have := (Array.getElem?_eq_some_iff.1 h).1; exact this)).trans h
theorem keep_cell {g o : Nat} {W W' : World} {v : Value} (hb : Below W.heap.size W W') (h : W.cell? ⟨g, o, none⟩ = some v) : W'.cell? ⟨g, o, none⟩ = some v :=
  (hb.cell (p := ⟨g, o, none⟩) (block_lt_of_cell h)).trans h
theorem heap_lt {g : Nat} {W : World} {o : Obj} (h : W.heap[g]? = some o) : g < W.heap.size := (Array.getElem?_eq_some_iff.1 h).1
theorem heap_row_other {g k : Nat} {W : World} {o : Obj} (cs : Array Value) (hk : k ≠ g) (h : W.heap[k]? = some o) : (W.setRow g cs).heap[k]? = some o := by
  rw [← h]
  simp only [World.setRow, Array.getElem?_modify]
  rw [if_neg (fun e => hk e.symm)]
/-- What a block above the ones that were there holds goes on being held. -/
theorem heap_at {n k : Nat} {w w' : World} {o : Option Obj} (h : Below n w w') (hk : k < n) (e : w.heap[k]? = o) : w'.heap[k]? = o := (h.block k hk).trans e
end Go.Proofs.Ytemlfklipkpacaa

namespace Go.Proofs.Ytemlfklipkpacaa
open Go.RowKit

theorem gcd_step (a b : Nat) : Nat.gcd b (a % b) = Nat.gcd a b := by
  rw [Nat.gcd_comm a b, Nat.gcd_rec b a, Nat.gcd_comm]

set_option maxRecDepth 100000 in
set_option maxHeartbeats 1000000 in
theorem divisor_any (a0 b0 : Nat) (w : World) (h1 : a0 ≤ 9223372036854775807) (h2 : b0 ≤ 9223372036854775807) :
    Calls Try.prog 136 #[.int .i64 a0, .int .i64 b0] w fun e w' => e = .returned (.int .i64 (Nat.gcd a0 b0 : Nat)) ∧ Below w.heap.size w w' := by
  obtain ⟨g, hg⟩ : ∃ g, g = Nat.gcd a0 b0 := ⟨_, rfl⟩
  rw [← hg]
  have Hg := Lib.hid hg
  clear hg
  go_enter Try.func136, Try.ntmps136
  go_wp2
  go_loopw [0, 1] (fun a b wr => ∃ x y : Nat, a = .int .i64 x ∧ b = .int .i64 y ∧ x ≤ 9223372036854775807 ∧ y ≤ 9223372036854775807 ∧ Hid (g = Nat.gcd x y) ∧ Below w.heap.size w wr) (fun _ b _ => (intOf b).toNat)
  case atStart => exact ⟨a0, b0, rfl, rfl, h1, h2, Hg, Below.refl _ _⟩
  case round =>
    obtain ⟨x, y, rfl, rfl, hx, hy, hgc, hb⟩ := hrel
    by_cases h0 : y = 0
    · subst h0
      go_wp2
      go_ret
      refine ⟨ret_int ?_, hb⟩
      have := hgc.out
      rw [Nat.gcd_zero_right] at this
      rw [this]
    · have hm : x % y < y := Nat.mod_lt _ (by omega)
      have hy1 : (1 : Int) ≤ (y : Int) := by omega
      have hq : ((y : Int) == 0) = false := by simp [h0]
      have hq2 : ((y : Int) != 0) = true := by simp [h0]
      go_wp2
      go_quiet (fail)
      go_wp2
      go_roundw
      case rel => exact ⟨y, x % y, rfl, by simp, hy, by omega, Lib.hid (hgc.out.trans (gcd_step x y).symm), below_drewN hb _⟩
      case measure =>
        have : intOf (.int .i64 ((x : Int) % (y : Int))) = ((x % y : Nat) : Int) := by simp [intOf]
        rw [this]
        simp [intOf]
        omega
end Go.Proofs.Ytemlfklipkpacaa

namespace Go.Proofs.Ytemlfklipkpacaa
open Go.RowKit


set_option maxHeartbeats 400000 in
theorem whole_any (n : Int) (w : World) :
    Calls Try.prog 79 #[.int .i64 n] w fun e w' => e = .returned (Fr (n : Rat)) ∧ Below w.heap.size w w' := by
  go_enter Try.func79, Try.ntmps79
  go_wp2
  exact bodyPost_ret (results_cell_row rfl _ _ _ _ _ _ _ rfl (heap_alloc_new w _) Try.underlying89 rfl infoFr2) rfl ⟨rfl, (Below.refl _ w).alloc (Nat.le_refl _) _⟩

theorem low_eq (n d : Nat) (hd : 0 < d) : ((n : Int) / ((Nat.gcd n d : Nat) : Int)) = (mkRat n d).num ∧ ((d : Int) / ((Nat.gcd n d : Nat) : Int)) = ((mkRat n d).den : Int) := by
  rw [Rat.num_mkRat, Rat.den_mkRat, if_neg (by omega), if_neg (by omega), Int.natAbs_natCast, Nat.gcd_comm d n]
  exact ⟨rfl, by simp⟩

set_option maxHeartbeats 400000 in
theorem lowest_any (n d : Nat) (w : World) (hd : 0 < d) (h1 : n ≤ 9223372036854775807) (h2 : d ≤ 9223372036854775807) :
    Calls Try.prog 129 #[.int .i64 n, .int .i64 d] w fun e w' => e = .returned (Fr (mkRat n d)) ∧ Below w.heap.size w w' := by
  have hg : 0 < Nat.gcd n d := Nat.gcd_pos_of_pos_right _ hd
  have hL := low_eq n d hd
  have HL := Lib.hid hL
  clear hL
  obtain ⟨g, hg0⟩ : ∃ g, g = Nat.gcd n d := ⟨_, rfl⟩
  go_enter Try.func129, Try.ntmps129
  go_wp2_with (first | (go_at_call 136; refine (divisor_any n d _ h1 h2).mono ?_; rintro e w' ⟨rfl, hb'⟩))
  rw [← hg0]
  rw [← hg0] at HL hg
  have Hg := Lib.hid hg0
  clear hg0
  have hh := heap_at hb' (k := w.heap.size) (by simp) (heap_alloc_new w (.cells #[.int .i64 0, .int .i64 0] 89))
  have hB := ((Below.refl _ w).alloc (Nat.le_refl _) (.cells #[.int .i64 0, .int .i64 0] 89)).trans (hb'.mono (by simp))
  clear hb'
  have hg1 : (1 : Int) ≤ (g : Int) := by omega
  have hq : ((g : Int) == 0) = false := by simp; omega
  obtain ⟨⟨c0, c1⟩, f0, f1⟩ := row_fr hh
  have b1 := IntWalk.tdiv_le n g (by omega) hg1
  have b2 := IntWalk.tdiv_le d g (by omega) hg1
  have q1 : IntKind.i64.wrap ((n : Int) / (g : Int)) = (n : Int) / (g : Int) := IntWalk.i64_in _ (by omega)
  have q2 : IntKind.i64.wrap ((d : Int) / (g : Int)) = (d : Int) / (g : Int) := IntWalk.i64_in _ (by omega)
  clear b1 b2
  go_region
  go_wp2
  have h3 := two_cells hh (.int .i64 (n / g)) (.int .i64 (d / g))
  exact bodyPost_ret (results_cell_row rfl _ _ _ _ _ _ _ rfl h3 Try.underlying89 rfl infoFr2) rfl ⟨ret_fr HL.out.1 HL.out.2, below_drewN (below_setCell (below_setCell hB (Nat.le_refl _) _) (Nat.le_refl _) _) 1⟩
end Go.Proofs.Ytemlfklipkpacaa

namespace Go.Proofs.Ytemlfklipkpacaa
open Go.RowKit

theorem lowest_q (a b : Int) (q : Rat) (w : World) (ha : 0 ≤ a) (hb : 0 < b) (h1 : a ≤ 9223372036854775807) (h2 : b ≤ 9223372036854775807) (hq : mkRat a b.toNat = q) :
    Calls Try.prog 129 #[.int .i64 a, .int .i64 b] w fun e w' => e = .returned (Fr q) ∧ Below w.heap.size w w' := by
  obtain ⟨n, rfl⟩ := Int.eq_ofNat_of_zero_le ha
  obtain ⟨d, rfl⟩ := Int.eq_ofNat_of_zero_le (Int.le_of_lt hb)
  rw [← hq, Int.toNat_natCast]
  exact lowest_any n d w (by omega) (by omega) (by omega)

theorem add_q (x y : Rat) : mkRat (x.num * (y.den : Int) + y.num * (x.den : Int)) ((x.den : Int) * (y.den : Int)).toNat = x + y := by
  rw [Rat.add_def', ← Int.natCast_mul, Int.toNat_natCast]
theorem sub_q (x y : Rat) : mkRat (x.num * (y.den : Int) - y.num * (x.den : Int)) ((x.den : Int) * (y.den : Int)).toNat = x - y := by
  rw [Rat.sub_def', ← Int.natCast_mul, Int.toNat_natCast]
theorem mul_q (x : Rat) (n : Int) : mkRat (x.num * n) ((x.den : Int)).toNat = x * (n : Rat) := by
  rw [Rat.mul_def', Int.toNat_natCast, Rat.num_intCast, Rat.den_intCast, Nat.mul_one]
theorem div_q (x : Rat) (n : Int) (hn : 0 < n) : mkRat x.num ((x.den : Int) * n).toNat = x / (n : Rat) := by
  obtain ⟨m, rfl⟩ := Int.eq_ofNat_of_zero_le (Int.le_of_lt hn)
  rw [← Int.natCast_mul, Int.toNat_natCast, Rat.mkRat_eq_div]
  have hx : x = (x.num : Rat) / (x.den : Rat) := by rw [← Rat.mkRat_eq_div, Rat.mkRat_self]
  have hd : (x.den : Rat) ≠ 0 := by
    intro h
    have := x.den_pos
    have h2 := Rat.natCast_eq_zero_iff.1 h
    omega
  have hm : ((m : Int) : Rat) ≠ 0 := by
    intro h
    have h2 := Rat.intCast_eq_zero_iff.1 h
    omega
  have hm2 : ((m : Nat) : Rat) ≠ 0 := hm
  rw [Rat.natCast_mul]
  conv => rhs; rw [hx]
  show _ = (x.num : Rat) / (x.den : Rat) / ((m : Nat) : Rat)
  rw [Rat.div_def, Rat.div_def, Rat.div_def, Rat.inv_mul_rev, Rat.mul_comm ((m : Rat)⁻¹), Rat.mul_assoc]

/-- Numbers that can be reckoned with. -/
def PlusOk (x y : Rat) : Prop := 0 ≤ x.num ∧ 0 ≤ y.num ∧ x.num * (y.den : Int) ≤ 4000000000000000000 ∧ y.num * (x.den : Int) ≤ 4000000000000000000 ∧ (x.den : Int) * (y.den : Int) ≤ 4000000000000000000
theorem plusOk {x y : Rat} (h : Fl.Add2 x y) : PlusOk x y := by
  obtain ⟨h1, h2, h3, h4, h5⟩ := h
  have n1 := Fl.num_nonneg h1
  have n2 := Fl.num_nonneg h2
  have m1 : x.num ≤ 3000 * (x.den : Int) := Fl.num_le (n := 3000) h3
  have m2 : y.num ≤ 3000 * (y.den : Int) := Fl.num_le (n := 3000) h4
  have h6 : (x.den : Int) * (y.den : Int) ≤ 100000000000000 := by have := h5; rw [← Int.natCast_mul]; omega
  have a1 : x.num * (y.den : Int) ≤ 3000 * (x.den : Int) * (y.den : Int) := Int.mul_le_mul_of_nonneg_right m1 (by omega)
  have a2 : y.num * (x.den : Int) ≤ 3000 * (y.den : Int) * (x.den : Int) := Int.mul_le_mul_of_nonneg_right m2 (by omega)
  rw [Int.mul_assoc] at a1 a2
  rw [Int.mul_comm (y.den : Int) (x.den : Int)] at a2
  exact ⟨n1, n2, by omega, by omega, by omega⟩

set_option maxRecDepth 100000 in
set_option maxHeartbeats 1000000 in
theorem plus_any (x y : Rat) (w : World) (h : PlusOk x y) :
    Calls Try.prog 134 #[Fr x, Fr y] w fun e w' => e = .returned (Fr (x + y)) ∧ Below w.heap.size w w' := by
  obtain ⟨h1, h2, h3, h4, h5⟩ := h
  have p1 : 0 ≤ x.num * (y.den : Int) := Int.mul_nonneg h1 (by omega)
  have p2 : 0 ≤ y.num * (x.den : Int) := Int.mul_nonneg h2 (by omega)
  have p3 : 0 < (x.den : Int) * (y.den : Int) := Int.mul_pos (by have := x.den_pos; omega) (by have := y.den_pos; omega)
  have hq := Lib.hid (add_q x y)
  go_enter Try.func134, Try.ntmps134
  go_wp2_with (first | (go_at_call 129; refine (lowest_q _ _ (x + y) _ (by omega) (by omega) (by omega) (by omega) hq.out).mono ?_; rintro e w' ⟨rfl, hb'⟩; have hh := heap_at hb' (k := w.heap.size + 1 + 1) (by simp; try omega) (heap_alloc3 w _ _ _); obtain ⟨⟨c0, c1⟩, f0, f1⟩ := row_fr hh))
  refine bodyPost_ret (results_cell_row rfl _ _ _ _ _ _ _ rfl (two_cells hh (.int .i64 (x + y).num) (.int .i64 (x + y).den)) Try.underlying89 rfl infoFr2) rfl ⟨rfl, below_setCell (below_setCell ((below_alloc3 w _ _ _).trans (hb'.mono (by simp; try omega))) (by omega) _) (by omega) _⟩

/-- Two fractions of which one can be taken from the other. -/
def SubOk (x y : Rat) : Prop := PlusOk x y ∧ y ≤ x
set_option maxRecDepth 100000 in
set_option maxHeartbeats 1000000 in
theorem minus_any (x y : Rat) (w : World) (h : SubOk x y) :
    Calls Try.prog 138 #[Fr x, Fr y] w fun e w' => e = .returned (Fr (x - y)) ∧ Below w.heap.size w w' := by
  obtain ⟨⟨h1, h2, h3, h4, h5⟩, h6⟩ := h
  have p0 := (Rat.le_iff y x).mp h6
  have p1 : 0 ≤ x.num * (y.den : Int) := Int.mul_nonneg h1 (by omega)
  have p2 : 0 ≤ y.num * (x.den : Int) := Int.mul_nonneg h2 (by omega)
  have p3 : 0 < (x.den : Int) * (y.den : Int) := Int.mul_pos (by have := x.den_pos; omega) (by have := y.den_pos; omega)
  have hq := Lib.hid (sub_q x y)
  go_enter Try.func138, Try.ntmps138
  go_wp2_with (first | (go_at_call 129; refine (lowest_q _ _ (x - y) _ (by omega) (by omega) (by omega) (by omega) hq.out).mono ?_; rintro e w' ⟨rfl, hb'⟩; have hh := heap_at hb' (k := w.heap.size + 1 + 1) (by simp; try omega) (heap_alloc3 w _ _ _); obtain ⟨⟨c0, c1⟩, f0, f1⟩ := row_fr hh))
  refine bodyPost_ret (results_cell_row rfl _ _ _ _ _ _ _ rfl (two_cells hh (.int .i64 (x - y).num) (.int .i64 (x - y).den)) Try.underlying89 rfl infoFr2) rfl ⟨rfl, below_setCell (below_setCell ((below_alloc3 w _ _ _).trans (hb'.mono (by simp; try omega))) (by omega) _) (by omega) _⟩

set_option maxRecDepth 100000 in
set_option maxHeartbeats 1000000 in
theorem times_any (x : Rat) (n : Int) (w : World) (h1 : 0 ≤ x.num) (h2 : 0 ≤ n) (h3 : x.num * n ≤ 4000000000000000000) (h4 : (x.den : Int) ≤ 4000000000000000000) :
    Calls Try.prog 161 #[Fr x, .int .i64 n] w fun e w' => e = .returned (Fr (x * (n : Rat))) ∧ Below w.heap.size w w' := by
  have p1 : 0 ≤ x.num * n := Int.mul_nonneg h1 h2
  have p3 : 0 < (x.den : Int) := by have := x.den_pos; omega
  have hq := Lib.hid (mul_q x n)
  go_enter Try.func161, Try.ntmps161
  go_wp2_with (first | (go_at_call 129; refine (lowest_q _ _ (x * (n : Rat)) _ (by omega) (by omega) (by omega) (by omega) hq.out).mono ?_; rintro e w' ⟨rfl, hb'⟩; have hh := heap_at hb' (k := w.heap.size + 1) (by simp; try omega) (heap_alloc2_new w _ _); obtain ⟨⟨c0, c1⟩, f0, f1⟩ := row_fr hh))
  refine bodyPost_ret (results_cell_row rfl _ _ _ _ _ _ _ rfl (two_cells hh (.int .i64 (x * (n : Rat)).num) (.int .i64 (x * (n : Rat)).den)) Try.underlying89 rfl infoFr2) rfl ⟨rfl, below_setCell (below_setCell ((below_alloc2 w _ _).trans (hb'.mono (by simp; try omega))) (by omega) _) (by omega) _⟩

set_option maxRecDepth 100000 in
set_option maxHeartbeats 1000000 in
theorem over_any (x : Rat) (n : Int) (w : World) (h1 : 0 ≤ x.num) (h2 : 0 < n) (h3 : x.num ≤ 4000000000000000000) (h4 : (x.den : Int) * n ≤ 4000000000000000000) :
    Calls Try.prog 69 #[Fr x, .int .i64 n] w fun e w' => e = .returned (Fr (x / (n : Rat))) ∧ Below w.heap.size w w' := by
  have p3 : 0 < (x.den : Int) * n := Int.mul_pos (by have := x.den_pos; omega) h2
  have hq := Lib.hid (div_q x n h2)
  go_enter Try.func69, Try.ntmps69
  go_wp2_with (first | (go_at_call 129; refine (lowest_q _ _ (x / (n : Rat)) _ (by omega) (by omega) (by omega) (by omega) hq.out).mono ?_; rintro e w' ⟨rfl, hb'⟩; have hh := heap_at hb' (k := w.heap.size + 1) (by simp; try omega) (heap_alloc2_new w _ _); obtain ⟨⟨c0, c1⟩, f0, f1⟩ := row_fr hh))
  refine bodyPost_ret (results_cell_row rfl _ _ _ _ _ _ _ rfl (two_cells hh (.int .i64 (x / (n : Rat)).num) (.int .i64 (x / (n : Rat)).den)) Try.underlying89 rfl infoFr2) rfl ⟨rfl, below_setCell (below_setCell ((below_alloc2 w _ _).trans (hb'.mono (by simp; try omega))) (by omega) _) (by omega) _⟩
end Go.Proofs.Ytemlfklipkpacaa

namespace Go.Proofs.Ytemlfklipkpacaa
open Go.RowKit

set_option maxHeartbeats 400000 in
theorem rwithin_any (n lo hi : Int) (w : World) :
    Calls Try.prog 71 #[.int .i64 n, .int .i64 lo, .int .i64 hi] w fun e w' => e = .returned (.bool (decide (lo ≤ n) && decide (n ≤ hi))) ∧ w = w' := by
  go_enter Try.func71, Try.ntmps71
  go_wp2
  all_goals
    go_ret
    refine ⟨ret_bool ?_, rfl⟩
    rw [Bool.eq_iff_iff]
    simp
    omega

theorem sign_cases (a : Int) : ∃ x : Nat, x = a.natAbs ∧ ((a = x ∧ -(x : Int) ≤ x) ∨ (a = -(x : Int) ∧ ¬ (x : Int) ≤ -(x : Int))) := ⟨a.natAbs, rfl, by omega⟩

set_option maxRecDepth 100000 in
set_option maxHeartbeats 1000000 in
theorem rgcd_any (a0 b0 : Int) (w : World) (h1 : -9223372036854775807 ≤ a0) (h2 : a0 ≤ 9223372036854775807) (h3 : -9223372036854775807 ≤ b0) (h4 : b0 ≤ 9223372036854775807) :
    Calls Try.prog 89 #[.int .i64 a0, .int .i64 b0] w fun e w' => e = .returned (.int .i64 (Nat.gcd a0.natAbs b0.natAbs : Nat)) ∧ w = w' := by
  obtain ⟨g, hg⟩ : ∃ g, g = Nat.gcd a0.natAbs b0.natAbs := ⟨_, rfl⟩
  rw [← hg]
  obtain ⟨x0, hx0, hca⟩ := sign_cases a0
  obtain ⟨y0, hy0, hcb⟩ := sign_cases b0
  rw [← hx0, ← hy0] at hg
  have Hg := Lib.hid hg
  have ba : (x0 : Int) ≤ 9223372036854775807 := by omega
  have bb : (y0 : Int) ≤ 9223372036854775807 := by omega
  clear hg hx0 hy0
  have na : IntKind.i64.wrap (-(x0 : Int)) = -(x0 : Int) := IntWalk.i64_in _ (by omega)
  have nb : IntKind.i64.wrap (-(y0 : Int)) = -(y0 : Int) := IntWalk.i64_in _ (by omega)
  rcases hca with ⟨rfl, ca⟩ | ⟨rfl, ca⟩ <;> rcases hcb with ⟨rfl, cb⟩ | ⟨rfl, cb⟩ <;>
  · clear h1 h2 h3 h4
    go_enter Try.func89, Try.ntmps89
    go_wp2
    clear na nb ca cb
    go_loop [5, 6] (fun a b => ∃ x y : Nat, a = .int .i64 x ∧ b = .int .i64 y ∧ x ≤ 9223372036854775807 ∧ y ≤ 9223372036854775807 ∧ Hid (g = Nat.gcd x y)) (fun _ b => (intOf b).toNat)
    case atStart => exact ⟨x0, y0, rfl, rfl, by omega, by omega, Hg⟩
    case round =>
      obtain ⟨x, y, rfl, rfl, hx, hy, hgc⟩ := hrel
      by_cases h0 : y = 0
      · subst h0
        go_wp2
        go_ret
        refine ⟨ret_int ?_, rfl⟩
        have := hgc.out
        rw [Nat.gcd_zero_right] at this
        rw [this]
      · have hm : x % y < y := Nat.mod_lt _ (by omega)
        have hy1 : (1 : Int) ≤ (y : Int) := by omega
        go_wp2
        go_round
        case rel => exact ⟨y, x % y, rfl, by simp, hy, by omega, Lib.hid (hgc.out.trans (gcd_step x y).symm)⟩
        case measure =>
          have : intOf (.int .i64 ((x : Int) % (y : Int))) = ((x % y : Nat) : Int) := by simp [intOf]
          rw [this]
          simp [intOf]
          omega

/-- A fraction by two numbers, not in lowest terms. -/
theorem ratio_eq (n : Int) (d : Nat) (hd : 0 < d) : (n.tdiv ((Nat.gcd n.natAbs d : Nat) : Int)) = (mkRat n d).num ∧ ((d : Int) / ((Nat.gcd n.natAbs d : Nat) : Int)) = ((mkRat n d).den : Int) := by
  rw [Rat.num_mkRat, Rat.den_mkRat, if_neg (by omega), if_neg (by omega), Nat.gcd_comm]
  refine ⟨?_, by simp⟩
  have h := Nat.gcd_dvd_right d n.natAbs
  exact Int.tdiv_eq_ediv_of_dvd (Int.ofNat_dvd_left.2 (by simpa using h))

set_option maxRecDepth 100000 in
set_option maxHeartbeats 1000000 in
theorem ratio_any (n : Int) (d : Nat) (w : World) (hd : 0 < d) (h1 : -4611686018427387904 ≤ n) (h2 : n ≤ 4611686018427387904) (h3 : d ≤ 4611686018427387904) :
    Calls Try.prog 70 #[.int .i64 n, .int .i64 d] w fun e w' => e = .returned (Fr (mkRat n d)) ∧ Below w.heap.size w w' := by
  have hg : 0 < Nat.gcd n.natAbs d := Nat.gcd_pos_of_pos_right _ hd
  have HL := Lib.hid (ratio_eq n d hd)
  obtain ⟨g, hg0⟩ : ∃ g, g = Nat.gcd n.natAbs d := ⟨_, rfl⟩
  have hgd : g ≤ d := by rw [hg0]; exact Nat.gcd_le_right _ hd
  go_enter Try.func70, Try.ntmps70
  go_wp2_with fail
  refine (rgcd_any n d _ (by omega) (by omega) (by omega) (by omega)).mono ?_
  rintro e w' ⟨rfl, rfl⟩
  rw [Int.natAbs_natCast, ← hg0]
  rw [← hg0] at HL hg
  have Hg := Lib.hid hg0
  clear hg0
  have hh := heap_alloc_new w (.cells #[.int .i64 0, .int .i64 0] 29)
  have hB := ((Below.refl _ w).alloc (Nat.le_refl _) (.cells #[.int .i64 0, .int .i64 0] 29))
  generalize (w.alloc (.cells #[.int .i64 0, .int .i64 0] 29)) = w1 at hh hB ⊢
  have hg1 : (1 : Int) ≤ (g : Int) := by omega
  have hq : ((g : Int) == 0) = false := by simp; omega
  obtain ⟨⟨c0, c1⟩, f0, f1⟩ := row_fr hh
  have b1 : -4611686018427387904 ≤ n.tdiv g ∧ n.tdiv g ≤ 4611686018427387904 := by
    have h := Int.natAbs_tdiv_le_natAbs n g
    omega
  have b2 := IntWalk.tdiv_le d g (by omega) hg1
  have q1 : IntKind.i64.wrap (n.tdiv (g : Int)) = n.tdiv (g : Int) := IntWalk.i64_in _ (by omega)
  have q2 : IntKind.i64.wrap ((d : Int) / (g : Int)) = (d : Int) / (g : Int) := IntWalk.i64_in _ (by omega)
  clear b1 b2
  go_wp2
  go_region
  go_wp2
  have h3 := two_cells hh (.int .i64 (n.tdiv g)) (.int .i64 (d / g))
  exact bodyPost_ret (results_cell_row rfl _ _ _ _ _ _ _ rfl h3 Try.underlying29 rfl infoRat2) rfl ⟨ret_fr HL.out.1 HL.out.2, below_drewN (below_setCell (below_setCell hB (Nat.le_refl _) _) (Nat.le_refl _) _) 1⟩
end Go.Proofs.Ytemlfklipkpacaa

/- Plain arithmetic: a field as the values of its units of length; what lies before a place; nothing of the program is imported. -/
namespace Go.Proofs.Ytemlfklipkpacaa
namespace Fl
/-- The value of each unit of length. -/
def units : List (Int × Int) → List Int
  | [] => []
  | z :: r => List.replicate z.1.toNat z.2 ++ units r
def sumI (l : List Int) : Int := l.foldl (· + ·) 0
theorem foldl_addI (l : List Int) (a : Int) : l.foldl (· + ·) a = a + l.foldl (· + ·) 0 := by
  induction l generalizing a with
  | nil => simp
  | cons x r ih => simp only [List.foldl_cons]; rw [ih (a + x), ih (0 + x)]; omega
theorem sumI_cons (x : Int) (l : List Int) : sumI (x :: l) = x + sumI l := by
  unfold sumI; rw [List.foldl_cons, foldl_addI]; omega
theorem sumI_app (l m : List Int) : sumI (l ++ m) = sumI l + sumI m := by
  unfold sumI; rw [List.foldl_append, foldl_addI]
theorem sumI_rep (n : Nat) (v : Int) : sumI (List.replicate n v) = n * v := by
  induction n with
  | zero => simp [sumI]
  | succ n ih => rw [List.replicate_succ, sumI_cons, ih]; push_cast; rw [Int.add_mul]; omega
theorem sumI_take {l : List Int} {k : Nat} (hk : k < l.length) : sumI (l.take (k + 1)) = sumI (l.take k) + l.getD k 0 := by
  rw [List.take_succ_eq_append_getElem hk, sumI_app, List.getD_eq_getElem?_getD, List.getElem?_eq_getElem hk]
  simp [sumI]
theorem units_length {l : List (Int × Int)} (h : Ok l) : ((units l).length : Int) = len l := by
  induction l with
  | nil => rfl
  | cons z r ih =>
    have hz := h.head
    have := ih h.tail
    simp only [units, List.length_append, List.length_replicate, len]
    push_cast
    omega
theorem units_sum {l : List (Int × Int)} (h : Ok l) : sumI (units l) = tot l := by
  induction l with
  | nil => rfl
  | cons z r ih =>
    have hz := h.head
    simp only [units, tot]
    rw [sumI_app, sumI_rep, ih h.tail, Int.toNat_of_nonneg (by omega)]
theorem units_mem {l : List (Int × Int)} (h : Ok l) : ∀ v ∈ units l, 0 ≤ v ∧ v ≤ 20 := by
  induction l with
  | nil => intro v hv; simp [units] at hv
  | cons z r ih =>
    intro v hv
    simp only [units, List.mem_append, List.mem_replicate] at hv
    rcases hv with ⟨_, rfl⟩ | hv
    · have := h.head; omega
    · exact ih h.tail v hv
theorem units_at {l : List (Int × Int)} (h : Ok l) (k : Nat) : 0 ≤ (units l).getD k 0 ∧ (units l).getD k 0 ≤ 20 := by
  by_cases hk : k < (units l).length
  · rw [List.getD_eq_getElem?_getD, List.getElem?_eq_getElem hk]
    exact units_mem h _ (List.getElem_mem hk)
  · rw [List.getD_eq_getElem?_getD, List.getElem?_eq_none (by omega)]
    simp
theorem sumI_bound {l : List Int} (h : ∀ v ∈ l, 0 ≤ v ∧ v ≤ 20) : 0 ≤ sumI l ∧ sumI l ≤ 20 * l.length := by
  induction l with
  | nil => simp [sumI]
  | cons x r ih =>
    have h1 := h x (by simp)
    have h2 := ih (fun v hv => h v (by simp [hv]))
    rw [sumI_cons, List.length_cons]
    push_cast
    omega
theorem units_pre {l : List (Int × Int)} (h : Ok l) (k : Nat) : 0 ≤ sumI ((units l).take k) ∧ sumI ((units l).take k) ≤ 20 * k := by
  have := sumI_bound (l := (units l).take k) (fun v hv => units_mem h v (List.mem_of_mem_take hv))
  have h2 := List.length_take_le k (units l)
  omega

/-- What lies before a place is worth: whole units, and a part of one. -/
def before (u : List Int) (x : Rat) : Rat := (sumI (u.take x.floor.toNat) : Rat) + (u.getD x.floor.toNat 0 : Rat) * (x - (x.floor : Rat))
/-- The same, zone by zone. -/
def cum : List (Int × Int) → Rat → Rat
  | [], _ => 0
  | z :: r, x => if x < (z.1 : Rat) then x * (z.2 : Rat) else (z.1 : Rat) * (z.2 : Rat) + cum r (x - (z.1 : Rat))
theorem floor_sub (x : Rat) (n : Int) : (x - (n : Rat)).floor = x.floor - n := by
  have h1 := Rat.floor_le x
  have h2 : x - 1 < (x.floor : Rat) := Rat.lt_floor
  have h3 : ((x.floor - n : Int) : Rat) ≤ x - (n : Rat) := by rw [Rat.intCast_sub]; grind
  have h4 := (Rat.le_floor_iff).2 h3
  have h5 : x - (n : Rat) < ((x.floor - n + 1 : Int) : Rat) := by
    rw [Rat.intCast_add, Rat.intCast_sub]; grind
  have h6 := Rat.floor_le (x - (n : Rat))
  have h7 : ((x - (n : Rat)).floor : Rat) < ((x.floor - n + 1 : Int) : Rat) := by grind
  have h8 := Rat.intCast_lt_intCast.1 h7
  omega
theorem floor_nonneg {x : Rat} (h : 0 ≤ x) : 0 ≤ x.floor := by
  have : ((0 : Int) : Rat) ≤ x := h
  exact Rat.le_floor_iff.2 this
theorem before_cum {l : List (Int × Int)} (hok : Ok l) : ∀ {x : Rat}, 0 ≤ x → before (units l) x = cum l x := by
  induction l with
  | nil => intro x _; simp [before, units, cum, sumI]; grind
  | cons z r ih =>
    intro x hx
    have hz := hok.head
    have hf := floor_nonneg hx
    have f1 := Rat.floor_le x
    have f2 : x - 1 < (x.floor : Rat) := Rat.lt_floor
    simp only [units, cum]
    by_cases hlt : x < (z.1 : Rat)
    · rw [if_pos hlt]
      have hk : x.floor < z.1 := Rat.intCast_lt_intCast.1 (by grind)
      unfold before
      have e1 : (List.replicate z.1.toNat z.2 ++ units r).take x.floor.toNat = List.replicate x.floor.toNat z.2 := by
        rw [List.take_append_of_le_length (by rw [List.length_replicate]; omega), List.take_replicate, Nat.min_eq_left (by omega)]
      have e2 : (List.replicate z.1.toNat z.2 ++ units r).getD x.floor.toNat 0 = z.2 := by
        rw [List.getD_eq_getElem?_getD, List.getElem?_append_left (by rw [List.length_replicate]; omega), List.getElem?_replicate, if_pos (by omega)]
        rfl
      rw [e1, e2, sumI_rep, Int.toNat_of_nonneg hf, Rat.intCast_mul]
      grind
    · rw [if_neg hlt]
      have hge : (z.1 : Rat) ≤ x := by grind
      have hk : z.1 ≤ x.floor := Rat.le_floor_iff.2 hge
      rw [← ih hok.tail (show 0 ≤ x - (z.1 : Rat) by grind)]
      unfold before
      rw [floor_sub]
      have e0 : (x.floor - z.1).toNat = x.floor.toNat - z.1.toNat := by omega
      have e1 : (List.replicate z.1.toNat z.2 ++ units r).take x.floor.toNat = List.replicate z.1.toNat z.2 ++ (units r).take (x.floor.toNat - z.1.toNat) := by
        rw [List.take_append, List.length_replicate, List.take_of_length_le (by rw [List.length_replicate]; omega)]
      have e2 : (List.replicate z.1.toNat z.2 ++ units r).getD x.floor.toNat 0 = (units r).getD (x.floor.toNat - z.1.toNat) 0 := by
        rw [List.getD_eq_getElem?_getD, List.getElem?_append_right (by rw [List.length_replicate]; omega), List.length_replicate]
        rfl
      rw [e1, e2, e0, sumI_app, sumI_rep, Int.toNat_of_nonneg (by omega), Rat.intCast_add, Rat.intCast_mul, Rat.intCast_sub]
      grind
/-- A place, held between two others. -/
def clamp (x lo hi : Rat) : Rat := if x ≤ lo then lo else if hi ≤ x then hi else x
theorem piece_clamp {s t v : Int} (hst : s ≤ t) {a b : Rat} (hab : a ≤ b) : piece (s, t, v) a b = (clamp b s t - clamp a s t) * (v : Rat) := by
  have hst : (s : Rat) ≤ (t : Rat) := Rat.intCast_le_intCast.2 hst
  unfold piece clamp sooner later
  simp only []
  (repeat' split) <;> grind
def cumS (s : Int) : List (Int × Int) → Rat → Rat
  | [], _ => 0
  | z :: r, x => (clamp x s ((s + z.1 : Int) : Rat) - (s : Rat)) * (z.2 : Rat) + cumS (s + z.1) r x
theorem cumS_low {l : List (Int × Int)} (hok : Ok l) : ∀ {s : Int} {x : Rat}, x ≤ (s : Rat) → cumS s l x = 0 := by
  induction l with
  | nil => intro s x _; rfl
  | cons z r ih =>
    intro s x hx
    have hz := hok.head
    simp only [cumS]
    have h1 : (1 : Rat) ≤ (z.1 : Rat) := Rat.intCast_le_intCast.2 hz.1
    rw [ih hok.tail (s := s + z.1) (by rw [Rat.intCast_add]; grind)]
    unfold clamp
    rw [if_pos hx]
    grind
theorem cumS_cum {l : List (Int × Int)} (hok : Ok l) : ∀ {s : Int} {x : Rat}, (s : Rat) ≤ x → cumS s l x = cum l (x - (s : Rat)) := by
  induction l with
  | nil => intro s x _; rfl
  | cons z r ih =>
    intro s x hx
    have hz := hok.head
    have h1 : (1 : Rat) ≤ (z.1 : Rat) := Rat.intCast_le_intCast.2 hz.1
    simp only [cumS, cum]
    have e : ((s + z.1 : Int) : Rat) = (s : Rat) + (z.1 : Rat) := Rat.intCast_add _ _
    by_cases hlt : x - (s : Rat) < (z.1 : Rat)
    · rw [if_pos hlt, cumS_low hok.tail (by rw [e]; grind)]
      unfold clamp
      rw [e]
      split
      · grind
      · split <;> grind
    · rw [if_neg hlt, ih hok.tail (by rw [e]; grind)]
      have e3 : x - ((s + z.1 : Int) : Rat) = x - (s : Rat) - (z.1 : Rat) := by rw [e]; grind
      rw [e3]
      unfold clamp
      rw [e]
      split
      · grind
      · split <;> grind
theorem pieces_cum {l : List (Int × Int)} (hok : Ok l) {a b : Rat} (hab : a ≤ b) : ∀ {s : Int} {A : Rat}, ((strips s l).map fun x => piece x a b).foldl (· + ·) A = A + (cumS s l b - cumS s l a) := by
  induction l with
  | nil => intro s A; simp only [strips, cumS, List.map_nil, List.foldl_nil]; grind
  | cons z r ih =>
    intro s A
    have hz := hok.head
    simp only [strips, List.map_cons, List.foldl_cons, cumS]
    rw [ih hok.tail, piece_clamp (by omega) hab]
    grind
/-- The worth between two places is what lies before the one less what lies before the other. -/
theorem worth_before {l : List (Int × Int)} (hok : Ok l) {a b : Rat} (ha : 0 ≤ a) (hab : a ≤ b) : worth l a b = before (units l) b - before (units l) a := by
  rw [before_cum hok ha, before_cum hok (Rat.le_trans ha hab)]
  unfold worth sumR
  rw [pieces_cum hok hab, cumS_cum hok (s := 0) ha, cumS_cum hok (s := 0) (Rat.le_trans ha hab)]
  have e : ∀ x : Rat, x - ((0 : Int) : Rat) = x := fun x => by
    have : ((0 : Int) : Rat) = 0 := rfl
    rw [this]; grind
  rw [e, e]
  grind
end Fl
end Go.Proofs.Ytemlfklipkpacaa

namespace Go.Proofs.Ytemlfklipkpacaa
open Go.RowKit

def cmpI (a b : Int) : Int := if a < b then -1 else if b < a then 1 else 0

theorem isNaN_same (x : Int) (w : World) : Calls Try.prog 159 #[.int .i64 x] w fun e w' => e = .returned (.bool false) ∧ w' = w := by
  have hx : (x != x) = false := by simp
  go_enter Try.func159, Try.ntmps159
  go_wp2
  go_ret
  exact ⟨ret_bool (by simp), rfl⟩

set_option maxHeartbeats 400000 in
theorem cmp_same (a b : Int) (w : World) : Calls Try.prog 130 #[.int .i64 a, .int .i64 b] w fun e w' => e = .returned (.int .i64 (cmpI a b)) ∧ w' = w := by
  have H : Hid (cmpI a b = if a < b then -1 else if b < a then 1 else 0) := Lib.hid rfl
  by_cases h1 : a < b
  · have H2 : Hid (cmpI a b = -1) := Lib.hid (by rw [H.out, if_pos h1])
    go_enter Try.func130, Try.ntmps130
    go_wp2_with (first | (go_at_call 159; refine (isNaN_same _ _).mono ?_; rintro e w' ⟨rfl, rfl⟩))
    go_ret
    exact ⟨ret_int H2.out.symm, rfl⟩
  · by_cases h2 : b < a
    · have H2 : Hid (cmpI a b = 1) := Lib.hid (by rw [H.out, if_neg h1, if_pos h2])
      go_enter Try.func130, Try.ntmps130
      go_wp2_with (first | (go_at_call 159; refine (isNaN_same _ _).mono ?_; rintro e w' ⟨rfl, rfl⟩))
      go_ret
      exact ⟨ret_int H2.out.symm, rfl⟩
    · have H2 : Hid (cmpI a b = 0) := Lib.hid (by rw [H.out, if_neg h1, if_neg h2])
      go_enter Try.func130, Try.ntmps130
      go_wp2_with (first | (go_at_call 159; refine (isNaN_same _ _).mono ?_; rintro e w' ⟨rfl, rfl⟩))
      go_ret
      exact ⟨ret_int H2.out.symm, rfl⟩

theorem mul_lt_of {p q d e r : Int} (h : p < q) (hd : 0 < d) (he : 0 < e) (hr : r < d) : (d * p + r) * e < q * d * e := by
  have h1 : d * p + r < q * d := by
    have : d * (p + 1) ≤ d * q := Int.mul_le_mul_of_nonneg_left (by omega) (by omega)
    rw [Int.mul_add, Int.mul_one] at this
    rw [Int.mul_comm q d]
    omega
  exact Int.mul_lt_mul_of_pos_right h1 he
theorem cmp_lt {a b : Rat} (_ : 0 ≤ b.num) (h : a.num / (a.den : Int) < b.num / (b.den : Int)) : a < b := by
  rw [Rat.lt_iff]
  have da : 0 < (a.den : Int) := by have := a.den_pos; omega
  have db : 0 < (b.den : Int) := by have := b.den_pos; omega
  have e1 := Int.mul_ediv_add_emod a.num (a.den : Int)
  have e2 := Int.mul_ediv_add_emod b.num (b.den : Int)
  have r1 := Int.emod_lt_of_pos a.num da
  have r2 := Int.emod_nonneg b.num (show (b.den : Int) ≠ 0 by omega)
  have m := mul_lt_of (e := (b.den : Int)) h da db r1
  rw [e1] at m
  have m2 : b.num / (b.den : Int) * (a.den : Int) * (b.den : Int) ≤ b.num * (a.den : Int) := by
    have : (b.den : Int) * (b.num / (b.den : Int)) ≤ b.num := by omega
    have := Int.mul_le_mul_of_nonneg_right this (Int.le_of_lt da)
    rw [show b.num / (b.den : Int) * (a.den : Int) * (b.den : Int) = (b.den : Int) * (b.num / (b.den : Int)) * (a.den : Int) by rw [Int.mul_comm _ (b.den : Int), ← Int.mul_assoc]]
    exact this
  omega
theorem cmp_rem {a b : Rat} (h : a.num / (a.den : Int) = b.num / (b.den : Int)) : a < b ↔ a.num % (a.den : Int) * (b.den : Int) < b.num % (b.den : Int) * (a.den : Int) := by
  rw [Rat.lt_iff]
  have e1 := Int.mul_ediv_add_emod a.num (a.den : Int)
  have e2 := Int.mul_ediv_add_emod b.num (b.den : Int)
  have f1 : a.num * (b.den : Int) = (a.den : Int) * (a.num / (a.den : Int)) * (b.den : Int) + a.num % (a.den : Int) * (b.den : Int) := by
    rw [← Int.add_mul, e1]
  have f2 : b.num * (a.den : Int) = (b.den : Int) * (b.num / (b.den : Int)) * (a.den : Int) + b.num % (b.den : Int) * (a.den : Int) := by
    rw [← Int.add_mul, e2]
  have f3 : (a.den : Int) * (a.num / (a.den : Int)) * (b.den : Int) = (b.den : Int) * (b.num / (b.den : Int)) * (a.den : Int) := by
    rw [h, Int.mul_right_comm, Int.mul_comm (a.den : Int) (b.den : Int), Int.mul_right_comm]
  omega
theorem cmpI_cases (a b : Int) : cmpI a b = -1 ∧ a < b ∨ cmpI a b = 1 ∧ b < a ∨ cmpI a b = 0 ∧ a = b := by
  unfold cmpI; split
  · simp [*]
  · split
    · simp [*]
    · right; right; exact ⟨rfl, by omega⟩
theorem cmp_first {a b : Rat} (ha : 0 ≤ a.num) (hb : 0 ≤ b.num) (h : cmpI (a.num / (a.den : Int)) (b.num / (b.den : Int)) ≠ 0) : cmpI (a.num / (a.den : Int)) (b.num / (b.den : Int)) = Fl.cmpR a b := by
  unfold Fl.cmpR
  rcases cmpI_cases (a.num / (a.den : Int)) (b.num / (b.den : Int)) with ⟨e, h1⟩ | ⟨e, h1⟩ | ⟨e, h1⟩
  · rw [e, if_pos (cmp_lt hb h1)]
  · have := cmp_lt ha h1
    rw [e, if_neg (by grind), if_pos this]
  · exact absurd e h
theorem cmp_second {a b : Rat} (h : cmpI (a.num / (a.den : Int)) (b.num / (b.den : Int)) = 0) : cmpI (a.num % (a.den : Int) * (b.den : Int)) (b.num % (b.den : Int) * (a.den : Int)) = Fl.cmpR a b := by
  have hq : a.num / (a.den : Int) = b.num / (b.den : Int) := by
    rcases cmpI_cases (a.num / (a.den : Int)) (b.num / (b.den : Int)) with ⟨e, h1⟩ | ⟨e, h1⟩ | ⟨e, h1⟩ <;> omega
  unfold Fl.cmpR cmpI
  simp only [cmp_rem hq, cmp_rem hq.symm]
end Go.Proofs.Ytemlfklipkpacaa

namespace Go.Proofs.Ytemlfklipkpacaa
open Go.RowKit

set_option maxRecDepth 100000 in
set_option maxHeartbeats 2000000 in
theorem compare_any (a b : Rat) (w : World) (ha : 0 ≤ a.num) (hb : 0 ≤ b.num) (ha2 : a.num ≤ 9223372036854775807) (hb2 : b.num ≤ 9223372036854775807) (hd : (a.den : Int) * (b.den : Int) ≤ 4000000000000000000) :
    Calls Try.prog 78 #[Fr a, Fr b] w fun e w' => e = .returned (.int .i64 (Fl.cmpR a b)) ∧ Below w.heap.size w w' := by
  obtain ⟨an, han⟩ : ∃ x : Nat, (x : Int) = a.num := ⟨a.num.toNat, by omega⟩
  obtain ⟨bn, hbn⟩ : ∃ x : Nat, (x : Int) = b.num := ⟨b.num.toNat, by omega⟩
  obtain ⟨ad, had⟩ : ∃ x, x = a.den := ⟨_, rfl⟩
  obtain ⟨bd, hbd⟩ : ∃ x, x = b.den := ⟨_, rfl⟩
  obtain ⟨r, hr⟩ : ∃ x, x = Fl.cmpR a b := ⟨_, rfl⟩
  have da : (1 : Int) ≤ (ad : Int) := by have := a.den_pos; omega
  have db : (1 : Int) ≤ (bd : Int) := by have := b.den_pos; omega
  have H1 : cmpI ((an : Int) / (ad : Int)) ((bn : Int) / (bd : Int)) ≠ 0 → cmpI ((an : Int) / (ad : Int)) ((bn : Int) / (bd : Int)) = r := by
    rw [han, hbn, had, hbd, hr]; exact cmp_first ha hb
  have H2 : cmpI ((an : Int) / (ad : Int)) ((bn : Int) / (bd : Int)) = 0 → cmpI ((an : Int) % (ad : Int) * (bd : Int)) ((bn : Int) % (bd : Int) * (ad : Int)) = r := by
    rw [han, hbn, had, hbd, hr]; exact cmp_second
  have HH := Lib.hid (And.intro H1 H2)
  clear H1 H2
  show Calls Try.prog 78 #[.agg #[.int .i64 a.num, .int .i64 a.den], .agg #[.int .i64 b.num, .int .i64 b.den]] w _
  rw [← han, ← hbn, ← had, ← hbd, ← hr]
  rw [← han] at ha ha2
  rw [← hbn] at hb hb2
  rw [← had, ← hbd] at hd
  clear han hbn had hbd hr
  have dd : (1 : Int) ≤ (ad : Int) * (bd : Int) := by have := Int.mul_le_mul da db (by omega) (by omega); omega
  have ea : (ad : Int) ≤ (ad : Int) * (bd : Int) := by have := Int.mul_le_mul_of_nonneg_left db (show (0 : Int) ≤ (ad : Int) by omega); omega
  have eb : (bd : Int) ≤ (ad : Int) * (bd : Int) := by have := Int.mul_le_mul_of_nonneg_right da (show (0 : Int) ≤ (bd : Int) by omega); omega
  have r1 := Int.emod_lt_of_pos (an : Int) (b := (ad : Int)) (by omega)
  have r2 := Int.emod_lt_of_pos (bn : Int) (b := (bd : Int)) (by omega)
  have r3 := Int.emod_nonneg (an : Int) (show (ad : Int) ≠ 0 by omega)
  have r4 := Int.emod_nonneg (bn : Int) (show (bd : Int) ≠ 0 by omega)
  have m1 : 0 ≤ (an : Int) % (ad : Int) * (bd : Int) := Int.mul_nonneg r3 (by omega)
  have m2 : (an : Int) % (ad : Int) * (bd : Int) ≤ (ad : Int) * (bd : Int) := Int.mul_le_mul_of_nonneg_right (by omega) (by omega)
  have m3 : 0 ≤ (bn : Int) % (bd : Int) * (ad : Int) := Int.mul_nonneg r4 (by omega)
  have m4 : (bn : Int) % (bd : Int) * (ad : Int) ≤ (bd : Int) * (ad : Int) := Int.mul_le_mul_of_nonneg_right (by omega) (by omega)
  rw [Int.mul_comm (bd : Int) (ad : Int)] at m4
  have x1 : IntKind.i64.wrap ((an : Int) % (ad : Int) * (bd : Int)) = (an : Int) % (ad : Int) * (bd : Int) := IntWalk.i64_in _ (by omega)
  have x2 : IntKind.i64.wrap ((bn : Int) % (bd : Int) * (ad : Int)) = (bn : Int) % (bd : Int) * (ad : Int) := IntWalk.i64_in _ (by omega)
  clear m1 m2 m3 m4 r1 r2 r3 r4 dd ea eb
  have b1 := IntWalk.tdiv_le (an : Int) ad (by omega) da
  have b2 := IntWalk.tdiv_le (bn : Int) bd (by omega) db
  have w1 : IntKind.i64.wrap ((an : Int) / (ad : Int)) = (an : Int) / (ad : Int) := IntWalk.i64_in _ (by omega)
  have w2 : IntKind.i64.wrap ((bn : Int) / (bd : Int)) = (bn : Int) / (bd : Int) := IntWalk.i64_in _ (by omega)
  clear b1 b2
  have na : ¬ ad = 0 := by omega
  have nb : ¬ bd = 0 := by omega
  have qa : ((ad : Int) == 0) = false := by simp; omega
  have qb : ((bd : Int) == 0) = false := by simp; omega
  go_enter Try.func78, Try.ntmps78
  go_upto_region 1 with fail
  go_cut [5, 6] from 8 (fun p5 p6 wx => ∃ g5 g6 : Nat, p5 = .pointer (some ⟨g5, 0, none⟩) ∧ p6 = .pointer (some ⟨g6, 0, none⟩) ∧ wx.heap[g5]? = some (.cells #[.int .i64 (an : Int), .int .i64 ad] 29 (0, 0)) ∧ wx.heap[g6]? = some (.cells #[.int .i64 (bn : Int), .int .i64 bd] 29 (0, 0)) ∧ Below w.heap.size w wx)
  case first =>
    go_region
    all_goals go_wp2_with fail
    all_goals go_meet
    all_goals (first
      | exact ⟨_, _, rfl, rfl, heap_alloc4_old w _ _ _ _, heap_alloc4_new w _ _ _ _, below_drewN (below_alloc4 w _ _ _ _) 1⟩
      | exact ⟨_, _, rfl, rfl, heap_alloc4_new w _ _ _ _, heap_alloc4_old w _ _ _ _, below_drewN (below_alloc4 w _ _ _ _) 1⟩)
  case rest =>
    obtain ⟨g5, g6, rfl, rfl, h5, h6, hB⟩ := hcut
    obtain ⟨⟨c5, c6⟩, -, -⟩ := row_fr h5
    obtain ⟨⟨c7, c8⟩, -, -⟩ := row_fr h6
    clear h5 h6
    go_wp2
    go_quiet ((go_at_call 130; exact Calls.quiet_of_same (cmp_same _ _ _)))
    have c5' : (wc.drewN nq).cell? ⟨g5, 0, none⟩ = _ := c5
    have c6' : (wc.drewN nq).cell? ⟨g5, 1, none⟩ = _ := c6
    have c7' : (wc.drewN nq).cell? ⟨g6, 0, none⟩ = _ := c7
    have c8' : (wc.drewN nq).cell? ⟨g6, 1, none⟩ = _ := c8
    have hB2 : Below w.heap.size w (wc.drewN nq) := below_drewN hB _
    clear c5 c6 c7 c8 hB
    generalize wc.drewN nq = wd at c5' c6' c7' c8' hB2 ⊢
    by_cases h0 : cmpI ((an : Int) / (ad : Int)) ((bn : Int) / (bd : Int)) = 0
    · have hz : (cmpI ((an : Int) / (ad : Int)) ((bn : Int) / (bd : Int)) != 0) = false := by simp [h0]
      go_wp2
      go_quiet ((go_at_call 130; exact Calls.quiet_of_same (cmp_same _ _ _)))
      go_wp2
      go_ret
      exact ⟨ret_int (HH.out.2 h0), below_drewN hB2 _⟩
    · have hz : (cmpI ((an : Int) / (ad : Int)) ((bn : Int) / (bd : Int)) != 0) = true := by simp [h0]
      go_wp2
      go_ret
      exact ⟨ret_int (HH.out.1 h0), hB2⟩
end Go.Proofs.Ytemlfklipkpacaa

namespace Go.Proofs.Ytemlfklipkpacaa
open Go.RowKit

set_option maxRecDepth 100000 in
set_option maxHeartbeats 1000000 in
theorem later_any (a b : Rat) (w : World) (ha : 0 ≤ a.num) (hb : 0 ≤ b.num) (ha2 : a.num ≤ 9223372036854775807) (hb2 : b.num ≤ 9223372036854775807) (hd : (a.den : Int) * (b.den : Int) ≤ 4000000000000000000) :
    Calls Try.prog 137 #[Fr a, Fr b] w fun e w' => e = .returned (Fr (Fl.later a b)) ∧ Below w.heap.size w w' := by
  have hh0 := heap_alloc3 w (.cells #[.int .i64 a.num, .int .i64 a.den] 89) (.cells #[.int .i64 b.num, .int .i64 b.den] 89) (.cells #[.int .i64 0, .int .i64 0] 89)
  have H0 := Lib.hid hh0
  clear hh0
  by_cases hab : a < b
  · have hc : Fl.cmpR a b = -1 := by unfold Fl.cmpR; rw [if_pos hab]
    have hl : Fl.later a b = b := if_pos hab
    have HL := Lib.hid hl
    clear hl
    go_enter Try.func137, Try.ntmps137
    go_wp2_with fail
    refine (compare_any a b _ ha hb ha2 hb2 hd).mono ?_
    rintro e w' ⟨rfl, hb'⟩
    rw [hc]
    have hB := (below_alloc3 w _ _ _).trans (hb'.mono (by simp; try omega))
    have hk := heap_at hb' (k := w.heap.size + 1) (by simp; try omega) ((heap_alloc_old _ _ (by simp)).trans (heap_alloc2_new w _ _))
    have hr := heap_at hb' (k := w.heap.size + 1 + 1) (by simp) H0.out
    clear hb'
    obtain ⟨⟨c0, c1⟩, -, -⟩ := row_fr hk
    obtain ⟨⟨d0, d1⟩, f0, f1⟩ := row_fr hr
    go_wp2
    rw [HL.out]
    exact bodyPost_ret (results_cell_row rfl _ _ _ _ _ _ _ rfl (two_cells hr (.int .i64 b.num) (.int .i64 b.den)) Try.underlying89 rfl infoFr2) rfl ⟨rfl, below_setCell (below_setCell hB (by omega) _) (by omega) _⟩
  · have hc : (0 : Int) ≤ Fl.cmpR a b := by unfold Fl.cmpR; rw [if_neg hab]; split <;> omega
    have hl : Fl.later a b = a := if_neg hab
    have HL := Lib.hid hl
    clear hl
    go_enter Try.func137, Try.ntmps137
    go_wp2_with fail
    refine (compare_any a b _ ha hb ha2 hb2 hd).mono ?_
    rintro e w' ⟨rfl, hb'⟩
    have hB := (below_alloc3 w _ _ _).trans (hb'.mono (by simp; try omega))
    have hk := heap_at hb' (k := w.heap.size) (by simp; try omega) ((heap_alloc_old _ _ (by simp; try omega)).trans (heap_alloc2_old w _ _))
    have hr := heap_at hb' (k := w.heap.size + 1 + 1) (by simp) H0.out
    clear hb'
    obtain ⟨⟨c0, c1⟩, -, -⟩ := row_fr hk
    obtain ⟨⟨d0, d1⟩, f0, f1⟩ := row_fr hr
    go_wp2
    rw [HL.out]
    exact bodyPost_ret (results_cell_row rfl _ _ _ _ _ _ _ rfl (two_cells hr (.int .i64 a.num) (.int .i64 a.den)) Try.underlying89 rfl infoFr2) rfl ⟨rfl, below_setCell (below_setCell hB (by omega) _) (by omega) _⟩

set_option maxRecDepth 100000 in
set_option maxHeartbeats 1000000 in
theorem sooner_any (a b : Rat) (w : World) (ha : 0 ≤ a.num) (hb : 0 ≤ b.num) (ha2 : a.num ≤ 9223372036854775807) (hb2 : b.num ≤ 9223372036854775807) (hd : (a.den : Int) * (b.den : Int) ≤ 4000000000000000000) :
    Calls Try.prog 160 #[Fr a, Fr b] w fun e w' => e = .returned (Fr (Fl.sooner a b)) ∧ Below w.heap.size w w' := by
  have hh0 := heap_alloc3 w (.cells #[.int .i64 a.num, .int .i64 a.den] 89) (.cells #[.int .i64 b.num, .int .i64 b.den] 89) (.cells #[.int .i64 0, .int .i64 0] 89)
  have H0 := Lib.hid hh0
  clear hh0
  by_cases hab : b < a
  · have hc : Fl.cmpR a b = 1 := by unfold Fl.cmpR; rw [if_neg (by grind), if_pos hab]
    have hl : Fl.sooner a b = b := if_pos hab
    have HL := Lib.hid hl
    clear hl
    go_enter Try.func160, Try.ntmps160
    go_wp2_with fail
    refine (compare_any a b _ ha hb ha2 hb2 hd).mono ?_
    rintro e w' ⟨rfl, hb'⟩
    rw [hc]
    have hB := (below_alloc3 w _ _ _).trans (hb'.mono (by simp; try omega))
    have hk := heap_at hb' (k := w.heap.size + 1) (by simp; try omega) ((heap_alloc_old _ _ (by simp)).trans (heap_alloc2_new w _ _))
    have hr := heap_at hb' (k := w.heap.size + 1 + 1) (by simp) H0.out
    clear hb'
    obtain ⟨⟨c0, c1⟩, -, -⟩ := row_fr hk
    obtain ⟨⟨d0, d1⟩, f0, f1⟩ := row_fr hr
    go_wp2
    rw [HL.out]
    exact bodyPost_ret (results_cell_row rfl _ _ _ _ _ _ _ rfl (two_cells hr (.int .i64 b.num) (.int .i64 b.den)) Try.underlying89 rfl infoFr2) rfl ⟨rfl, below_setCell (below_setCell hB (by omega) _) (by omega) _⟩
  · have hc : (0 : Int) ≥ Fl.cmpR a b := by unfold Fl.cmpR; rw [if_neg hab]; split <;> omega
    have hl : Fl.sooner a b = a := if_neg hab
    have HL := Lib.hid hl
    clear hl
    go_enter Try.func160, Try.ntmps160
    go_wp2_with fail
    refine (compare_any a b _ ha hb ha2 hb2 hd).mono ?_
    rintro e w' ⟨rfl, hb'⟩
    have hB := (below_alloc3 w _ _ _).trans (hb'.mono (by simp; try omega))
    have hk := heap_at hb' (k := w.heap.size) (by simp; try omega) ((heap_alloc_old _ _ (by simp; try omega)).trans (heap_alloc2_old w _ _))
    have hr := heap_at hb' (k := w.heap.size + 1 + 1) (by simp) H0.out
    clear hb'
    obtain ⟨⟨c0, c1⟩, -, -⟩ := row_fr hk
    obtain ⟨⟨d0, d1⟩, f0, f1⟩ := row_fr hr
    go_wp2
    rw [HL.out]
    exact bodyPost_ret (results_cell_row rfl _ _ _ _ _ _ _ rfl (two_cells hr (.int .i64 a.num) (.int .i64 a.den)) Try.underlying89 rfl infoFr2) rfl ⟨rfl, below_setCell (below_setCell hB (by omega) _) (by omega) _⟩
end Go.Proofs.Ytemlfklipkpacaa

namespace Go.Proofs.Ytemlfklipkpacaa
open Go

/-- A region that draws its order, by an invariant: what has been carried out so far, the frame, the world. -/
theorem wpAny_inv {P : Program} {ops : Array Oper} {Q : Exit → Act → World → Prop} {md : Region.Mode} (Inv : Array Bool → Act → World → Prop)
    (hstep : ∀ listed a w, Inv listed a w → ∀ i ∈ Region.ready md ops listed, wpOp P ops Q i (Inv (listed.setIfInBounds i true)) a w)
    (hend : ∀ listed a w, Inv listed a w → Region.ready md ops listed = [] → Q .normal a w) :
    ∀ (fuel : Nat) (listed : Array Bool) (a : Act) (w : World), listed.toList.count false ≤ fuel → Inv listed a w → wpAny P md ops Q fuel listed a w := by
  intro fuel
  induction fuel with
  | zero =>
    intro listed a w hf hI
    have hr : Region.ready md ops listed = [] := by
      unfold Region.ready
      rw [List.filter_eq_nil_iff]
      intro i _ h
      rw [Bool.and_eq_true] at h
      have h1 := h.1
      rw [Bool.not_eq_true'] at h1
      have hc : false ∈ listed.toList := by
        rw [Array.getD_eq_getD_getElem?] at h1
        cases hg : listed[i]? with
        | none => rw [hg] at h1; cases h1
        | some b => rw [hg] at h1; simp only [Option.getD_some] at h1; subst h1; exact Array.mem_toList_iff.2 (Array.mem_of_getElem? hg)
      have := List.count_pos_iff.2 hc
      omega
    exact ⟨hr, hend _ _ _ hI hr⟩
  | succ fuel ih =>
    intro listed a w hf hI
    refine ⟨fun hr => hend _ _ _ hI hr, fun i hi => wpOp_mono (fun a' w' hI' => ih _ a' w' ?_ hI') (hstep _ _ _ hI i hi)⟩
    unfold Region.ready at hi
    have h := (List.mem_filter.1 hi).2
    rw [Bool.and_eq_true] at h
    have h1 := h.1
    rw [Bool.not_eq_true', Array.getD_eq_getD_getElem?] at h1
    cases hg : listed[i]? with
    | none => rw [hg] at h1; cases h1
    | some b =>
      rw [hg] at h1
      simp only [Option.getD_some] at h1
      subst h1
      obtain ⟨hlt, hv⟩ := Array.getElem?_eq_some_iff.1 hg
      have hlt' : i < listed.toList.length := by simpa using hlt
      have hcs : (listed.setIfInBounds i true).toList.count false = listed.toList.count false - 1 := by
        rw [Array.toList_setIfInBounds, List.count_set hlt']
        simp [hv]
      omega

theorem wp_region_inv {P : Program} {id : Nat} {ops : Array Oper} {Q : Exit → Act → World → Prop} {a : Act} {w : World} (hm : P.follows .mixedOrders = true) (Inv : Array Bool → Act → World → Prop)
    (h0 : Inv (Array.replicate ops.size false) a { w with drawn := w.drawn + 1 })
    (hstep : ∀ listed a w, Inv listed a w → ∀ i ∈ Region.ready .any ops listed, wpOp P ops Q i (Inv (listed.setIfInBounds i true)) a w)
    (hend : ∀ listed a w, Inv listed a w → Region.ready .any ops listed = [] → Q .normal a w) : (Code.region id ops true).wp P Q a w :=
  wp_region_any hm (wpAny_inv Inv hstep hend _ _ _ _ (by simp) h0)
theorem wpOp_at {P : Program} {ops : Array Oper} {Q : Exit → Act → World → Prop} {i : Nat} {o : Oper} {K : Act → World → Prop} {a : Act} {w : World} (ho : ops[i]? = some o) (hg : o.guard = none) (h : o.wp P a w K Q) : wpOp P ops Q i K a w := by
  unfold wpOp
  rw [ho]
  simp only []
  rw [if_pos (by simp [Region.wanted, hg])]
  exact .inl h
end Go.Proofs.Ytemlfklipkpacaa

namespace Go.Proofs.Ytemlfklipkpacaa
open Go.RowKit

/-- What is asked of the places between which a strip is measured. -/
structure PlaceOk (a b : Rat) : Prop where
  a0 : 0 ≤ a
  b0 : 0 ≤ b
  an : a.num ≤ 9223372036854775807
  bn : b.num ≤ 9223372036854775807
  d : a.den * b.den ≤ 100000000000000

theorem PlaceOk.nums {a b : Rat} (h : PlaceOk a b) : 0 ≤ a.num ∧ 0 ≤ b.num ∧ (a.den : Int) ≤ 100000000000000 ∧ (b.den : Int) ≤ 100000000000000 := by
  have d := h.d
  have da := a.den_pos
  have db := b.den_pos
  have e1 : a.den ≤ a.den * b.den := Nat.le_mul_of_pos_right _ db
  have e2 : b.den ≤ a.den * b.den := Nat.le_mul_of_pos_left _ da
  exact ⟨Fl.num_nonneg h.a0, Fl.num_nonneg h.b0, by omega, by omega⟩

theorem PlaceOk.nums6 {a b : Rat} (h : PlaceOk a b) : 0 ≤ a.num ∧ 0 ≤ b.num ∧ (a.den : Int) ≤ 100000000000000 ∧ (b.den : Int) ≤ 100000000000000 ∧ a.num ≤ 9223372036854775807 ∧ b.num ≤ 9223372036854775807 :=
  ⟨h.nums.1, h.nums.2.1, h.nums.2.2.1, h.nums.2.2.2, h.an, h.bn⟩

theorem piece_facts {s t v : Int} {a b lo hi : Rat} (h : PlaceOk a b) (hs : 0 ≤ s) (hst : s ≤ t) (ht : t ≤ 1000) (_ : 0 ≤ v) (hv2 : v ≤ 20) (hlo : lo = Fl.later a (s : Rat)) (hhi : hi = Fl.sooner b (t : Rat)) :
    0 ≤ lo.num ∧ 0 ≤ hi.num ∧ lo.num ≤ 9223372036854775807 ∧ hi.num ≤ 9223372036854775807 ∧ (lo.den : Int) * (hi.den : Int) ≤ 4000000000000000000 ∧ (hi ≤ lo → Fl.piece (s, t, v) a b = 0) ∧
    (lo < hi → Fl.piece (s, t, v) a b = (hi - lo) * (v : Rat) ∧ SubOk hi lo ∧ 0 ≤ (hi - lo).num ∧ (hi - lo).num * v ≤ 4000000000000000000 ∧ ((hi - lo).den : Int) ≤ 4000000000000000000) := by
  have hd := h.d
  have da := a.den_pos
  have db := b.den_pos
  have n1 := Fl.num_nonneg h.a0
  have n2 := Fl.num_nonneg h.b0
  have dlo : lo.den ≤ a.den := by
    rw [hlo]; unfold Fl.later; split
    · exact da
    · exact Nat.le_refl _
  have dhi : hi.den ≤ b.den := by
    rw [hhi]; unfold Fl.sooner; split
    · exact db
    · exact Nat.le_refl _
  have dd : lo.den * hi.den ≤ a.den * b.den := Nat.mul_le_mul dlo dhi
  have dd' : (lo.den : Int) * (hi.den : Int) ≤ 100000000000000 := by rw [← Int.natCast_mul]; omega
  have l0 : 0 ≤ lo.num := by
    rw [hlo]; unfold Fl.later; split
    · exact hs
    · exact n1
  have h0 : 0 ≤ hi.num := by
    rw [hhi]; unfold Fl.sooner; split
    · show 0 ≤ t; omega
    · exact n2
  refine ⟨l0, h0, ?_, ?_, by omega, ?_, ?_⟩
  · rw [hlo]; unfold Fl.later; split
    · show s ≤ _; omega
    · exact h.an
  · rw [hhi]; unfold Fl.sooner; split
    · show t ≤ _; omega
    · exact h.bn
  · intro hle
    unfold Fl.piece
    simp only [← hlo, ← hhi, hle, if_true]
  · intro hlt
    have hth : hi ≤ ((1000 : Nat) : Rat) := by
      have : (t : Rat) ≤ ((1000 : Int) : Rat) := Rat.intCast_le_intCast.2 ht
      have e : hi ≤ (t : Rat) := by rw [hhi, Fl.sooner_eq]; grind
      exact Rat.le_trans e this
    have hi2 := Fl.num_le hth
    have lo2 := Fl.num_le (Rat.le_trans (Rat.le_of_lt hlt) hth)
    have dp : 0 < lo.den := lo.den_pos
    have dq : 0 < hi.den := hi.den_pos
    have hpos : 0 ≤ hi - lo := by grind
    have hlo0 : 0 ≤ lo := Rat.num_nonneg.mp l0
    have hdl : hi - lo ≤ ((1000 : Nat) : Rat) := by grind
    have d3 := Fl.num_le hdl
    have d4 := Fl.den_sub_le hi lo
    rw [Nat.mul_comm] at d4
    have d5 : (hi - lo).num * v ≤ (hi - lo).num * 20 := Int.mul_le_mul_of_nonneg_left hv2 (Fl.num_nonneg hpos)
    have m1 : hi.num * (lo.den : Int) ≤ 1000 * (hi.den : Int) * (lo.den : Int) := Int.mul_le_mul_of_nonneg_right (by exact hi2) (by omega)
    have m2 : lo.num * (hi.den : Int) ≤ 1000 * (lo.den : Int) * (hi.den : Int) := Int.mul_le_mul_of_nonneg_right (by exact lo2) (by omega)
    rw [Int.mul_assoc] at m1 m2
    rw [Int.mul_comm (hi.den : Int) (lo.den : Int)] at m1
    refine ⟨?_, ⟨⟨h0, l0, by omega, by omega, by rw [Int.mul_comm]; omega⟩, Rat.le_of_lt hlt⟩, Fl.num_nonneg hpos, ?_, ?_⟩
    · unfold Fl.piece
      simp only [← hlo, ← hhi]
      rw [if_neg (by grind)]
    · have : ((hi - lo).den : Int) ≤ 100000000000000 := by omega
      have : (hi - lo).num ≤ 1000 * ((hi - lo).den : Int) := d3
      omega
    · omega

/-- What holds after some of the operations of the region in which a strip's ends are found, in whatever order. -/
def SI (W0 : World) (p0 p1 p2 q3 q4 q5 q6 : Value) (b3 : Nat) (s t : Int) (a b lo hi : Rat) (L : Array Bool) (A : Act) (W : World) : Prop :=
  ∃ (l0 l1 l2 l3 l4 l5 l6 l7 l8 l9 l10 l11 l12 l13 : Bool) (v7 v8 v9 v10 v11 v12 v13 v14 v15 v16 v17 v18 : Value) (g7 g8 : Nat), L = #[l0, l1, l2, l3, l4, l5, l6, l7, l8, l9, l10, l11, l12, l13] ∧ A = ⟨#[p0, p1, p2, q3, q4, q5, q6, v7, v8, v9, v10, v11, v12, v13, v14, v15, v16, v17, v18, undef, undef, undef, undef, undef, undef, undef, undef, undef, undef, undef], []⟩ ∧ Below W0.heap.size W0 W ∧
    (l0 = true → v9 = Fr a) ∧ (l1 = true → v10 = .pointer (some ⟨b3, 0, none⟩)) ∧ (l2 = true → v11 = .int .i64 s) ∧ (l3 = true → v12 = Fr s) ∧ (l4 = true → v13 = Fr lo) ∧
    (l5 = true → v14 = Fr b) ∧ (l6 = true → v15 = .pointer (some ⟨b3, 1, none⟩)) ∧ (l7 = true → v16 = .int .i64 t) ∧ (l8 = true → v17 = Fr t) ∧ (l9 = true → v18 = Fr hi) ∧
    (l10 = true → v7 = .pointer (some ⟨g7, 0, none⟩) ∧ W0.heap.size ≤ g7 ∧ ∃ c d, W.heap[g7]? = some (.cells #[c, d] 89 (0, 0))) ∧
    (l11 = true → v8 = .pointer (some ⟨g8, 0, none⟩) ∧ W0.heap.size ≤ g8 ∧ ∃ c d, W.heap[g8]? = some (.cells #[c, d] 89 (0, 0))) ∧
    (l10 = true → l11 = true → g7 ≠ g8) ∧ (l12 = true → l10 = true) ∧ (l13 = true → l11 = true) ∧
    (l12 = true → W.heap[g7]? = some (.cells #[.int .i64 lo.num, .int .i64 lo.den] 89 (0, 0))) ∧
    (l13 = true → W.heap[g8]? = some (.cells #[.int .i64 hi.num, .int .i64 hi.den] 89 (0, 0)))

set_option maxRecDepth 100000 in
set_option maxHeartbeats 2000000 in
theorem strip_any (s t v : Int) (a b : Rat) (w : World) (h : PlaceOk a b) (hs : 0 ≤ s) (hst : s ≤ t) (ht : t ≤ 1000) (hv : 0 ≤ v) (hv2 : v ≤ 20) :
    Calls Try.prog 132 #[.agg #[.int .i64 s, .int .i64 t, .int .i64 v], Fr a, Fr b] w fun e w' => e = .returned (Fr (Fl.piece (s, t, v) a b)) ∧ Below w.heap.size w w' := by
  go_enter Try.func132, Try.ntmps132
  go_upto_region 1 with fail
  go_cut [7, 8] from 9 (fun p7 p8 wx => ∃ g7 g8 : Nat, w.heap.size + 4 ≤ g7 ∧ w.heap.size + 4 ≤ g8 ∧ p7 = .pointer (some ⟨g7, 0, none⟩) ∧ p8 = .pointer (some ⟨g8, 0, none⟩) ∧ wx.heap[g7]? = some (.cells #[.int .i64 (Fl.later a s).num, .int .i64 (Fl.later a s).den] 89 (0, 0)) ∧ wx.heap[g8]? = some (.cells #[.int .i64 (Fl.sooner b t).num, .int .i64 (Fl.sooner b t).den] 89 (0, 0)) ∧ wx.heap[w.heap.size]? = some (.cells #[.int .i64 s, .int .i64 t, .int .i64 v] 149 (0, 0)) ∧ wx.heap[w.heap.size + 1 + 1 + 1]? = some (.cells #[.int .i64 0, .int .i64 0] 89 (0, 0)) ∧ Below w.heap.size w wx)
  case first =>
    obtain ⟨W0, hW0⟩ : ∃ x, x = (((w.alloc (Obj.cells #[Value.int IntKind.i64 s, Value.int IntKind.i64 t, Value.int IntKind.i64 v] 149)).alloc (Obj.cells #[Value.int IntKind.i64 a.num, Value.int IntKind.i64 a.den] 89)).alloc (Obj.cells #[Value.int IntKind.i64 b.num, Value.int IntKind.i64 b.den] 89)).alloc (Obj.cells #[Value.int IntKind.i64 0, Value.int IntKind.i64 0] 89) := ⟨_, rfl⟩
    have e8 := heap_alloc4 w (Obj.cells #[Value.int IntKind.i64 s, Value.int IntKind.i64 t, Value.int IntKind.i64 v] 149) (Obj.cells #[Value.int IntKind.i64 a.num, Value.int IntKind.i64 a.den] 89) (Obj.cells #[Value.int IntKind.i64 b.num, Value.int IntKind.i64 b.den] 89) (Obj.cells #[Value.int IntKind.i64 0, Value.int IntKind.i64 0] 89)
    rw [← hW0] at e8
    obtain ⟨r3, r4, r5, r6⟩ := e8
    have e6 : W0.heap.size = w.heap.size + 4 := by rw [hW0]; simp
    have e7 : Below w.heap.size w W0 := by rw [hW0]; exact below_alloc4 w _ _ _ _
    rw [← hW0]
    clear hW0
    refine wp_region_inv (by kernel_rfl) (SI W0 _ _ _ _ _ _ _ w.heap.size s t a b (Fl.later a s) (Fl.sooner b t)) ⟨false, false, false, false, false, false, false, false, false, false, false, false, false, false, undef, undef, undef, undef, undef, undef, undef, undef, undef, undef, undef, undef, 0, 0, rfl, rfl, below_drewN (Below.refl _ _) 1, nofun, nofun, nofun, nofun, nofun, nofun, nofun, nofun, nofun, nofun, nofun, nofun, nofun, nofun, nofun, nofun, nofun⟩ ?_ ?_
    · rintro listed A W ⟨l0, l1, l2, l3, l4, l5, l6, l7, l8, l9, l10, l11, l12, l13, v7, v8, v9, v10, v11, v12, v13, v14, v15, v16, v17, v18, g7, g8, rfl, rfl, hB, h0, h1, h2, h3, h4, h5, h6, h7, h8, h9, h10, h11, hne, hk12, hk13, h12, h13⟩ i hi
      have hm := List.mem_filter.1 hi
      have hlt : i < 14 := by simpa using hm.1
      have hm2 := hm.2
      clear hm hi
      have R3 := heap_at hB (by omega) r3
      have R4 := heap_at hB (by omega) r4
      have R5 := heap_at hB (by omega) r5
      have s0 := cell_of_row W _ 0 _ _ _ R3
      have s1 := cell_of_row W _ 1 _ _ _ R3
      simp at s0 s1
      obtain rfl | rfl | rfl | rfl | rfl | rfl | rfl | rfl | rfl | rfl | rfl | rfl | rfl | rfl : i = 0 ∨ i = 1 ∨ i = 2 ∨ i = 3 ∨ i = 4 ∨ i = 5 ∨ i = 6 ∨ i = 7 ∨ i = 8 ∨ i = 9 ∨ i = 10 ∨ i = 11 ∨ i = 12 ∨ i = 13 := by omega
      all_goals simp [Region.binds] at hm2
      all_goals refine wpOp_at rfl rfl ?_
      · refine wp_load_row _ _ rfl _ rfl _ _ _ _ R4 Try.underlying89 rfl infoFr2 ?_
        exact ⟨true, l1, l2, l3, l4, l5, l6, l7, l8, l9, l10, l11, l12, l13, _, _, _, _, _, _, _, _, _, _, _, _, g7, g8, rfl, rfl, hB, fun _ => rfl, h1, h2, h3, h4, h5, h6, h7, h8, h9, h10, h11, hne, hk12, hk13, h12, h13⟩
      · unfold Oper.wp
        go_simp
        exact ⟨l0, true, l2, l3, l4, l5, l6, l7, l8, l9, l10, l11, l12, l13, _, _, _, _, _, _, _, _, _, _, _, _, g7, g8, rfl, rfl, hB, h0, fun _ => rfl, h2, h3, h4, h5, h6, h7, h8, h9, h10, h11, hne, hk12, hk13, h12, h13⟩
      · have q1 := h1 hm2.2; subst q1
        obtain ⟨rfl, rfl⟩ := hm2
        unfold Oper.wp
        go_simp
        exact ⟨_, _, _, _, _, _, _, _, _, _, _, _, _, _, _, _, _, _, _, _, _, _, _, _, _, _, g7, g8, rfl, rfl, hB, h0, h1, fun _ => rfl, h3, h4, h5, h6, h7, h8, h9, h10, h11, hne, hk12, hk13, h12, h13⟩
      · have q1 := h2 hm2.2; subst q1
        obtain ⟨rfl, rfl⟩ := hm2
        unfold Oper.wp
        go_simp
        refine (whole_any s W).mono ?_
        rintro e W' ⟨rfl, hb'⟩
        exact ⟨_, _, _, _, _, _, _, _, _, _, _, _, _, _, _, _, _, _, _, _, _, _, _, _, _, _, g7, g8, rfl, rfl, hB.trans (hb'.mono hB.size), h0, h1, h2, fun _ => rfl, h4, h5, h6, h7, h8, h9, fun q => let ⟨e, hn, c, d, hh⟩ := h10 q; ⟨e, hn, c, d, heap_keep hb' hh⟩, fun q => let ⟨e, hn, c, d, hh⟩ := h11 q; ⟨e, hn, c, d, heap_keep hb' hh⟩, hne, hk12, hk13, fun q => heap_keep hb' (h12 q), fun q => heap_keep hb' (h13 q)⟩
      · have q1 := h0 hm2.2.1; have q2 := h3 hm2.2.2; subst q1 q2
        obtain ⟨rfl, rfl, rfl⟩ := hm2
        unfold Oper.wp
        go_simp
        refine (later_any a (s : Rat) W h.nums6.1 hs h.nums6.2.2.2.2.1 (by show s ≤ _; omega) (by rw [Rat.den_intCast]; have := h.nums6.2.2.1; omega)).mono ?_
        rintro e W' ⟨rfl, hb'⟩
        exact ⟨_, _, _, _, _, _, _, _, _, _, _, _, _, _, _, _, _, _, _, _, _, _, _, _, _, _, g7, g8, rfl, rfl, hB.trans (hb'.mono hB.size), h0, h1, h2, h3, fun _ => rfl, h5, h6, h7, h8, h9, fun q => let ⟨e, hn, c, d, hh⟩ := h10 q; ⟨e, hn, c, d, heap_keep hb' hh⟩, fun q => let ⟨e, hn, c, d, hh⟩ := h11 q; ⟨e, hn, c, d, heap_keep hb' hh⟩, hne, hk12, hk13, fun q => heap_keep hb' (h12 q), fun q => heap_keep hb' (h13 q)⟩
      · refine wp_load_row _ _ rfl _ rfl _ _ _ _ R5 Try.underlying89 rfl infoFr2 ?_
        exact ⟨l0, l1, l2, l3, l4, true, l6, l7, l8, l9, l10, l11, l12, l13, _, _, _, _, _, _, _, _, _, _, _, _, g7, g8, rfl, rfl, hB, h0, h1, h2, h3, h4, fun _ => rfl, h6, h7, h8, h9, h10, h11, hne, hk12, hk13, h12, h13⟩
      · unfold Oper.wp
        go_simp
        exact ⟨l0, l1, l2, l3, l4, l5, true, l7, l8, l9, l10, l11, l12, l13, _, _, _, _, _, _, _, _, _, _, _, _, g7, g8, rfl, rfl, hB, h0, h1, h2, h3, h4, h5, fun _ => rfl, h7, h8, h9, h10, h11, hne, hk12, hk13, h12, h13⟩
      · have q1 := h6 hm2.2; subst q1
        obtain ⟨rfl, rfl⟩ := hm2
        unfold Oper.wp
        go_simp
        exact ⟨_, _, _, _, _, _, _, _, _, _, _, _, _, _, _, _, _, _, _, _, _, _, _, _, _, _, g7, g8, rfl, rfl, hB, h0, h1, h2, h3, h4, h5, h6, fun _ => rfl, h8, h9, h10, h11, hne, hk12, hk13, h12, h13⟩
      · have q1 := h7 hm2.2.1; have q5 := h4 hm2.2.2; subst q1 q5
        obtain ⟨rfl, rfl, rfl⟩ := hm2
        unfold Oper.wp
        go_simp
        refine (whole_any t W).mono ?_
        rintro e W' ⟨rfl, hb'⟩
        exact ⟨_, _, _, _, _, _, _, _, _, _, _, _, _, _, _, _, _, _, _, _, _, _, _, _, _, _, g7, g8, rfl, rfl, hB.trans (hb'.mono hB.size), h0, h1, h2, h3, h4, h5, h6, h7, fun _ => rfl, h9, fun q => let ⟨e, hn, c, d, hh⟩ := h10 q; ⟨e, hn, c, d, heap_keep hb' hh⟩, fun q => let ⟨e, hn, c, d, hh⟩ := h11 q; ⟨e, hn, c, d, heap_keep hb' hh⟩, hne, hk12, hk13, fun q => heap_keep hb' (h12 q), fun q => heap_keep hb' (h13 q)⟩
      · have q1 := h5 hm2.2.1; have q2 := h8 hm2.2.2; subst q1 q2
        obtain ⟨rfl, rfl, rfl⟩ := hm2
        unfold Oper.wp
        go_simp
        refine (sooner_any b (t : Rat) W h.nums6.2.1 (by show 0 ≤ t; omega) h.nums6.2.2.2.2.2 (by show t ≤ _; omega) (by rw [Rat.den_intCast]; have := h.nums6.2.2.2.1; omega)).mono ?_
        rintro e W' ⟨rfl, hb'⟩
        exact ⟨_, _, _, _, _, _, _, _, _, _, _, _, _, _, _, _, _, _, _, _, _, _, _, _, _, _, g7, g8, rfl, rfl, hB.trans (hb'.mono hB.size), h0, h1, h2, h3, h4, h5, h6, h7, h8, fun _ => rfl, fun q => let ⟨e, hn, c, d, hh⟩ := h10 q; ⟨e, hn, c, d, heap_keep hb' hh⟩, fun q => let ⟨e, hn, c, d, hh⟩ := h11 q; ⟨e, hn, c, d, heap_keep hb' hh⟩, hne, hk12, hk13, fun q => heap_keep hb' (h12 q), fun q => heap_keep hb' (h13 q)⟩
      · unfold Oper.wp
        go_simp
        exact ⟨l0, l1, l2, l3, l4, l5, l6, l7, l8, l9, true, l11, l12, l13, _, _, _, _, _, _, _, _, _, _, _, _, W.heap.size, g8, rfl, rfl, hB.alloc hB.size _, h0, h1, h2, h3, h4, h5, h6, h7, h8, h9, fun _ => ⟨rfl, hB.size, _, _, heap_alloc_new W _⟩, fun q => let ⟨e, hn, c, d, hh⟩ := h11 q; ⟨e, hn, c, d, heap_keep ((Below.refl _ W).alloc (Nat.le_refl _) _) hh⟩, fun _ q => by have hh := (h11 q).2.2; obtain ⟨c, d, hh⟩ := hh; have := heap_lt hh; omega, fun _ => rfl, hk13, fun q => absurd (hk12 q) (by simp [hm2]), fun q => heap_keep ((Below.refl _ W).alloc (Nat.le_refl _) _) (h13 q)⟩
      · unfold Oper.wp
        go_simp
        exact ⟨l0, l1, l2, l3, l4, l5, l6, l7, l8, l9, l10, true, l12, l13, _, _, _, _, _, _, _, _, _, _, _, _, g7, W.heap.size, rfl, rfl, hB.alloc hB.size _, h0, h1, h2, h3, h4, h5, h6, h7, h8, h9, fun q => let ⟨e, hn, c, d, hh⟩ := h10 q; ⟨e, hn, c, d, heap_keep ((Below.refl _ W).alloc (Nat.le_refl _) _) hh⟩, fun _ => ⟨rfl, hB.size, _, _, heap_alloc_new W _⟩, fun q _ => by have hh := (h10 q).2.2; obtain ⟨c, d, hh⟩ := hh; have := heap_lt hh; omega, hk12, fun _ => rfl, fun q => heap_keep ((Below.refl _ W).alloc (Nat.le_refl _) _) (h12 q), fun q => absurd (hk13 q) (by simp [hm2])⟩
      · have q1 : l10 = true := by simp [hm2]
        have q2 := h4 (by simp [hm2]); subst q2
        obtain ⟨q3, hn, c, d, hh⟩ := h10 q1
        subst q3
        refine wp_store_row _ _ _ rfl g7 #[.int .i64 (Fl.later a s).num, .int .i64 (Fl.later a s).den] rfl rfl _ _ hh infoFr2 rfl (fr_one _) ?_
        exact ⟨l0, l1, l2, l3, l4, l5, l6, l7, l8, l9, l10, l11, true, l13, _, _, _, _, _, _, _, _, _, _, _, _, g7, g8, rfl, rfl, below_setRow hB hn _, h0, h1, h2, h3, h4, h5, h6, h7, h8, h9, fun _ => ⟨rfl, hn, _, _, setRow_heap W g7 _ #[.int .i64 (Fl.later a s).num, .int .i64 (Fl.later a s).den] _ _ hh⟩, fun q => let ⟨e, hn', c', d', hh'⟩ := h11 q; ⟨e, hn', c', d', heap_row_other _ (hne q1 q).symm hh'⟩, hne, fun _ => q1, hk13, fun _ => setRow_heap W g7 _ #[.int .i64 (Fl.later a s).num, .int .i64 (Fl.later a s).den] _ _ hh, fun q => heap_row_other _ (hne q1 (hk13 q)).symm (h13 q)⟩
      · have q1 : l11 = true := by simp [hm2]
        have q2 := h9 (by simp [hm2]); subst q2
        obtain ⟨q3, hn, c, d, hh⟩ := h11 q1
        subst q3
        refine wp_store_row _ _ _ rfl g8 #[.int .i64 (Fl.sooner b t).num, .int .i64 (Fl.sooner b t).den] rfl rfl _ _ hh infoFr2 rfl (fr_one _) ?_
        exact ⟨l0, l1, l2, l3, l4, l5, l6, l7, l8, l9, l10, l11, l12, true, _, _, _, _, _, _, _, _, _, _, _, _, g7, g8, rfl, rfl, below_setRow hB hn _, h0, h1, h2, h3, h4, h5, h6, h7, h8, h9, fun q => let ⟨e, hn', c', d', hh'⟩ := h10 q; ⟨e, hn', c', d', heap_row_other _ (hne q q1) hh'⟩, fun _ => ⟨rfl, hn, _, _, setRow_heap W g8 _ #[.int .i64 (Fl.sooner b t).num, .int .i64 (Fl.sooner b t).den] _ _ hh⟩, hne, hk12, fun _ => q1, fun q => heap_row_other _ (hne (hk12 q) q1) (h12 q), fun _ => setRow_heap W g8 _ #[.int .i64 (Fl.sooner b t).num, .int .i64 (Fl.sooner b t).den] _ _ hh⟩
    · rintro listed A W ⟨l0, l1, l2, l3, l4, l5, l6, l7, l8, l9, l10, l11, l12, l13, v7, v8, v9, v10, v11, v12, v13, v14, v15, v16, v17, v18, g7, g8, rfl, rfl, hB, h0, h1, h2, h3, h4, h5, h6, h7, h8, h9, h10, h11, hne, hk12, hk13, h12, h13⟩ hr
      have hr2 := fun i hi => List.filter_eq_nil_iff.1 hr i hi
      clear hr
      have k0 := hr2 0 (by simp)
      simp [Region.binds] at k0
      subst k0
      have k1 := hr2 1 (by simp)
      simp [Region.binds] at k1
      subst k1
      have k2 := hr2 2 (by simp)
      simp [Region.binds] at k2
      subst k2
      have k3 := hr2 3 (by simp)
      simp [Region.binds] at k3
      subst k3
      have k4 := hr2 4 (by simp)
      simp [Region.binds] at k4
      subst k4
      have k5 := hr2 5 (by simp)
      simp [Region.binds] at k5
      subst k5
      have k6 := hr2 6 (by simp)
      simp [Region.binds] at k6
      subst k6
      have k7 := hr2 7 (by simp)
      simp [Region.binds] at k7
      subst k7
      have k8 := hr2 8 (by simp)
      simp [Region.binds] at k8
      subst k8
      have k9 := hr2 9 (by simp)
      simp [Region.binds] at k9
      subst k9
      have k10 := hr2 10 (by simp)
      simp [Region.binds] at k10
      subst k10
      have k11 := hr2 11 (by simp)
      simp [Region.binds] at k11
      subst k11
      have k12 := hr2 12 (by simp)
      simp [Region.binds] at k12
      subst k12
      have k13 := hr2 13 (by simp)
      simp [Region.binds] at k13
      subst k13
      obtain ⟨rfl, n7, -⟩ := h10 rfl
      obtain ⟨rfl, n8, -⟩ := h11 rfl
      go_wp2_with fail
      go_meet
      case rel => exact ⟨g7, g8, by omega, by omega, rfl, rfl, h12 (by simp), h13 (by simp), heap_at hB (by omega) r3, heap_at hB (by omega) r6, e7.trans (hB.mono (by omega))⟩
  case rest =>
    obtain ⟨g7, g8, n7, n8, rfl, rfl, h7, h8, r3, r6, hB⟩ := hcut
    obtain ⟨lo, hlo⟩ : ∃ x, x = Fl.later a (s : Rat) := ⟨_, rfl⟩
    obtain ⟨hi, hhi⟩ : ∃ x, x = Fl.sooner b (t : Rat) := ⟨_, rfl⟩
    rw [← hlo] at h7
    rw [← hhi] at h8
    have hF := Lib.hid (piece_facts h hs hst ht hv hv2 hlo hhi)
    have l7 := heap_lt h7
    have l8 := heap_lt h8
    have l6 := heap_lt r6
    clear hlo hhi
    obtain ⟨⟨c0, c1⟩, -, -⟩ := row_fr h7
    obtain ⟨⟨d0, d1⟩, -, -⟩ := row_fr h8
    go_wp2_with fail
    refine (compare_any lo hi _ hF.out.1 hF.out.2.1 hF.out.2.2.1 hF.out.2.2.2.1 hF.out.2.2.2.2.1).mono ?_
    rintro e w1 ⟨rfl, hb1⟩
    have h71 := heap_keep hb1 h7
    have h81 := heap_keep hb1 h8
    have r31 := heap_keep hb1 r3
    have r61 := heap_keep hb1 r6
    have hB1 := hB.trans (hb1.mono hB.size)
    clear hb1 c0 c1 d0 d1 l7 l8 l6 h7 h8 r3 r6 hB
    by_cases hle : hi ≤ lo
    · have hc : (0 : Int) ≤ Fl.cmpR lo hi := by unfold Fl.cmpR; rw [if_neg (by grind)]; split <;> omega
      have hp := Lib.hid (hF.out.2.2.2.2.2.1 hle)
      go_wp2_with fail
      refine (whole_any 0 _).mono ?_
      rintro e w2 ⟨rfl, hb2⟩
      have r62 := heap_keep hb2 r61
      have hB2 := hB1.trans (hb2.mono hB1.size)
      obtain ⟨⟨c0, c1⟩, f0, f1⟩ := row_fr r62
      go_wp2
      have hh := two_cells r62 (.int .i64 ((0 : Int) : Rat).num) (.int .i64 ((0 : Int) : Rat).den)
      rw [hp.out]
      exact bodyPost_ret (results_cell_row rfl _ _ _ _ _ _ _ rfl hh Try.underlying89 rfl infoFr2) rfl ⟨rfl, below_setCell (below_setCell hB2 (by omega) _) (by omega) _⟩
    · have hc : Fl.cmpR lo hi = -1 := by unfold Fl.cmpR; rw [if_pos (by grind)]
      rw [hc]
      have hp := Lib.hid (hF.out.2.2.2.2.2.2 (by grind))
      obtain ⟨⟨c0, c1⟩, -, -⟩ := row_fr h71
      obtain ⟨⟨d0, d1⟩, -, -⟩ := row_fr h81
      have s2 := cell_of_row w1 _ 2 _ _ _ r31
      simp at s2
      go_wp2_with fail
      have hq := hp.out
      obtain ⟨hpe, hsub, t1, t2, t3⟩ := hq
      have HP := Lib.hid hpe
      have HS := Lib.hid hsub
      have HT := Lib.hid (And.intro t1 (And.intro t2 t3))
      clear hpe hsub t1 t2 t3 hp
      go_region_held3 (fun w' => w'.cell? ⟨g7, 0, none⟩ = some (.int .i64 lo.num) ∧ w'.cell? ⟨g7, 1, none⟩ = some (.int .i64 lo.den) ∧ w'.cell? ⟨g8, 0, none⟩ = some (.int .i64 hi.num) ∧ w'.cell? ⟨g8, 1, none⟩ = some (.int .i64 hi.den) ∧ w'.cell? ⟨w.heap.size, 2, none⟩ = some (.int .i64 v))
        (first | exact ⟨c0, c1, d0, d1, s2⟩ | exact ⟨m0, m1, m2, m3, m4⟩ | exact ⟨cell_two_other _ _ (by omega) m0, cell_two_other _ _ (by omega) m1, cell_two_other _ _ (by omega) m2, cell_two_other _ _ (by omega) m3, cell_two_other _ _ (by omega) m4⟩ | exact ⟨k0, k1, k2, k3, k4⟩)
        (first
          | (go_at_call 138; refine (minus_any hi lo _ HS.out).mono ?_; rintro e w2 ⟨rfl, hb2⟩; have k0 := keep_cell hb2 c0; have k1 := keep_cell hb2 c1; have k2 := keep_cell hb2 d0; have k3 := keep_cell hb2 d1; have k4 := keep_cell hb2 s2; have r62 := heap_keep hb2 r61)
          | (go_at_call 161; refine (times_any (hi - lo) v _ HT.out.1 hv HT.out.2.1 HT.out.2.2).mono ?_; rintro e w3 ⟨rfl, hb3⟩; have m0 := keep_cell hb3 k0; have m1 := keep_cell hb3 k1; have m2 := keep_cell hb3 k2; have m3 := keep_cell hb3 k3; have m4 := keep_cell hb3 k4; have r63 := heap_keep hb3 r62; obtain ⟨⟨x0, x1⟩, y0, y1⟩ := row_fr r63))
      have hB2 : Below w.heap.size w w2 := (below_drewN hB1 1).trans (hb2.mono (by have := hB1.size; exact this))
      have hB3 := hB2.trans (hb3.mono hB2.size)
      go_wp2
      have hh := two_cells r63 (.int .i64 ((hi - lo) * (v : Rat)).num) (.int .i64 ((hi - lo) * (v : Rat)).den)
      rw [HP.out]
      exact bodyPost_ret (results_cell_row rfl _ _ _ _ _ _ _ rfl hh Try.underlying89 rfl infoFr2) rfl ⟨rfl, below_setCell (below_setCell hB3 (by omega) _) (by omega) _⟩
end Go.Proofs.Ytemlfklipkpacaa

namespace Go.Proofs.Ytemlfklipkpacaa
open Go.RowKit

/-- A slice of pairs of numbers (zones, fractions): where it begins, and what its cells hold. -/
structure Pts (w : World) (ao : Option Addr) (l : List (Int × Int)) : Prop where
  cells : 0 < l.length → ∃ b off, ao = some ⟨b, off, none⟩ ∧ b < w.heap.size ∧ ∀ i, i < l.length → w.cell? ⟨b, off + i * 2, none⟩ = some (.int .i64 (l.getD i (0, 0)).1) ∧ w.cell? ⟨b, off + i * 2 + 1, none⟩ = some (.int .i64 (l.getD i (0, 0)).2)

theorem Pts.below {w w' : World} {ao : Option Addr} {l : List (Int × Int)} (h : Pts w ao l) (hb : Below w.heap.size w w') : Pts w' ao l := by
  refine ⟨fun h0 => ?_⟩
  obtain ⟨b, off, rfl, hlt, hc⟩ := h.cells h0
  have hs := hb.size
  exact ⟨b, off, rfl, by omega, fun i hi => ⟨(hb.cell (p := ⟨b, _, none⟩) hlt).trans (hc i hi).1, (hb.cell (p := ⟨b, _, none⟩) hlt).trans (hc i hi).2⟩⟩

theorem ok_at {l : List (Int × Int)} (h : Fl.Ok l) {k : Nat} (hk : k < l.length) : 1 ≤ (l.getD k (0, 0)).1 ∧ (l.getD k (0, 0)).1 ≤ 20 ∧ 0 ≤ (l.getD k (0, 0)).2 ∧ (l.getD k (0, 0)).2 ≤ 20 := by
  rw [List.getD_eq_getElem?_getD, List.getElem?_eq_getElem hk]
  exact h _ (List.getElem_mem hk)
theorem len_take {l : List (Int × Int)} {k : Nat} (hk : k < l.length) : Fl.len (l.take (k + 1)) = Fl.len (l.take k) + (l.getD k (0, 0)).1 := by
  induction l generalizing k with
  | nil => simp at hk
  | cons z r ih =>
    cases k with
    | zero => simp [Fl.len]
    | succ k =>
      have := ih (k := k) (by simpa using hk)
      simp only [List.take_succ_cons, Fl.len, List.getD_cons_succ]
      omega
theorem ok_take {l : List (Int × Int)} (h : Fl.Ok l) (k : Nat) : Fl.Ok (l.take k) := fun z hz => h z (List.mem_of_mem_take hz)
theorem len_take_bound {l : List (Int × Int)} (h : Fl.Ok l) (h6 : l.length ≤ 6) (k : Nat) : 0 ≤ Fl.len (l.take k) ∧ Fl.len (l.take k) ≤ 120 := by
  have := Fl.len_bound (ok_take h k)
  have h2 : (l.take k).length ≤ l.length := by simp; omega
  omega
theorem strips_take {l : List (Int × Int)} {k : Nat} {s : Int} (hk : k < l.length) :
    (Fl.strips s l).take (k + 1) = (Fl.strips s l).take k ++ [(s + Fl.len (l.take k), s + Fl.len (l.take k) + (l.getD k (0, 0)).1, (l.getD k (0, 0)).2)] := by
  induction l generalizing k s with
  | nil => simp at hk
  | cons z r ih =>
    cases k with
    | zero => simp [Fl.strips, Fl.len]
    | succ k =>
      have := ih (k := k) (s := s + z.1) (by simpa using hk)
      simp only [Fl.strips, List.take_succ_cons, this, List.cons_append, Fl.len, List.getD_cons_succ, Int.add_assoc]
theorem strips_length (s : Int) (l : List (Int × Int)) : (Fl.strips s l).length = l.length := by
  induction l generalizing s with
  | nil => rfl
  | cons z r ih => simp [Fl.strips, ih]

def flat3 (l : List (Int × Int × Int)) : List Value := l.flatMap fun x => [.int .i64 x.1, .int .i64 x.2.1, .int .i64 x.2.2]
theorem flat3_app (l m : List (Int × Int × Int)) : flat3 (l ++ m) = flat3 l ++ flat3 m := by simp [flat3]

theorem infoSpAll : (Try.prog.info? 149).map (fun i => (i.zero, i.size, i.bytes)) = some (some (.agg #[.int .i64 0, .int .i64 0, .int .i64 0]), 3, 24) := by kernel_rfl
theorem info_sp : ∃ i, Try.prog.info? 149 = some i ∧ i.zero = some (.agg #[.int .i64 0, .int .i64 0, .int .i64 0]) ∧ i.size = 3 ∧ i.bytes = 24 := by
  have h := infoSpAll
  cases hi : Try.prog.info? 149 with
  | none => rw [hi] at h; cases h
  | some i =>
    rw [hi] at h
    simp only [Option.map_some, Option.some.injEq, Prod.mk.injEq] at h
    exact ⟨i, rfl, h.1, h.2.1, h.2.2⟩

set_option maxRecDepth 100000 in
set_option maxHeartbeats 1000000 in
theorem length_any (l : List (Int × Int)) (ao : Option Addr) (n cap : Nat) (w : World) (hp : Pts w ao l) (hln : n = l.length) (hok : Fl.Ok l) (h6 : l.length ≤ 6) :
    Calls Try.prog 65 #[.slice ao n cap] w fun e w' => e = .returned (.int .i64 (Fl.len l)) ∧ Below w.heap.size w w' := by
  have Hn := Lib.hid hln
  have hn6 : n ≤ 6 := by omega
  clear hln
  go_enter Try.func65, Try.ntmps65
  go_wp2
  go_loopw [3, 8] (fun sm i wr => ∃ k : Nat, k ≤ n ∧ i = .int .i64 k ∧ sm = .int .i64 (Fl.len (l.take k)) ∧ Below w.heap.size w wr) (fun _ i _ => n - (intOf i).toNat)
  case atStart => exact ⟨0, Nat.zero_le _, rfl, rfl, Below.refl _ _⟩
  case round =>
    obtain ⟨k, hk, rfl, rfl, hb⟩ := hrel
    by_cases hlt : k < n
    · obtain ⟨b, off, rfl, hbs, hc⟩ := hp.cells (by have := Hn.out; omega)
      have hkl : k < l.length := by have := Hn.out; omega
      obtain ⟨hc1, hc2⟩ := hc k hkl
      have hst := Lib.hid (len_take hkl)
      have b1 := len_take_bound hok h6 k
      have b2 := ok_at hok hkl
      clear hc hp
      rw [← hb.cell (p := ⟨b, _, none⟩) hbs] at hc1 hc2
      have i1 : (k : Int) < (n : Int) := by omega
      obtain ⟨A, hA⟩ : ∃ x, x = Fl.len (l.take k) := ⟨_, rfl⟩
      obtain ⟨x, hx⟩ : ∃ x, x = (l.getD k (0, 0)).1 := ⟨_, rfl⟩
      obtain ⟨y, hy⟩ : ∃ y, y = (l.getD k (0, 0)).2 := ⟨_, rfl⟩
      rw [← hx] at hc1 hst b2
      rw [← hy] at hc2 b2
      rw [← hA] at hst b1 ⊢
      clear hx hy hA
      go_wp2
      go_roundw
      case rel => exact ⟨k + 1, by omega, by go_num, by rw [hst.out], hb.alloc hb.size _⟩
      case measure => simp [intOf]; omega
    · have hk2 : k = n := by omega
      have Hk := Lib.hid hk2
      clear hk2
      go_wp2
      go_ret
      refine ⟨ret_int ?_, hb⟩
      rw [Hk.out, Hn.out, List.take_length]

set_option maxRecDepth 100000 in
set_option maxHeartbeats 2000000 in
theorem strips_any (l : List (Int × Int)) (ao : Option Addr) (n cap : Nat) (w : World) (hp : Pts w ao l) (hln : n = l.length) (hok : Fl.Ok l) (h6 : l.length ≤ 6) :
    Calls Try.prog 131 #[.slice ao n cap] w fun e w' => ∃ v, e = .returned v ∧ w'.ownsRow w.heap.size 149 3 v l.length (flat3 (Fl.strips 0 l)) ∧ Below w.heap.size w w' := by
  have Hn := Lib.hid hln
  have hn6 : n ≤ 6 := by omega
  obtain ⟨i0, hi0, hz0, hz1, hz2⟩ := info_sp
  clear hln
  go_enter Try.func131, Try.ntmps131
  go_wp2
  go_loopw [3, 4, 9] (fun v a i wr => ∃ k : Nat, k ≤ n ∧ i = .int .i64 k ∧ a = .int .i64 (Fl.len (l.take k)) ∧ Hid (wr.ownsRow w.heap.size 149 3 v k (flat3 ((Fl.strips 0 l).take k))) ∧ Below w.heap.size w wr) (fun _ _ i _ => n - (intOf i).toNat)
  case atStart => exact ⟨0, Nat.zero_le _, rfl, rfl, Lib.hid ⟨rfl, .inl ⟨rfl, rfl⟩⟩, Below.refl _ _⟩
  case round =>
    obtain ⟨k, hk, rfl, rfl, hown, hb⟩ := hrel
    by_cases hlt : k < n
    · obtain ⟨b, off, rfl, hbs, hc⟩ := hp.cells (by have := Hn.out; omega)
      have hkl : k < l.length := by have := Hn.out; omega
      obtain ⟨hc1, hc2⟩ := hc k hkl
      have hst := Lib.hid (len_take hkl)
      have hsp := Lib.hid (strips_take (s := 0) hkl)
      have b1 := len_take_bound hok h6 k
      have b2 := ok_at hok hkl
      clear hc hp
      rw [← hb.cell (p := ⟨b, _, none⟩) hbs] at hc1 hc2
      have i1 : (k : Int) < (n : Int) := by omega
      obtain ⟨A, hA⟩ : ∃ x, x = Fl.len (l.take k) := ⟨_, rfl⟩
      obtain ⟨x, hx⟩ : ∃ x, x = (l.getD k (0, 0)).1 := ⟨_, rfl⟩
      obtain ⟨y, hy⟩ : ∃ y, y = (l.getD k (0, 0)).2 := ⟨_, rfl⟩
      rw [← hx] at hc1 hst b2 hsp
      rw [← hy] at hc2 b2 hsp
      rw [← hA] at hst b1 hsp ⊢
      clear hx hy hA
      have hs := hb.size
      go_wp2_with (first | (at_builtin; refine wpList_append_own _ rfl _ _ 146 rfl w.heap.size 149 i0 (.agg #[.int .i64 0, .int .i64 0, .int .i64 0]) 3 24 Try.underlying146 hi0 hz0 hz1 hz2 rfl (by decide) _ k _ rfl ((hown.out.alloc _).alloc _) ⟨wr.heap.size + 1, 0, none⟩ 1 1 [.int .i64 A, .int .i64 (A + x), .int .i64 y] rfl rfl (World.news_of_block (cs := #[.int .i64 A, .int .i64 (A + x), .int .i64 y]) (t := 149) (fr := (0, 0)) (heap_alloc2_new wr _ _)) (by simp [Value.oneCell']) (by unfold maxLen; omega) (by omega) (by simp; omega) ?_; intro v' w3 hown3 hgrow3 hnil3; have hb5 : Below w.heap.size w w3 := ((hb.alloc hs _).alloc (by simp; omega) _).grown hgrow3 (by simp; omega) (fun q hq => (hown.out.lt _ hq).1); have q0 : w3.cell? ⟨wr.heap.size, 0, none⟩ = some (.int .i64 x) := (hgrow3.cell_far _ (by simp; omega) (fun h => absurd (hown.out.lt _ h.symm).2 (Nat.lt_irrefl _))).trans (cell_of_row _ _ 0 _ _ _ (heap_alloc2_old wr _ _)); clear hgrow3 hnil3))
      go_roundw
      case rel =>
        refine ⟨k + 1, by omega, by go_num, by rw [hst.out], Lib.hid ?_, hb5⟩
        rw [hsp.out, flat3_app, Int.zero_add]
        exact hown3
      case measure => simp [intOf]; omega
    · have hk2 : k = n := by omega
      have Hk := Lib.hid hk2
      clear hk2
      go_wp2
      go_ret
      refine ⟨_, rfl, ?_, hb⟩
      have := hown.out
      rw [Hk.out, Hn.out, ← strips_length 0 l, List.take_length] at this
      rw [← strips_length 0 l]
      exact this
end Go.Proofs.Ytemlfklipkpacaa

namespace Go.Proofs.Ytemlfklipkpacaa
open Go.RowKit

def pr (q : Rat) : Int × Int := (q.num, (q.den : Int))
/-- A slice of fractions. -/
def Frs (w : World) (ao : Option Addr) (l : List Rat) : Prop := Pts w ao (l.map pr)
theorem Frs.below {w w' : World} {ao : Option Addr} {l : List Rat} (h : Frs w ao l) (hb : Below w.heap.size w w') : Frs w' ao l := Pts.below h hb
theorem Frs.at {w : World} {ao : Option Addr} {l : List Rat} (h : Frs w ao l) {k : Nat} (hk : k < l.length) :
    ∃ b off, ao = some ⟨b, off, none⟩ ∧ b < w.heap.size ∧ w.cell? ⟨b, off + k * 2, none⟩ = some (.int .i64 (l[k]).num) ∧ w.cell? ⟨b, off + k * 2 + 1, none⟩ = some (.int .i64 (l[k]).den) := by
  obtain ⟨b, off, rfl, hlt, hc⟩ := Pts.cells h (by simp; omega)
  have := hc k (by simpa using hk)
  have e : (l.map pr).getD k (0, 0) = pr l[k] := by simp [List.getD_eq_getElem?_getD, hk]
  rw [e] at this
  exact ⟨b, off, rfl, hlt, this.1, this.2⟩

set_option maxRecDepth 100000 in
set_option maxHeartbeats 2000000 in
theorem together_any (l : List Rat) (ao : Option Addr) (n cap : Nat) (w : World) (hp : Frs w ao l) (hln : n = l.length) (hn : n ≤ 100) (ha : Fl.Adds 0 l) :
    Calls Try.prog 133 #[.slice ao n cap, .func (.func 134) #[] #[]] w fun e w' => e = .returned (Fr (Fl.sumR l)) ∧ Below w.heap.size w w' := by
  have Hn := Lib.hid hln
  clear hln
  go_enter Try.func133, Try.ntmps133
  go_wp2_with fail
  refine (whole_any 0 _).mono ?_
  rintro e w1 ⟨rfl, hb1⟩
  have r0 := heap_at hb1 (k := w.heap.size) (by simp) (heap_alloc_new w (.cells #[.int .i64 0, .int .i64 0] 89))
  have hB1 := ((Below.refl _ w).alloc (Nat.le_refl _) (.cells #[.int .i64 0, .int .i64 0] 89)).trans (hb1.mono (by simp))
  have l0 := heap_lt r0
  clear hb1
  go_wp2_with fail
  have hB2 := hB1.alloc hB1.size (.cells #[.int .i64 0, .int .i64 1] 89)
  have r02 := heap_keep ((Below.refl _ w1).alloc (Nat.le_refl _) (.cells #[.int .i64 0, .int .i64 1] 89)) r0
  have r5 := heap_alloc_new w1 (.cells #[.int .i64 0, .int .i64 1] 89)
  have hne : w.heap.size ≠ w1.heap.size := by omega
  have hg5 : w.heap.size ≤ w1.heap.size := by omega
  generalize w1.heap.size = g5 at r5 hne hg5 ⊢
  go_loopw [11] (fun i wr => ∃ k : Nat, k ≤ n ∧ i = .int .i64 k ∧ wr.heap[g5]? = some (.cells #[.int .i64 (Fl.sumR (l.take k)).num, .int .i64 (Fl.sumR (l.take k)).den] 89 (0, 0)) ∧ wr.heap[w.heap.size]? = some (.cells #[.int .i64 0, .int .i64 0] 89 (0, 0)) ∧ Below w.heap.size w wr) (fun i _ => n - (intOf i).toNat)
  case atStart => exact ⟨0, Nat.zero_le _, rfl, r5, r02, hB2⟩
  case round =>
    clear r5 r02 hB2 r0 hB1
    obtain ⟨k, hk, rfl, r5, r4, hb⟩ := hrel
    by_cases hlt : k < n
    · have hkl : k < l.length := by have := Hn.out; omega
      obtain ⟨b, off, rfl, hbs, hc1, hc2⟩ := hp.at hkl
      have hst := Lib.hid (Fl.sumR_step l k hkl)
      have hpo := Lib.hid (plusOk (ha.at k hkl))
      clear hp ha
      rw [← hb.cell (p := ⟨b, _, none⟩) hbs] at hc1 hc2
      have i1 : (k : Int) < (n : Int) := by omega
      obtain ⟨A, hA⟩ : ∃ x, x = Fl.sumR (l.take k) := ⟨_, rfl⟩
      obtain ⟨x, hx⟩ : ∃ x, x = l[k] := ⟨_, rfl⟩
      have hA' : (l.take k).foldl (· + ·) 0 = A := hA.symm
      rw [hA'] at hpo
      rw [← hA] at r5 hst
      rw [← hx] at hc1 hc2 hst hpo
      clear hA hx hA'
      obtain ⟨⟨c0, c1⟩, -, -⟩ := row_fr r5
      have hl5 := heap_lt r5
      have hbw : b < wr.heap.size := by have := hb.size; omega
      go_wp2_with fail
      refine (plus_any A x _ hpo.out).mono ?_
      rintro e w5 ⟨rfl, hb5⟩
      have hbb := hb.alloc hb.size (.cells #[.int .i64 x.num, .int .i64 x.den] 89)
      have ha1 := (Below.refl _ wr).alloc (Nat.le_refl _) (.cells #[.int .i64 x.num, .int .i64 x.den] 89)
      have r55 := heap_keep hb5 (heap_keep ha1 r5)
      have r45 := heap_keep hb5 (heap_keep ha1 r4)
      have hB5 := hbb.trans (hb5.mono hbb.size)
      clear c0 c1 hb5 ha1 hbb r5 r4
      obtain ⟨⟨c0, c1⟩, f0, f1⟩ := row_fr r55
      go_wp2_with fail
      go_roundw
      case rel =>
        refine ⟨k + 1, by omega, by go_num, ?_, ?_, below_setCell (below_setCell hB5 hg5 _) hg5 _⟩
        · rw [hst.out]; exact two_cells r55 _ _
        · rw [heap_setCell_other _ _ _ _ hne, heap_setCell_other _ _ _ _ hne]; exact r45
      case measure => simp [intOf]; omega
    · have hk2 : k = n := by omega
      have Hk := Lib.hid hk2
      clear hk2
      have e : l.take k = l := by rw [Hk.out, Hn.out, List.take_length]
      rw [e] at r5
      clear e
      obtain ⟨⟨c0, c1⟩, -, -⟩ := row_fr r5
      obtain ⟨⟨d0, d1⟩, f0, f1⟩ := row_fr r4
      go_wp2
      exact bodyPost_ret (results_cell_row rfl _ _ _ _ _ _ _ rfl (two_cells r4 (.int .i64 (Fl.sumR l).num) (.int .i64 (Fl.sumR l).den)) Try.underlying89 rfl infoFr2) rfl ⟨rfl, below_setCell (below_setCell hb (by omega) _) (by omega) _⟩
end Go.Proofs.Ytemlfklipkpacaa

namespace Go.Proofs.Ytemlfklipkpacaa
open Go.RowKit

theorem own_cells {w : World} {base n size : Nat} {e : TypeId} {v : Value} {xs : List Value} (h : w.ownsRow base e size v n xs) (hn : 0 < n) :
    ∃ g cap, v = .slice (some ⟨g, 0, none⟩) n cap ∧ base ≤ g ∧ g < w.heap.size ∧ n ≤ cap ∧ ∀ j u, xs[j]? = some u → w.cell? ⟨g, j, none⟩ = some u := by
  rcases h.2 with ⟨_, h0⟩ | ⟨g, cap, cur, rfl, hb, hg, hnc, hcm, hcs, htk⟩
  · omega
  · refine ⟨g, cap, rfl, hb, heap_lt hg, hnc, fun j u hu => ?_⟩
    rw [cell_of_row w g j _ _ _ hg]
    have hj : j < xs.length := (List.getElem?_eq_some_iff.1 hu).1
    have hl := h.1
    rw [← htk] at hu
    rw [List.getElem?_take, if_pos (by omega)] at hu
    simpa using hu

theorem own_below {w w' : World} {base n size : Nat} {e : TypeId} {v : Value} {xs : List Value} (h : w.ownsRow base e size v n xs) (hb : Below w.heap.size w w') : w'.ownsRow base e size v n xs := by
  refine ⟨h.1, ?_⟩
  rcases h.2 with h0 | ⟨g, cap, cur, rfl, hb0, hg, r⟩
  · exact .inl h0
  · exact .inr ⟨g, cap, cur, rfl, hb0, heap_keep hb hg, r⟩
theorem flat3_at {L : List (Int × Int × Int)} {k : Nat} (hk : k < L.length) :
    (flat3 L)[k * 3]? = some (.int .i64 L[k].1) ∧ (flat3 L)[k * 3 + 1]? = some (.int .i64 L[k].2.1) ∧ (flat3 L)[k * 3 + 2]? = some (.int .i64 L[k].2.2) := by
  induction L generalizing k with
  | nil => simp at hk
  | cons x r ih =>
    cases k with
    | zero => simp [flat3]
    | succ k =>
      have := ih (k := k) (by simpa using hk)
      simp only [flat3, List.flatMap_cons] at this ⊢
      rw [show (k + 1) * 3 = (k * 3) + 3 by omega]
      simpa using this
def flat2 (l : List (Int × Int)) : List Value := l.flatMap fun x => [.int .i64 x.1, .int .i64 x.2]
theorem flat2_app (l m : List (Int × Int)) : flat2 (l ++ m) = flat2 l ++ flat2 m := by simp [flat2]
theorem flat2_at {L : List (Int × Int)} {k : Nat} (hk : k < L.length) :
    (flat2 L)[k * 2]? = some (.int .i64 L[k].1) ∧ (flat2 L)[k * 2 + 1]? = some (.int .i64 L[k].2) := by
  induction L generalizing k with
  | nil => simp at hk
  | cons x r ih =>
    cases k with
    | zero => simp [flat2]
    | succ k =>
      have := ih (k := k) (by simpa using hk)
      simp only [flat2, List.flatMap_cons] at this ⊢
      rw [show (k + 1) * 2 = (k * 2) + 2 by omega]
      simpa using this
theorem flat2_length (L : List (Int × Int)) : (flat2 L).length = L.length * 2 := by
  induction L with
  | nil => rfl
  | cons x r ih => simp only [flat2, List.flatMap_cons, List.length_append, List.length_cons, List.length_nil] at ih ⊢; omega

theorem own_pts2 {w : World} {base n : Nat} {e : TypeId} {v : Value} {L : List (Int × Int)} (h : w.ownsRow base e 2 v n (flat2 L)) (hn : n = L.length) :
    ∃ ao cap, v = .slice ao n cap ∧ n ≤ cap ∧ Pts w ao L := by
  by_cases h0 : 0 < n
  · obtain ⟨g, cap, rfl, hb, hlt, hnc, hc⟩ := own_cells h h0
    refine ⟨_, cap, rfl, hnc, ⟨fun _ => ⟨g, 0, rfl, hlt, fun i hi => ?_⟩⟩⟩
    have := flat2_at hi
    rw [Nat.zero_add]
    rw [List.getD_eq_getElem?_getD, List.getElem?_eq_getElem hi]
    exact ⟨hc _ _ this.1, hc _ _ this.2⟩
  · have hn0 : n = 0 := by omega
    rcases h.2 with ⟨rfl, _⟩ | ⟨g, cap, cur, rfl, _, _, hnc, _⟩
    · exact ⟨none, 0, by rw [hn0], by omega, ⟨fun hl => by omega⟩⟩
    · exact ⟨_, cap, rfl, hnc, ⟨fun hl => by omega⟩⟩

theorem infoFrAll2 : (Try.prog.info? 89).map (fun i => (i.zero, i.size, i.bytes)) = some (some (.agg #[.int .i64 0, .int .i64 0]), 2, 16) := by kernel_rfl
theorem info_fr : ∃ i, Try.prog.info? 89 = some i ∧ i.zero = some (.agg #[.int .i64 0, .int .i64 0]) ∧ i.size = 2 ∧ i.bytes = 16 := by
  have h := infoFrAll2
  cases hi : Try.prog.info? 89 with
  | none => rw [hi] at h; cases h
  | some i =>
    rw [hi] at h
    simp only [Option.map_some, Option.some.injEq, Prod.mk.injEq] at h
    exact ⟨i, rfl, h.1, h.2.1, h.2.2⟩

theorem strips_at {l : List (Int × Int)} {k : Nat} {s : Int} (hk : k < l.length) :
    (Fl.strips s l)[k]'(by rw [strips_length]; exact hk) = (s + Fl.len (l.take k), s + Fl.len (l.take k) + (l.getD k (0, 0)).1, (l.getD k (0, 0)).2) := by
  have h := strips_take (s := s) hk
  have hl : k < (Fl.strips s l).length := by rw [strips_length]; exact hk
  rw [List.take_succ_eq_append_getElem hl] at h
  have := List.append_cancel_left h
  simpa using this
theorem pieces_take {l : List (Int × Int)} {a b : Rat} {k : Nat} (hk : k < l.length) :
    ((Fl.strips 0 l).map fun x => Fl.piece x a b).take (k + 1) = ((Fl.strips 0 l).map fun x => Fl.piece x a b).take k ++ [Fl.piece (Fl.len (l.take k), Fl.len (l.take k) + (l.getD k (0, 0)).1, (l.getD k (0, 0)).2) a b] := by
  rw [← List.map_take, ← List.map_take, strips_take hk, List.map_append, Int.zero_add]
  rfl

set_option maxRecDepth 100000 in
set_option maxHeartbeats 4000000 in
theorem worth_any (l : List (Int × Int)) (a b : Rat) (ao : Option Addr) (n cap : Nat) (w : World) (hp : Pts w ao l) (hln : n = l.length) (hok : Fl.Ok l) (h1 : 1 ≤ l.length) (h6 : l.length ≤ 6) (hab : PlaceOk a b) :
    Calls Try.prog 74 #[.slice ao n cap, Fr a, Fr b] w fun e w' => e = .returned (Fr (Fl.worth l a b)) ∧ Below w.heap.size w w' := by
  have Hn := Lib.hid hln
  have hn6 : n ≤ 6 := by omega
  have hn1 : 1 ≤ n := by omega
  obtain ⟨i0, hi0, hz0, hz1, hz2⟩ := info_fr
  clear hln
  have hadds := (Fl.worth_adds hab.d hok h6).1
  have Hadds := Lib.hid hadds
  clear hadds
  have hA := below_alloc3 w (.cells #[.int .i64 a.num, .int .i64 a.den] 89) (.cells #[.int .i64 b.num, .int .i64 b.den] 89) (.cells #[.int .i64 0, .int .i64 0] 89)
  have hpA := hp.below hA
  have ra : (((w.alloc (.cells #[.int .i64 a.num, .int .i64 a.den] 89)).alloc (.cells #[.int .i64 b.num, .int .i64 b.den] 89)).alloc (.cells #[.int .i64 0, .int .i64 0] 89)).heap[w.heap.size]? = _ := (heap_alloc_old _ _ (by simp; try omega)).trans (heap_alloc2_old w _ _)
  have rb : (((w.alloc (.cells #[.int .i64 a.num, .int .i64 a.den] 89)).alloc (.cells #[.int .i64 b.num, .int .i64 b.den] 89)).alloc (.cells #[.int .i64 0, .int .i64 0] 89)).heap[w.heap.size + 1]? = _ := (heap_alloc_old _ _ (by simp; try omega)).trans (heap_alloc2_new w _ _)
  have rr := heap_alloc3 w (.cells #[.int .i64 a.num, .int .i64 a.den] 89) (.cells #[.int .i64 b.num, .int .i64 b.den] 89) (.cells #[.int .i64 0, .int .i64 0] 89)
  have HA := Lib.hid (And.intro hA (And.intro ra (And.intro rb rr)))
  clear hA hp ra rb rr
  go_enter Try.func74, Try.ntmps74
  go_wp2_with fail
  refine (strips_any l _ _ _ _ hpA Hn.out hok h6).mono ?_
  rintro e w2 ⟨v, rfl, hov, hb2⟩
  have hB2 := HA.out.1.trans (hb2.mono HA.out.1.size)
  have ra := heap_keep hb2 HA.out.2.1
  have rb := heap_keep hb2 HA.out.2.2.1
  have rr := heap_keep hb2 HA.out.2.2.2
  clear hb2 HA hpA
  obtain ⟨g, cap2, rfl, hgb, hgl, hgc, hcells⟩ := own_cells hov h1
  clear hov
  have Hc := Lib.hid hcells
  clear hcells
  rw [← Hn.out] at hgc ⊢
  have hsz : w.heap.size + 3 ≤ w2.heap.size := by simp at hgb; omega
  clear hgb
  go_wp2_with fail
  go_loopw [7, 13] (fun v i wr => ∃ k : Nat, k ≤ n ∧ i = .int .i64 k ∧ Hid (wr.ownsRow w2.heap.size 89 2 v k (flat2 ((((Fl.strips 0 l).map fun x => Fl.piece x a b).take k).map pr))) ∧ Below w2.heap.size w2 wr) (fun _ i _ => n - (intOf i).toNat)
  case atStart => exact ⟨0, Nat.zero_le _, rfl, Lib.hid ⟨rfl, .inl ⟨rfl, rfl⟩⟩, Below.refl _ _⟩
  case round =>
    obtain ⟨k, hk, rfl, hown, hb⟩ := hrel
    by_cases hlt : k < n
    · have hkl : k < l.length := by have := Hn.out; omega
      have hks : k < (Fl.strips 0 l).length := by rw [strips_length]; exact hkl
      obtain ⟨q0, q1, q2⟩ := flat3_at hks
      have z0 := (hb.cell (p := ⟨g, k * 3, none⟩) hgl).trans (Hc.out _ _ q0)
      have z1 := (hb.cell (p := ⟨g, k * 3 + 1, none⟩) hgl).trans (Hc.out _ _ q1)
      have z2 := (hb.cell (p := ⟨g, k * 3 + 2, none⟩) hgl).trans (Hc.out _ _ q2)
      rw [strips_at hkl, Int.zero_add] at z0 z1 z2
      have hst := Lib.hid (pieces_take (a := a) (b := b) hkl)
      have b1 := len_take_bound hok h6 k
      have b2 := ok_at hok hkl
      clear q0 q1 q2
      have i1 : (k : Int) < (n : Int) := by omega
      obtain ⟨A, hA⟩ : ∃ x, x = Fl.len (l.take k) := ⟨_, rfl⟩
      obtain ⟨x, hx⟩ : ∃ x, x = (l.getD k (0, 0)).1 := ⟨_, rfl⟩
      obtain ⟨y, hy⟩ : ∃ y, y = (l.getD k (0, 0)).2 := ⟨_, rfl⟩
      rw [← hA] at z0 z1 hst b1
      rw [← hx] at z1 hst b2
      rw [← hy] at z2 hst b2
      simp only at z0 z1 z2
      clear hx hy hA
      have hs := hb.size
      have hga : g < wr.heap.size := by omega
      have Ra := heap_keep (W := w2) (W' := wr) hb ra
      have Rb := heap_keep (W := w2) (W' := wr) hb rb
      have la := heap_lt Ra
      have lb := heap_lt Rb
      obtain ⟨⟨c0, c1⟩, -, -⟩ := row_fr Ra
      obtain ⟨⟨d0, d1⟩, -, -⟩ := row_fr Rb
      clear Ra Rb
      go_wp2_with fail
      refine (strip_any A (A + x) y a b _ hab (by omega) (by omega) (by omega) (by omega) (by omega)).mono ?_
      rintro e w4 ⟨rfl, hb4⟩
      obtain ⟨P, hP⟩ : ∃ p, p = Fl.piece (A, A + x, y) a b := ⟨_, rfl⟩
      rw [← hP] at hst ⊢
      clear hP
      have hown4 : Hid (w4.ownsRow w2.heap.size 89 2 u7 k (flat2 ((((Fl.strips 0 l).map fun x => Fl.piece x a b).take k).map pr))) := Lib.hid (own_below (hown.out.alloc _) hb4)
      have hbb := hb.alloc hs (.cells #[.int .i64 A, .int .i64 (A + x), .int .i64 y] 149)
      have hB4 := hbb.trans (hb4.mono hbb.size)
      have hs4 := hB4.size
      clear hbb hb4 hown z0 z1 z2 c0 c1 d0 d1 la lb
      go_wp2_with (first | (at_builtin; refine wpList_append_own _ rfl _ _ 104 rfl w2.heap.size 89 i0 (.agg #[.int .i64 0, .int .i64 0]) 2 16 Try.underlying104 hi0 hz0 hz1 hz2 rfl (by decide) _ k _ rfl (hown4.out.alloc _) ⟨w4.heap.size, 0, none⟩ 1 1 [.int .i64 P.num, .int .i64 P.den] rfl rfl (World.news_of_block (cs := #[.int .i64 P.num, .int .i64 P.den]) (t := 89) (fr := (0, 0)) (heap_alloc_new w4 _)) (by simp [Value.oneCell']) (by unfold maxLen; omega) (by omega) (by simp; omega) ?_; intro v' w3 hown3 hgrow3 hnil3; have hb5 : Below w2.heap.size w2 w3 := (hB4.alloc hs4 _).grown hgrow3 (by simp; omega) (fun q hq => (hown4.out.lt _ hq).1); clear hgrow3 hnil3))
      go_roundw
      case rel =>
        refine ⟨k + 1, by omega, by go_num, Lib.hid ?_, hb5⟩
        rw [hst.out, List.map_append, flat2_app]
        exact hown3
      case measure => simp [intOf]; omega
    · have hk2 : k = n := by omega
      have Hk := Lib.hid hk2
      clear hk2
      have hL : ((Fl.strips 0 l).map fun x => Fl.piece x a b).length = n := by rw [List.length_map, strips_length, Hn.out]
      have ho := hown.out
      rw [Hk.out, ← hL, List.take_length] at ho
      obtain ⟨ao2, cap3, hv, hnc, hpts⟩ := own_pts2 ho (by simp)
      have HL := Lib.hid hL
      rw [hL] at hv hnc
      clear hL ho hown hk
      subst hv
      have Rr := heap_keep (W := w2) (W' := wr) hb rr
      have hBw := hB2.trans (hb.mono (by omega))
      go_wp2_with fail
      refine (together_any _ ao2 n cap3 _ hpts HL.out.symm (by omega) Hadds.out).mono ?_
      rintro e w6 ⟨rfl, hb6⟩
      have Rr6 := heap_keep hb6 Rr
      have hB6 := hBw.trans (hb6.mono hBw.size)
      clear hb6
      obtain ⟨⟨d0, d1⟩, f0, f1⟩ := row_fr Rr6
      obtain ⟨S, hS⟩ : ∃ p, p = Fl.worth l a b := ⟨_, rfl⟩
      have hS' : Fl.sumR ((Fl.strips 0 l).map fun x => Fl.piece x a b) = S := hS.symm
      rw [hS']
      have HS := Lib.hid hS
      clear hS hS'
      go_wp2
      rw [← HS.out]
      exact bodyPost_ret (results_cell_row rfl _ _ _ _ _ _ _ rfl (two_cells Rr6 (.int .i64 S.num) (.int .i64 S.den)) Try.underlying89 rfl infoFr2) rfl ⟨rfl, below_setCell (below_setCell hB6 (by omega) _) (by omega) _⟩
end Go.Proofs.Ytemlfklipkpacaa

namespace Go.Proofs.Ytemlfklipkpacaa
open Go.RowKit

/-- A slice of whole numbers. -/
structure Ints (w : World) (ao : Option Addr) (l : List Int) : Prop where
  cells : 0 < l.length → ∃ b off, ao = some ⟨b, off, none⟩ ∧ b < w.heap.size ∧ ∀ i, i < l.length → w.cell? ⟨b, off + i, none⟩ = some (.int .i64 (l.getD i 0))
theorem Ints.below {w w' : World} {ao : Option Addr} {l : List Int} (h : Ints w ao l) (hb : Below w.heap.size w w') : Ints w' ao l := by
  refine ⟨fun h0 => ?_⟩
  obtain ⟨b, off, rfl, hlt, hc⟩ := h.cells h0
  exact ⟨b, off, rfl, by have := hb.size; omega, fun i hi => keep_cell hb (hc i hi)⟩
theorem Ints.at {w : World} {ao : Option Addr} {l : List Int} (h : Ints w ao l) {k : Nat} (hk : k < l.length) :
    ∃ b off, ao = some ⟨b, off, none⟩ ∧ b < w.heap.size ∧ w.cell? ⟨b, off + k, none⟩ = some (.int .i64 (l.getD k 0)) := by
  obtain ⟨b, off, rfl, hlt, hc⟩ := h.cells (by omega)
  exact ⟨b, off, rfl, hlt, hc k hk⟩
theorem own_ints {w : World} {base n : Nat} {e : TypeId} {v : Value} {L : List Int} (h : w.ownsRow base e 1 v n (L.map (Value.int .i64))) (hn : n = L.length) :
    ∃ ao cap, v = .slice ao n cap ∧ n ≤ cap ∧ Ints w ao L := by
  by_cases h0 : 0 < n
  · obtain ⟨g, cap, rfl, hb, hlt, hnc, hc⟩ := own_cells h h0
    refine ⟨_, cap, rfl, hnc, ⟨fun _ => ⟨g, 0, rfl, hlt, fun i hi => ?_⟩⟩⟩
    rw [Nat.zero_add, List.getD_eq_getElem?_getD, List.getElem?_eq_getElem hi]
    exact hc _ _ (by rw [List.getElem?_map, List.getElem?_eq_getElem hi]; rfl)
  · have hn0 : n = 0 := by omega
    rcases h.2 with ⟨rfl, _⟩ | ⟨g, cap, cur, rfl, _, _, hnc, _⟩
    · exact ⟨none, 0, by rw [hn0], by omega, ⟨fun hl => by omega⟩⟩
    · exact ⟨_, cap, rfl, hnc, ⟨fun hl => by omega⟩⟩

theorem infoInAll : (Try.prog.info? 3).map (fun i => (i.zero, i.size, i.bytes)) = some (some (.int .i64 0), 1, 8) := by kernel_rfl
theorem info_in : ∃ i, Try.prog.info? 3 = some i ∧ i.zero = some (.int .i64 0) ∧ i.size = 1 ∧ i.bytes = 8 := by
  have h := infoInAll
  cases hi : Try.prog.info? 3 with
  | none => rw [hi] at h; cases h
  | some i =>
    rw [hi] at h
    simp only [Option.map_some, Option.some.injEq, Prod.mk.injEq] at h
    exact ⟨i, rfl, h.1, h.2.1, h.2.2⟩

theorem units_take {l : List (Int × Int)} {k : Nat} (hk : k < l.length) : Fl.units (l.take (k + 1)) = Fl.units (l.take k) ++ List.replicate (l.getD k (0, 0)).1.toNat (l.getD k (0, 0)).2 := by
  induction l generalizing k with
  | nil => simp at hk
  | cons z r ih =>
    cases k with
    | zero => simp [Fl.units]
    | succ k =>
      have := ih (k := k) (by simpa using hk)
      simp only [List.take_succ_cons, Fl.units]
      rw [this]
      simp [List.append_assoc]
theorem rep_snoc (j : Nat) (y : Int) (U : List Int) : ((U ++ List.replicate (j + 1) y).map (Value.int .i64)) = ((U ++ List.replicate j y).map (Value.int .i64)) ++ [.int .i64 y] := by
  rw [List.replicate_succ']; simp
theorem rep_len (j : Nat) (y : Int) (U : List Int) : (U ++ List.replicate j y).length = U.length + j := by simp
theorem units_take_len {l : List (Int × Int)} (hok : Fl.Ok l) (h6 : l.length ≤ 6) (k : Nat) : (Fl.units (l.take k)).length ≤ 120 := by
  have h := Fl.units_length (ok_take hok k)
  have := len_take_bound hok h6 k
  omega

set_option maxRecDepth 100000 in
set_option maxHeartbeats 2000000 in
theorem units_any (l : List (Int × Int)) (ao : Option Addr) (n cap : Nat) (w : World) (hp : Pts w ao l) (hln : n = l.length) (hok : Fl.Ok l) (h6 : l.length ≤ 6) :
    Calls Try.prog 66 #[.slice ao n cap] w fun e w' => ∃ ao2 cap2, e = .returned (.slice ao2 (Fl.units l).length cap2) ∧ Ints w' ao2 (Fl.units l) ∧ Below w.heap.size w w' := by
  have Hn := Lib.hid hln
  have hn6 : n ≤ 6 := by omega
  obtain ⟨i0, hi0, hz0, hz1, hz2⟩ := info_in
  clear hln
  go_enter Try.func66, Try.ntmps66
  go_wp2
  go_loopw [3, 4] (fun v i wr => ∃ k : Nat, k ≤ n ∧ i = .int .i64 k ∧ Hid (wr.ownsRow w.heap.size 3 1 v (Fl.units (l.take k)).length ((Fl.units (l.take k)).map (Value.int .i64))) ∧ Below w.heap.size w wr) (fun _ i _ => n - (intOf i).toNat)
  case atStart => exact ⟨0, Nat.zero_le _, rfl, Lib.hid ⟨rfl, .inl ⟨rfl, rfl⟩⟩, Below.refl _ _⟩
  case round =>
    obtain ⟨k, hk, rfl, hown, hb⟩ := hrel
    by_cases hlt : k < n
    · obtain ⟨b, off, rfl, hbs, hc⟩ := hp.cells (by have := Hn.out; omega)
      have hkl : k < l.length := by have := Hn.out; omega
      obtain ⟨hc1, hc2⟩ := hc k hkl
      have hut := Lib.hid (units_take hkl)
      have hul := units_take_len hok h6 k
      have b2 := ok_at hok hkl
      clear hc hp
      have i1 : (k : Int) < (n : Int) := by omega
      obtain ⟨U, hU⟩ : ∃ x, x = Fl.units (l.take k) := ⟨_, rfl⟩
      obtain ⟨x, hx⟩ : ∃ x : Nat, x = (l.getD k (0, 0)).1.toNat := ⟨_, rfl⟩
      obtain ⟨y, hy⟩ : ∃ y, y = (l.getD k (0, 0)).2 := ⟨_, rfl⟩
      have hx1 : (l.getD k (0, 0)).1 = (x : Int) := by omega
      rw [hx1] at hc1 b2
      rw [← hx, ← hy] at hut
      rw [← hy] at hc2 b2
      rw [← hU] at hown hut hul
      clear hx hy hU hx1
      have hx20 : x ≤ 20 := by omega
      obtain ⟨wo, rfl⟩ : ∃ wo : World, wo = wr := ⟨_, rfl⟩
      go_wp2
      go_loopw [3, 5] (fun v j wr => ∃ m : Nat, m ≤ x ∧ j = .int .i64 m ∧ Hid (wr.ownsRow w.heap.size 3 1 v (U.length + m) ((U ++ List.replicate m y).map (Value.int .i64))) ∧ Below w.heap.size w wr) (fun _ j _ => x - (intOf j).toNat)
      case atStart => exact ⟨0, Nat.zero_le _, rfl, Lib.hid (by simpa using hown.out), hb⟩
      case round =>
        obtain ⟨m, hm, rfl, hown2, hb2⟩ := hrel
        have hd1 : wr.cell? ⟨b, off + k * 2, none⟩ = some (.int .i64 x) := (hb2.cell (p := ⟨b, _, none⟩) hbs).trans hc1
        have hd2 : wr.cell? ⟨b, off + k * 2 + 1, none⟩ = some (.int .i64 y) := (hb2.cell (p := ⟨b, _, none⟩) hbs).trans hc2
        have hs := hb2.size
        clear hown
        by_cases hmx : m < x
        · have i2 : (m : Int) < (x : Int) := by omega
          clear hc1 hc2
          go_wp2_with (first | (at_builtin; refine wpList_append_own _ rfl _ _ 39 rfl w.heap.size 3 i0 (.int .i64 0) 1 8 Try.underlying39 hi0 hz0 hz1 hz2 rfl (by decide) _ (U.length + m) _ rfl (hown2.out.alloc _) ⟨wr.heap.size, 0, none⟩ 1 1 [.int .i64 y] rfl rfl (World.news_of_block (cs := #[.int .i64 y]) (t := 3) (fr := (0, 0)) (heap_alloc_new wr _)) (by simp [Value.oneCell']) (by unfold maxLen; omega) (by omega) (by simp; omega) ?_; intro v' w3 hown3 hgrow3 hnil3; have hb5 : Below w.heap.size w w3 := (hb2.alloc hs _).grown hgrow3 (by simp; omega) (fun q hq => (hown2.out.lt _ hq).1); clear hgrow3 hnil3))
          go_roundw
          case rel => exact ⟨m + 1, by omega, by go_num, Lib.hid (by rw [rep_snoc]; exact hown3), hb5⟩
          case measure => simp [intOf]; omega
        · have hm2 : m = x := by omega
          have Hm := Lib.hid hm2
          clear hm2 hc1 hc2
          go_wp2
          go_roundw
          case rel =>
            refine ⟨k + 1, by omega, by go_num, Lib.hid ?_, hb2⟩
            rw [hut.out, rep_len, ← Hm.out]
            exact hown2.out
          case measure => simp [intOf]; omega
    · have hk2 : k = n := by omega
      have Hk := Lib.hid hk2
      clear hk2
      have ho := hown.out
      rw [Hk.out, Hn.out, List.take_length] at ho
      obtain ⟨ao2, cap2, rfl, hcap, hI⟩ := own_ints ho rfl
      have HI := Lib.hid hI
      clear ho hI hown
      go_wp2
      go_ret
      exact ⟨ao2, cap2, rfl, HI.out, hb⟩
end Go.Proofs.Ytemlfklipkpacaa
