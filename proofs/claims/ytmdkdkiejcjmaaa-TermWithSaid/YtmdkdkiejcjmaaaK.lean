import Derived.Test.YtmdkdkiejcjmaaaRows
import Derived.BigQuiet
import Derived.BigRegion
import Derived.ChangeSlices
import Derived.Deep.AppendLies
import Derived.Deep.Cut
import Derived.Deep.CutRange
import Derived.Deep.Fields
import Derived.Deep.QuietTactic
import Derived.Deep.RegionHeld3
import Derived.Deep.RegionWith
import Derived.Deep.Slices
import Derived.Laws.AppendOwn
import Derived.Laws.CopyOwn
import Derived.Laws.MakeOwn
import Derived.Lib.AppendZeros
import Derived.Lib.Hide
import Derived.Lib.SliceRun
import Derived.Lib.SmallJoins
import Derived.Orders
import Derived.ProofKit
import Derived.StillTailTactics
import Derived.WalkKit
import Derived.WalkLawsBesides
import Derived.WalkSpells
namespace Go.Proofs.Ytmdkdkiejcjmaaa
open Go.RowKit Go.Joins Go.Deep Go.ChangeShapes Go.WideShapes Go.ChangeAt
namespace Fl
theorem num_le {x : Rat} {n : Nat} (h : x ≤ (n : Rat)) : x.num ≤ n * x.den := by
  have := (Rat.le_iff x (n : Rat)).mp h
  simpa using this
theorem num_nonneg {x : Rat} (h : 0 ≤ x) : 0 ≤ x.num := Rat.num_nonneg.mpr h
theorem den_sub_le (x y : Rat) : (x - y).den ≤ x.den * y.den := by
  rw [Rat.sub_def', Rat.den_mkRat]
  split
  · exact Nat.mul_pos x.den_pos y.den_pos
  · exact Nat.div_le_self _ _
theorem den_add_le (x y : Rat) : (x + y).den ≤ x.den * y.den := by
  rw [Rat.add_def', Rat.den_mkRat]
  split
  · exact Nat.mul_pos x.den_pos y.den_pos
  · exact Nat.div_le_self _ _
end Fl
theorem ret_int {k : IntKind} {a b : Int} (h : a = b) : Ending.returned (.int k a) = .returned (.int k b) := by rw [h]
theorem ret_bool {a b : Bool} (h : a = b) : Ending.returned (.bool a) = .returned (.bool b) := by rw [h]
theorem bcell {W w1 : World} (hb : Below W.heap.size W w1) : (∀ b o, b < W.heap.size → w1.cell? ⟨b, o, none⟩ = W.cell? ⟨b, o, none⟩) ∧ (∀ b o, b < W.heap.size → w1.frozen? ⟨b, o, none⟩ = W.frozen? ⟨b, o, none⟩) :=
  ⟨fun b o h => hb.cell (p := ⟨b, o, none⟩) h, fun b o h => hb.frozen (p := ⟨b, o, none⟩) h⟩
/-- A fraction as the program holds it. -/
abbrev Fr (q : Rat) : Value := .agg #[.int .i64 q.num, .int .i64 q.den]
theorem fr_eq {n d : Int} {q : Rat} (h1 : n = q.num) (h2 : d = q.den) : (.agg #[.int .i64 n, .int .i64 d] : Value) = Fr q := by rw [h1, h2]
/-- A store of a whole row: what is known of the world behind it. -/
theorem wpList_store_row_b {P : Program} {ops : Array Oper} {rest : List Oper} {o : Oper} {a : Act} {w : World} {Q : Exit → Act → World → Prop} (hgd : o.guard = none) (ty : TypeId) (x y : Operand) (ho : o.op = .store ty x y)
    (g : Nat) (cells : Array Value) (hx : a.eval x = .pointer (some ⟨g, 0, none⟩)) (hy : a.eval y = .agg cells)
    (t : TypeId) (old : Array Value) (hg : w.heap[g]? = some (.cells old t (0, 0))) (hi : (P.info? ty).map (·.size) = some cells.size)
    (hold : old.size = cells.size) (h1 : cells.all (·.oneCell') = true)
    (h : ∀ w', w'.heap[g]? = some (.cells cells t (0, 0)) → Below g w w' → w'.heap.size = w.heap.size → wpList P ops Q rest (a.put o.dst undef) w') : wpList P ops Q (o :: rest) a w :=
  wpList_store_row hgd ty x y ho g cells hx hy t old hg hi hold h1 (h _ (setRow_heap w g _ _ t _ hg) (below_setRow (Below.refl _ _) (Nat.le_refl _) _) (by simp [World.setRow]))
theorem infoRat2 : (Try.prog.info? 64).map (·.size) = some 2 := by kernel_rfl
theorem fr_one (q : Rat) : (#[.int .i64 q.num, .int .i64 q.den] : Array Value).all (·.oneCell') = true := by simp [Value.oneCell']
theorem two_cells {w : World} {g : Nat} {a b : Value} {t : TypeId} (hh : w.heap[g]? = some (.cells #[a, b] t (0, 0))) (u v : Value) :
    ((w.setCell ⟨g, 0, none⟩ u).setCell ⟨g, 1, none⟩ v).heap[g]? = some (.cells #[u, v] t (0, 0)) := by
  have := heap_setCell_same _ g 1 _ t v (heap_setCell_same w g 0 _ t u hh)
  simpa using this
theorem below_setCell {B g o : Nat} {w0 w : World} (hb : Below B w0 w) (hg : B ≤ g) (v : Value) : Below B w0 (w.setCell ⟨g, o, none⟩ v) :=
  ⟨hb.os, hb.tape, hb.output, by rw [show (w.setCell ⟨g, o, none⟩ v).heap.size = w.heap.size by simp [World.setCell]]; exact hb.size,
   fun k hk => (heap_setCell_other w ⟨g, o, none⟩ k v (by show k ≠ g; omega)).trans (hb.block k hk)⟩
theorem cell_two_other {w : World} {g h o : Nat} {x : Value} (u v : Value) (hne : h ≠ g) (hx : w.cell? ⟨h, o, none⟩ = some x) : ((w.setCell ⟨g, 0, none⟩ u).setCell ⟨g, 1, none⟩ v).cell? ⟨h, o, none⟩ = some x := by
  rw [← hx]
  unfold World.cell?
  rw [heap_setCell_other _ _ _ _ (by show h ≠ g; exact hne), heap_setCell_other _ _ _ _ (by show h ≠ g; exact hne)]
theorem ret_fr {n d : Int} {q : Rat} (h1 : n = q.num) (h2 : d = q.den) : Ending.returned (.agg #[.int .i64 n, .int .i64 d]) = .returned (Fr q) := by rw [fr_eq h1 h2]
theorem heap_alloc3 (w : World) (A B C : Obj) : (((w.alloc A).alloc B).alloc C).heap[w.heap.size + 1 + 1]? = some C := by
  have h := heap_alloc_new ((w.alloc A).alloc B) C
  simpa only [World.size_alloc] using h
theorem below_alloc3 (w : World) (A B C : Obj) : Below w.heap.size w (((w.alloc A).alloc B).alloc C) :=
  (((Below.refl _ w).alloc (Nat.le_refl _) _).alloc (by simp) _).alloc (by simp; omega) _
theorem below_alloc2 (w : World) (A B : Obj) : Below w.heap.size w ((w.alloc A).alloc B) :=
  ((Below.refl _ w).alloc (Nat.le_refl _) _).alloc (by simp) _
/-- A box of a fraction. -/
theorem row_fr {w' : World} {g : Nat} {a b : Value} {t : TypeId} (hh : w'.heap[g]? = some (.cells #[a, b] t (0, 0))) :
    (w'.cell? ⟨g, 0, none⟩ = some a ∧ w'.cell? ⟨g, 1, none⟩ = some b) ∧ (w'.frozen? ⟨g, 0, none⟩ = false ∧ w'.frozen? ⟨g, 1, none⟩ = false) :=
  ⟨⟨cell_of_row w' g 0 _ _ _ hh, cell_of_row w' g 1 _ _ _ hh⟩, ⟨frozen_of_row w' g 0 _ _ hh, frozen_of_row w' g 1 _ _ hh⟩⟩
theorem heap_keep {g : Nat} {W W' : World} {o : Obj} (hb : Below W.heap.size W W') (h : W.heap[g]? = some o) : W'.heap[g]? = some o :=
  (hb.block g (by have := (Array.getElem?_eq_some_iff.1 h).1; exact this)).trans h
theorem keep_cell {g o : Nat} {W W' : World} {v : Value} (hb : Below W.heap.size W W') (h : W.cell? ⟨g, o, none⟩ = some v) : W'.cell? ⟨g, o, none⟩ = some v :=
  (hb.cell (p := ⟨g, o, none⟩) (block_lt_of_cell h)).trans h
theorem heap_lt {g : Nat} {W : World} {o : Obj} (h : W.heap[g]? = some o) : g < W.heap.size := (Array.getElem?_eq_some_iff.1 h).1
theorem heap_row_other {g k : Nat} {W : World} {o : Obj} (cs : Array Value) (hk : k ≠ g) (h : W.heap[k]? = some o) : (W.setRow g cs).heap[k]? = some o := by
  rw [← h]
  simp only [World.setRow, Array.getElem?_modify]
  rw [if_neg (fun e => hk e.symm)]
/-- What a block above the ones that were there holds goes on being held. -/
theorem heap_at {n k : Nat} {w w' : World} {o : Option Obj} (h : Below n w w') (hk : k < n) (e : w.heap[k]? = o) : w'.heap[k]? = o := (h.block k hk).trans e
theorem gcd_step (a b : Nat) : Nat.gcd b (a % b) = Nat.gcd a b := by
  rw [Nat.gcd_comm a b, Nat.gcd_rec b a, Nat.gcd_comm]
theorem low_eq (n d : Nat) (hd : 0 < d) : ((n : Int) / ((Nat.gcd n d : Nat) : Int)) = (mkRat n d).num ∧ ((d : Int) / ((Nat.gcd n d : Nat) : Int)) = ((mkRat n d).den : Int) := by
  rw [Rat.num_mkRat, Rat.den_mkRat, if_neg (by omega), if_neg (by omega), Int.natAbs_natCast, Nat.gcd_comm d n]
  exact ⟨rfl, by simp⟩
/-- A fraction by two numbers, not in lowest terms. -/
theorem ratio_eq (n : Int) (d : Nat) (hd : 0 < d) : (n.tdiv ((Nat.gcd n.natAbs d : Nat) : Int)) = (mkRat n d).num ∧ ((d : Int) / ((Nat.gcd n.natAbs d : Nat) : Int)) = ((mkRat n d).den : Int) := by
  rw [Rat.num_mkRat, Rat.den_mkRat, if_neg (by omega), if_neg (by omega), Nat.gcd_comm]
  refine ⟨?_, by simp⟩
  have h := Nat.gcd_dvd_right d n.natAbs
  exact Int.tdiv_eq_ediv_of_dvd (Int.ofNat_dvd_left.2 (by simpa using h))
namespace Fl
def sumI (l : List Int) : Int := l.foldl (· + ·) 0
theorem foldl_addI (l : List Int) (a : Int) : l.foldl (· + ·) a = a + l.foldl (· + ·) 0 := by
  induction l generalizing a with
  | nil => simp
  | cons x r ih => simp only [List.foldl_cons]; rw [ih (a + x), ih (0 + x)]; omega
theorem sumI_cons (x : Int) (l : List Int) : sumI (x :: l) = x + sumI l := by
  unfold sumI; rw [List.foldl_cons, foldl_addI]; omega
theorem sumI_app (l m : List Int) : sumI (l ++ m) = sumI l + sumI m := by
  unfold sumI; rw [List.foldl_append, foldl_addI]
theorem sumI_rep (n : Nat) (v : Int) : sumI (List.replicate n v) = n * v := by
  induction n with
  | zero => simp [sumI]
  | succ n ih => rw [List.replicate_succ, sumI_cons, ih]; push_cast; rw [Int.add_mul]; omega
theorem sumI_take {l : List Int} {k : Nat} (hk : k < l.length) : sumI (l.take (k + 1)) = sumI (l.take k) + l.getD k 0 := by
  rw [List.take_succ_eq_append_getElem hk, sumI_app, List.getD_eq_getElem?_getD, List.getElem?_eq_getElem hk]
  simp [sumI]
end Fl
/-- A region that draws its order, by an invariant: what has been carried out so far, the frame, the world. -/
theorem wpAny_inv {P : Program} {ops : Array Oper} {Q : Exit → Act → World → Prop} {md : Region.Mode} (Inv : Array Bool → Act → World → Prop)
    (hstep : ∀ listed a w, Inv listed a w → ∀ i ∈ Region.ready md ops listed, wpOp P ops Q i (Inv (listed.setIfInBounds i true)) a w)
    (hend : ∀ listed a w, Inv listed a w → Region.ready md ops listed = [] → Q .normal a w) :
    ∀ (fuel : Nat) (listed : Array Bool) (a : Act) (w : World), listed.toList.count false ≤ fuel → Inv listed a w → wpAny P md ops Q fuel listed a w := by
  intro fuel
  induction fuel with
  | zero =>
    intro listed a w hf hI
    have hr : Region.ready md ops listed = [] := by
      unfold Region.ready
      rw [List.filter_eq_nil_iff]
      intro i _ h
      rw [Bool.and_eq_true] at h
      have h1 := h.1
      rw [Bool.not_eq_true'] at h1
      have hc : false ∈ listed.toList := by
        rw [Array.getD_eq_getD_getElem?] at h1
        cases hg : listed[i]? with
        | none => rw [hg] at h1; cases h1
        | some b => rw [hg] at h1; simp only [Option.getD_some] at h1; subst h1; exact Array.mem_toList_iff.2 (Array.mem_of_getElem? hg)
      have := List.count_pos_iff.2 hc
      omega
    exact ⟨hr, hend _ _ _ hI hr⟩
  | succ fuel ih =>
    intro listed a w hf hI
    refine ⟨fun hr => hend _ _ _ hI hr, fun i hi => wpOp_mono (fun a' w' hI' => ih _ a' w' ?_ hI') (hstep _ _ _ hI i hi)⟩
    unfold Region.ready at hi
    have h := (List.mem_filter.1 hi).2
    rw [Bool.and_eq_true] at h
    have h1 := h.1
    rw [Bool.not_eq_true', Array.getD_eq_getD_getElem?] at h1
    cases hg : listed[i]? with
    | none => rw [hg] at h1; cases h1
    | some b =>
      rw [hg] at h1
      simp only [Option.getD_some] at h1
      subst h1
      obtain ⟨hlt, hv⟩ := Array.getElem?_eq_some_iff.1 hg
      have hlt' : i < listed.toList.length := by simpa using hlt
      have hcs : (listed.setIfInBounds i true).toList.count false = listed.toList.count false - 1 := by
        rw [Array.toList_setIfInBounds, List.count_set hlt']
        simp [hv]
      omega
theorem wp_region_inv {P : Program} {id : Nat} {ops : Array Oper} {Q : Exit → Act → World → Prop} {a : Act} {w : World} (hm : P.follows .mixedOrders = true) (Inv : Array Bool → Act → World → Prop)
    (h0 : Inv (Array.replicate ops.size false) a { w with drawn := w.drawn + 1 })
    (hstep : ∀ listed a w, Inv listed a w → ∀ i ∈ Region.ready .any ops listed, wpOp P ops Q i (Inv (listed.setIfInBounds i true)) a w)
    (hend : ∀ listed a w, Inv listed a w → Region.ready .any ops listed = [] → Q .normal a w) : (Code.region id ops true).wp P Q a w :=
  wp_region_any hm (wpAny_inv Inv hstep hend _ _ _ _ (by simp) h0)
theorem wpOp_at {P : Program} {ops : Array Oper} {Q : Exit → Act → World → Prop} {i : Nat} {o : Oper} {K : Act → World → Prop} {a : Act} {w : World} (ho : ops[i]? = some o) (hg : o.guard = none) (h : o.wp P a w K Q) : wpOp P ops Q i K a w := by
  unfold wpOp
  rw [ho]
  simp only []
  rw [if_pos (by simp [Region.wanted, hg])]
  exact .inl h
/-- A slice of pairs of numbers (zones, fractions): where it begins, and what its cells hold. -/
structure Pts (w : World) (ao : Option Addr) (l : List (Int × Int)) : Prop where
  cells : 0 < l.length → ∃ b off, ao = some ⟨b, off, none⟩ ∧ b < w.heap.size ∧ ∀ i, i < l.length → w.cell? ⟨b, off + i * 2, none⟩ = some (.int .i64 (l.getD i (0, 0)).1) ∧ w.cell? ⟨b, off + i * 2 + 1, none⟩ = some (.int .i64 (l.getD i (0, 0)).2)
theorem Pts.below {w w' : World} {ao : Option Addr} {l : List (Int × Int)} (h : Pts w ao l) (hb : Below w.heap.size w w') : Pts w' ao l := by
  refine ⟨fun h0 => ?_⟩
  obtain ⟨b, off, rfl, hlt, hc⟩ := h.cells h0
  have hs := hb.size
  exact ⟨b, off, rfl, by omega, fun i hi => ⟨(hb.cell (p := ⟨b, _, none⟩) hlt).trans (hc i hi).1, (hb.cell (p := ⟨b, _, none⟩) hlt).trans (hc i hi).2⟩⟩
def pr (q : Rat) : Int × Int := (q.num, (q.den : Int))
/-- A slice of fractions. -/
def Frs (w : World) (ao : Option Addr) (l : List Rat) : Prop := Pts w ao (l.map pr)
theorem Frs.below {w w' : World} {ao : Option Addr} {l : List Rat} (h : Frs w ao l) (hb : Below w.heap.size w w') : Frs w' ao l := Pts.below h hb
theorem Frs.at {w : World} {ao : Option Addr} {l : List Rat} (h : Frs w ao l) {k : Nat} (hk : k < l.length) :
    ∃ b off, ao = some ⟨b, off, none⟩ ∧ b < w.heap.size ∧ w.cell? ⟨b, off + k * 2, none⟩ = some (.int .i64 (l[k]).num) ∧ w.cell? ⟨b, off + k * 2 + 1, none⟩ = some (.int .i64 (l[k]).den) := by
  obtain ⟨b, off, rfl, hlt, hc⟩ := Pts.cells h (by simp; omega)
  have := hc k (by simpa using hk)
  have e : (l.map pr).getD k (0, 0) = pr l[k] := by simp [List.getD_eq_getElem?_getD, hk]
  rw [e] at this
  exact ⟨b, off, rfl, hlt, this.1, this.2⟩
theorem own_cells {w : World} {base n size : Nat} {e : TypeId} {v : Value} {xs : List Value} (h : w.ownsRow base e size v n xs) (hn : 0 < n) :
    ∃ g cap, v = .slice (some ⟨g, 0, none⟩) n cap ∧ base ≤ g ∧ g < w.heap.size ∧ n ≤ cap ∧ ∀ j u, xs[j]? = some u → w.cell? ⟨g, j, none⟩ = some u := by
  rcases h.2 with ⟨_, h0⟩ | ⟨g, cap, cur, rfl, hb, hg, hnc, hcm, hcs, htk⟩
  · omega
  · refine ⟨g, cap, rfl, hb, heap_lt hg, hnc, fun j u hu => ?_⟩
    rw [cell_of_row w g j _ _ _ hg]
    have hj : j < xs.length := (List.getElem?_eq_some_iff.1 hu).1
    have hl := h.1
    rw [← htk] at hu
    rw [List.getElem?_take, if_pos (by omega)] at hu
    simpa using hu
theorem own_below {w w' : World} {base n size : Nat} {e : TypeId} {v : Value} {xs : List Value} (h : w.ownsRow base e size v n xs) (hb : Below w.heap.size w w') : w'.ownsRow base e size v n xs := by
  refine ⟨h.1, ?_⟩
  rcases h.2 with h0 | ⟨g, cap, cur, rfl, hb0, hg, r⟩
  · exact .inl h0
  · exact .inr ⟨g, cap, cur, rfl, hb0, heap_keep hb hg, r⟩
def flat2 (l : List (Int × Int)) : List Value := l.flatMap fun x => [.int .i64 x.1, .int .i64 x.2]
theorem flat2_app (l m : List (Int × Int)) : flat2 (l ++ m) = flat2 l ++ flat2 m := by simp [flat2]
theorem flat2_at {L : List (Int × Int)} {k : Nat} (hk : k < L.length) :
    (flat2 L)[k * 2]? = some (.int .i64 L[k].1) ∧ (flat2 L)[k * 2 + 1]? = some (.int .i64 L[k].2) := by
  induction L generalizing k with
  | nil => simp at hk
  | cons x r ih =>
    cases k with
    | zero => simp [flat2]
    | succ k =>
      have := ih (k := k) (by simpa using hk)
      simp only [flat2, List.flatMap_cons] at this ⊢
      rw [show (k + 1) * 2 = (k * 2) + 2 by omega]
      simpa using this
theorem flat2_length (L : List (Int × Int)) : (flat2 L).length = L.length * 2 := by
  induction L with
  | nil => rfl
  | cons x r ih => simp only [flat2, List.flatMap_cons, List.length_append, List.length_cons, List.length_nil] at ih ⊢; omega
theorem own_pts2 {w : World} {base n : Nat} {e : TypeId} {v : Value} {L : List (Int × Int)} (h : w.ownsRow base e 2 v n (flat2 L)) (hn : n = L.length) :
    ∃ ao cap, v = .slice ao n cap ∧ n ≤ cap ∧ Pts w ao L := by
  by_cases h0 : 0 < n
  · obtain ⟨g, cap, rfl, hb, hlt, hnc, hc⟩ := own_cells h h0
    refine ⟨_, cap, rfl, hnc, ⟨fun _ => ⟨g, 0, rfl, hlt, fun i hi => ?_⟩⟩⟩
    have := flat2_at hi
    rw [Nat.zero_add]
    rw [List.getD_eq_getElem?_getD, List.getElem?_eq_getElem hi]
    exact ⟨hc _ _ this.1, hc _ _ this.2⟩
  · have hn0 : n = 0 := by omega
    rcases h.2 with ⟨rfl, _⟩ | ⟨g, cap, cur, rfl, _, _, hnc, _⟩
    · exact ⟨none, 0, by rw [hn0], by omega, ⟨fun hl => by omega⟩⟩
    · exact ⟨_, cap, rfl, hnc, ⟨fun hl => by omega⟩⟩
/-- A slice of whole numbers. -/
structure Ints (w : World) (ao : Option Addr) (l : List Int) : Prop where
  cells : 0 < l.length → ∃ b off, ao = some ⟨b, off, none⟩ ∧ b < w.heap.size ∧ ∀ i, i < l.length → w.cell? ⟨b, off + i, none⟩ = some (.int .i64 (l.getD i 0))
theorem Ints.below {w w' : World} {ao : Option Addr} {l : List Int} (h : Ints w ao l) (hb : Below w.heap.size w w') : Ints w' ao l := by
  refine ⟨fun h0 => ?_⟩
  obtain ⟨b, off, rfl, hlt, hc⟩ := h.cells h0
  exact ⟨b, off, rfl, by have := hb.size; omega, fun i hi => keep_cell hb (hc i hi)⟩
theorem Ints.at {w : World} {ao : Option Addr} {l : List Int} (h : Ints w ao l) {k : Nat} (hk : k < l.length) :
    ∃ b off, ao = some ⟨b, off, none⟩ ∧ b < w.heap.size ∧ w.cell? ⟨b, off + k, none⟩ = some (.int .i64 (l.getD k 0)) := by
  obtain ⟨b, off, rfl, hlt, hc⟩ := h.cells (by omega)
  exact ⟨b, off, rfl, hlt, hc k hk⟩
theorem own_ints {w : World} {base n : Nat} {e : TypeId} {v : Value} {L : List Int} (h : w.ownsRow base e 1 v n (L.map (Value.int .i64))) (hn : n = L.length) :
    ∃ ao cap, v = .slice ao n cap ∧ n ≤ cap ∧ Ints w ao L := by
  by_cases h0 : 0 < n
  · obtain ⟨g, cap, rfl, hb, hlt, hnc, hc⟩ := own_cells h h0
    refine ⟨_, cap, rfl, hnc, ⟨fun _ => ⟨g, 0, rfl, hlt, fun i hi => ?_⟩⟩⟩
    rw [Nat.zero_add, List.getD_eq_getElem?_getD, List.getElem?_eq_getElem hi]
    exact hc _ _ (by rw [List.getElem?_map, List.getElem?_eq_getElem hi]; rfl)
  · have hn0 : n = 0 := by omega
    rcases h.2 with ⟨rfl, _⟩ | ⟨g, cap, cur, rfl, _, _, hnc, _⟩
    · exact ⟨none, 0, by rw [hn0], by omega, ⟨fun hl => by omega⟩⟩
    · exact ⟨_, cap, rfl, hnc, ⟨fun hl => by omega⟩⟩
theorem infoInAll : (Try.prog.info? 3).map (fun i => (i.zero, i.size, i.bytes)) = some (some (.int .i64 0), 1, 8) := by kernel_rfl
theorem info_in : ∃ i, Try.prog.info? 3 = some i ∧ i.zero = some (.int .i64 0) ∧ i.size = 1 ∧ i.bytes = 8 := by
  have h := infoInAll
  cases hi : Try.prog.info? 3 with
  | none => rw [hi] at h; cases h
  | some i =>
    rw [hi] at h
    simp only [Option.map_some, Option.some.injEq, Prod.mk.injEq] at h
    exact ⟨i, rfl, h.1, h.2.1, h.2.2⟩
theorem results_cell_tmp {P : Program} {fn : Func} {p q : Tmp} {ty : TypeId} (h : fn.results = #[.cell p ty, .tmp q]) (tmps : Array Value) (w : World) (g : Nat) (t : TypeId) (cs : Array Value) (fr : Nat × Nat) (d : TypeDesc)
    (hp : tmps.getD p undef = .pointer (some ⟨g, 0, none⟩)) (hg : w.heap[g]? = some (.cells cs t fr))
    (hu : P.underlying ty = some d) (hd : (match d with | .struct _ | .array _ _ => true | _ => false) = true) (hi : (P.info? ty).map (·.size) = some cs.size) :
    (results fn tmps).run P w = .ok (.tuple #[.agg cs, tmps.getD q undef]) w := by
  have hp' : tmps[p]?.getD undef = .pointer (some ⟨g, 0, none⟩) := by simpa using hp
  simp [results, h, hp', asAddr, run_loadVar_row w g t ty cs fr d hg hu hd hi]
theorem code_ne {c : Int} (h : (c != 0) = true) : c ≠ 0 := by simpa using h
/-- A fraction, or the zero value where there is an error. -/
def frOr (c : Int) (q : Rat) : Value := if c = 0 then Fr q else .agg #[.int .i64 0, .int .i64 0]
theorem frOr_ok (q : Rat) : frOr 0 q = Fr q := rfl
theorem frOr_no {c : Int} (h : (c != 0) = true) (q : Rat) : frOr c q = .agg #[.int .i64 0, .int .i64 0] := if_neg (code_ne h)
theorem infoRtAll : (Try.prog.info? 64).map (fun i => (i.zero, i.size, i.bytes)) = some (some (.agg #[.int .i64 0, .int .i64 0]), 2, 16) := by kernel_rfl
theorem info_rt : ∃ i, Try.prog.info? 64 = some i ∧ i.zero = some (.agg #[.int .i64 0, .int .i64 0]) ∧ i.size = 2 ∧ i.bytes = 16 := by
  have h := infoRtAll
  cases hi : Try.prog.info? 64 with
  | none => rw [hi] at h; cases h
  | some i =>
    rw [hi] at h
    simp only [Option.map_some, Option.some.injEq, Prod.mk.injEq] at h
    exact ⟨i, rfl, h.1, h.2.1, h.2.2⟩
theorem own_mono {w : World} {base base' n size : Nat} {e : TypeId} {v : Value} {xs : List Value} (h : w.ownsRow base e size v n xs) (hb : base' ≤ base) : w.ownsRow base' e size v n xs := by
  refine ⟨h.1, ?_⟩
  rcases h.2 with h0 | ⟨g, cap, cur, rfl, hb0, r⟩
  · exact .inl h0
  · exact .inr ⟨g, cap, cur, rfl, by omega, r⟩
/-- What Go's copy does to a row, whatever the size of an element. -/
theorem run_copy_sized {P : Program} (w : World) (dT sT ty elem : TypeId) (g o dLen dCap : Nat) (a : Addr) (sLen sCap sz : Nat) (cur : Array Value) (t : TypeId) (cs : List Value)
    (hu : P.underlying dT = some (.slice elem)) (hs : (P.info? elem).map (·.size) = some sz)
    (hg : w.heap[g]? = some (.cells cur t (0, 0))) (hn : cs.length = Nat.min sLen dLen * sz)
    (hsrc : ∀ j v, cs[j]? = some v → w.cell? (a.add j) = some v) (hfit : o + cs.length ≤ cur.size) (h1 : ∀ v ∈ cs, v.oneCell' = true) :
    (Builtin.copy_ #[dT, sT] ty #[.slice (some ⟨g, o, none⟩) dLen dCap, .slice (some a) sLen sCap]).run P w =
      .ok (goInt (Nat.min sLen dLen)) (w.setRow g (cur.toList.take o ++ cs ++ cur.toList.drop (o + cs.length)).toArray) := by
  have hl := run_loadCells_list (P := P) w a cs hsrc
  have hst := run_storeCells_at P g o t cs 0 cur w hg (by simpa using hfit) h1
  cases hq : P.info? elem with
  | none => simp [hq] at hs
  | some i =>
    have hi : i.size = sz := by simpa [hq] using hs
    simp [Builtin.copy_, run_underlying hu, Builtin.lenOf, Builtin.firstCells, sizeOf, typeInfo, hq, hi, ← hn, hl, hst]
theorem wpList_copy_sized {P : Program} {w : World} {ops : Array Oper} {rest : List Oper} {o : Oper} {a : Act} {Q : Exit → Act → World → Prop} (hgd : o.guard = none) (d s : Operand) (dT sT : TypeId)
    (ho : o.op = .call { callee := .builtin .copy, args := #[d, s], argTypes := #[dT, sT] }) (elem : TypeId) (hu : P.underlying dT = some (.slice elem)) (sz : Nat) (hsz : (P.info? elem).map (·.size) = some sz)
    (g off dLen dCap : Nat) (ad : Addr) (sLen sCap : Nat) (hd : a.eval d = .slice (some ⟨g, off, none⟩) dLen dCap) (hs : a.eval s = .slice (some ad) sLen sCap)
    (cur : Array Value) (t : TypeId) (hg : w.heap[g]? = some (.cells cur t (0, 0))) (cs : List Value) (hn : cs.length = Nat.min sLen dLen * sz)
    (hsrc : ∀ j v, cs[j]? = some v → w.cell? (ad.add j) = some v) (hfit : off + cs.length ≤ cur.size) (h1 : ∀ v ∈ cs, v.oneCell' = true)
    (h : ∀ w', w'.heap[g]? = some (.cells (cur.toList.take off ++ cs ++ cur.toList.drop (off + cs.length)).toArray t (0, 0)) → Below g w w' → wpList P ops Q rest (a.put o.dst (goInt (Nat.min sLen dLen))) w') : wpList P ops Q (o :: rest) a w := by
  refine wpList_plain hgd fun K hK => ?_
  have hrun := run_copy_sized (P := P) w dT sT o.type elem g off dLen dCap ad sLen sCap sz cur t cs hu hsz hg hn hsrc hfit h1
  have h2 := hK _ _ (h _ (setRow_heap w g _ _ t _ hg) (below_setRow (Below.refl _ _) (Nat.le_refl _) _))
  unfold Oper.wp
  simp [execOp, ho, resolve, invoke, builtin, hd, hs, hrun, Result.andThen]
  rw [Oper.upon_value]
  simpa using h2
theorem wpList_make {P : Program} {w : World} {ops : Array Oper} {rest : List Oper} {o : Oper} {a : Act} {Q : Exit → Act → World → Prop} (hgd : o.guard = none) (t : TypeId) (x y : Operand) (ho : o.op = .makeSlice t x y)
    (v1 v2 : Value) (hx : a.eval x = v1) (hy : a.eval y = v2) (v : Value) (w' : World) (hrun : (Instr.makeSlice t v1 v2).run P w = .ok v w') (h : wpList P ops Q rest (a.put o.dst v) w') : wpList P ops Q (o :: rest) a w := by
  refine wpList_plain hgd fun K hK => ?_
  have h2 := hK _ _ h
  unfold Oper.wp
  simp [execOp, ho, hx, hy, hrun, Result.andThen]
  exact h2
theorem flat2_one (L : List (Int × Int)) : ∀ v ∈ flat2 L, v.oneCell' = true := by
  intro v hv
  simp only [flat2, List.mem_flatMap] at hv
  obtain ⟨x, _, hv⟩ := hv
  simp only [List.mem_cons, List.not_mem_nil, or_false] at hv
  rcases hv with rfl | rfl <;> rfl
theorem add_off (b off j : Nat) : (⟨b, off, none⟩ : Addr).add j = ⟨b, off + j, none⟩ := by unfold Addr.add; split <;> simp_all
/-- '!=' of two fractions. -/
theorem run_neq_rt (a1 a2 b1 b2 : Int) (w : World) : (binOp BinOp.neq 64 (.agg #[.int .i64 a1, .int .i64 a2]) (.agg #[.int .i64 b1, .int .i64 b2])).run Try.prog w = .ok (.bool (!(decide ((a1, a2) = (b1, b2))))) w := by
  by_cases e1 : a1 = b1
  · subst e1
    by_cases e2 : a2 = b2
    · simp [e2, go_sem]
    · simp [e2, go_sem]
  · simp [e1, go_sem]
theorem run_eq_rt (a1 a2 b1 b2 : Int) (w : World) : (binOp BinOp.eql 64 (.agg #[.int .i64 a1, .int .i64 a2]) (.agg #[.int .i64 b1, .int .i64 b2])).run Try.prog w = .ok (.bool (decide ((a1, a2) = (b1, b2)))) w := by
  by_cases e1 : a1 = b1
  · subst e1
    by_cases e2 : a2 = b2
    · simp [e2, go_sem]
    · simp [e2, go_sem]
  · simp [e1, go_sem]
theorem pts_at {w : World} {ao : Option Addr} {l : List (Int × Int)} (h : Pts w ao l) {k : Nat} (hk : k < l.length) :
    ∃ b off, ao = some ⟨b, off, none⟩ ∧ b < w.heap.size ∧ w.cell? ⟨b, off + k * 2, none⟩ = some (.int .i64 (l[k]).1) ∧ w.cell? ⟨b, off + k * 2 + 1, none⟩ = some (.int .i64 (l[k]).2) := by
  obtain ⟨b, off, rfl, hlt, hc⟩ := h.cells (by omega)
  have := hc k hk
  rw [List.getD_eq_getElem?_getD, List.getElem?_eq_getElem hk] at this
  exact ⟨b, off, rfl, hlt, this.1, this.2⟩
theorem list_ne {k1 k2 : List (Int × Int)} {k : Nat} (h1 : k < k1.length) (h2 : k < k2.length) (h : k1[k] ≠ k2[k]) : decide (k1 = k2) = false := by
  rw [decide_eq_false_iff_not]; rintro rfl; exact h rfl
theorem frOr_pair (c : Int) (q : Rat) : ∃ a b : Int, frOr c q = .agg #[.int .i64 a, .int .i64 b] := by
  unfold frOr; split
  · exact ⟨_, _, rfl⟩
  · exact ⟨_, _, rfl⟩
/-- Two cells in a row, read. -/
theorem cells_two {w : World} {a : Addr} {cs : List Value} (h : w.cells? 0 a 2 = some cs) : ∃ v0 v1, cs = [v0, v1] ∧ w.cell? (a.add 0) = some v0 ∧ w.cell? (a.add 1) = some v1 := by
  obtain ⟨_, hl, hat⟩ := World.cells?_some h
  match cs, hl with
  | [v0, v1], _ => exact ⟨v0, v1, rfl, by simpa using hat 0 (by simp), by simpa using hat 1 (by simp)⟩
theorem spot_none {w : World} {a : Addr} {v : Value} (h : w.cell? a = some v) : a.spot = none ∧ a.block < w.heap.size := by
  unfold World.cell? at h
  split at h
  · rename_i hb
    refine ⟨?_, (Array.getElem?_eq_some_iff.1 hb).1⟩
    cases hs : a.spot with
    | none => rfl
    | some k => rw [hs] at h; cases h
  · cases h
/-- Numbers that an int can hold. -/
def Rng (n : Int) : Prop := -9223372036854775808 ≤ n ∧ n ≤ 9223372036854775807
theorem rng_of {n : Int} (h : (Lit.int .i64 n).wf = true) : Rng n := by
  unfold Rng
  simp only [Lit.wf, Bool.and_eq_true, decide_eq_true_eq] at h
  have h1 : IntKind.i64.min = -9223372036854775808 := by decide +kernel
  have h2 : IntKind.i64.max = 9223372036854775807 := by decide +kernel
  omega
set_option maxRecDepth 100000 in
theorem rat_cells {H : Type} {enc : TypeId × Value → H} {w : World} {n : Nat} {c0 c1 : Value} {y : DataW H × List MemPlace} (h : DataW.trod enc Try.prog w 0 (fun _ => true) true n 64 [c0, c1] = some y) :
    ∃ a b : Int, c0 = .int .i64 a ∧ c1 = .int .i64 b ∧ Rng a ∧ Rng b := by
  obtain ⟨y0, y1, n2, _, _, h0, h1⟩ := trod_struct2 Try.underlying64 h
  have k : Try.prog.cellsOf 3 = 1 := by kernel_rfl
  dsimp only at h0 h1
  rw [k] at h0 h1
  obtain ⟨a, ha, _, wa⟩ := DataW.trod_int (cs := [c0]) Try.underlying3 h0
  obtain ⟨b, hb, _, wb⟩ := DataW.trod_int (cs := [c1]) Try.underlying3 h1
  simp only [List.cons.injEq, and_true] at ha hb
  exact ⟨a, b, ha, hb, rng_of wa, rng_of wb⟩
set_option maxRecDepth 100000 in
/-- An argument that is a fraction. -/
theorem open_rat {H : Type} {enc : TypeId × Value → H} {w : World} {v : Value} {d : DataW H} {p : List MemPlace} (hv : Value.okWide Try.prog w .any 0 64 v)
    (h : DataW.Trod enc Try.prog w 0 (fun _ => true) true 64 v d p) : ∃ x y : Int, v = .agg #[.int .i64 x, .int .i64 y] ∧ Rng x ∧ Rng y := by
  obtain ⟨cs, rfl, hsz⟩ := okWide_struct Try.underlying64 hv
  obtain ⟨c0, c1, rfl⟩ := array2 (hsz.trans (by kernel_rfl))
  obtain ⟨fuel, hf⟩ := h
  obtain ⟨a, b, rfl, rfl, ra, rb⟩ := rat_cells (c0 := c0) (c1 := c1) (by simpa [Value.cells] using hf)
  exact ⟨a, b, rfl, ra, rb⟩
theorem frs_of_own {w : World} {base n : Nat} {e : TypeId} {v : Value} {L : List Rat} (h : w.ownsRow base e 2 v n (flat2 (L.map pr))) (hn : n = L.length) :
    ∃ ao cap, v = .slice ao n cap ∧ n ≤ cap ∧ Frs w ao L := own_pts2 h (by rw [List.length_map]; exact hn)
theorem own_new2 (w : World) (e : TypeId) : (w.alloc (.cells #[] e)).ownsRow w.heap.size e 2 (.slice (some ⟨w.heap.size, 0, none⟩) 0 0) 0 [] :=
  ⟨rfl, .inr ⟨w.heap.size, 0, #[], rfl, Nat.le_refl _, heap_alloc_new _ _, Nat.le_refl _, Nat.zero_le _, rfl, rfl⟩⟩
theorem flat2_get {L : List (Int × Int)} {j : Nat} {u : Value} (h : (flat2 L)[j]? = some u) : ∃ k, k < L.length ∧ ((j = k * 2 ∧ u = .int .i64 (L.getD k (0, 0)).1) ∨ (j = k * 2 + 1 ∧ u = .int .i64 (L.getD k (0, 0)).2)) := by
  have hj := (List.getElem?_eq_some_iff.1 h).1
  rw [flat2_length] at hj
  have hk : j / 2 < L.length := by omega
  have ha := flat2_at hk
  refine ⟨j / 2, hk, ?_⟩
  rw [List.getD_eq_getElem?_getD, List.getElem?_eq_getElem hk]
  rcases Nat.mod_two_eq_zero_or_one j with e | e
  · have : j = j / 2 * 2 := by omega
    left
    refine ⟨this, ?_⟩
    rw [this, ha.1] at h
    simpa using h.symm
  · have : j = j / 2 * 2 + 1 := by omega
    right
    refine ⟨this, ?_⟩
    rw [this, ha.2] at h
    simpa using h.symm
/-- The cells of a slice of pairs, one after another. -/
theorem pts_flat {w : World} {ad : Addr} {l : List (Int × Int)} (h : Pts w (some ad) l) : ∀ j u, (flat2 l)[j]? = some u → w.cell? (ad.add j) = some u := by
  intro j u hj
  obtain ⟨k, hk, hc⟩ := flat2_get hj
  obtain ⟨b, off, e, hb, hcc⟩ := h.cells (by omega)
  cases e
  rw [add_off]
  rcases hc with ⟨rfl, rfl⟩ | ⟨rfl, rfl⟩
  · exact (hcc k hk).1
  · rw [← Nat.add_assoc]; exact (hcc k hk).2
theorem add_none {b off : Nat} (j : Nat) : ({ block := b, off := off, spot := none } : Addr).add j = { block := b, off := off + j, spot := none } := by
  unfold Addr.add
  by_cases e : j = 0
  · rw [if_pos e, e]; rfl
  · rw [if_neg e]
set_option maxRecDepth 100000 in
/-- A cell that is a slice of ints. -/
theorem ints_of {H : Type} {enc : TypeId × Value → H} {w : World} {n : Nat} {c0 : Value} {y : DataW H × List MemPlace} (h : DataW.trod enc Try.prog w 0 (fun _ => true) true n 22 [c0] = some y) :
    ∃ (ao : Option Addr) (len cap : Nat) (l : List Int), c0 = .slice ao len cap ∧ len = l.length ∧ len ≤ cap ∧ Ints w ao l ∧ ∀ x ∈ l, Rng x := by
  rcases open_ints Try.underlying22 Try.underlying3 (by kernel_rfl) h with ⟨hcs, -⟩ | ⟨a, len, cap, zs, hcs, _, hl, _, hz, -, hcell, hwf⟩
  · simp only [List.cons.injEq, and_true] at hcs
    exact ⟨none, 0, 0, [], hcs, rfl, Nat.le_refl _, ⟨fun h => by simp at h⟩, fun x hx => by simp at hx⟩
  · simp only [List.cons.injEq, and_true] at hcs
    simp only [if_true] at hz
    refine ⟨some a, len, cap, zs.take len, hcs, by rw [List.length_take]; omega, hl, ⟨fun h0 => ?_⟩, fun x hx => rng_of (hwf x (List.mem_of_mem_take hx))⟩
    rw [List.length_take] at h0
    have ha : a.add 0 = a := by simp [Addr.add]
    have hs := hcell 0 (by omega)
    rw [ha] at hs
    have hs := spot_none hs
    obtain ⟨b, off, sp⟩ := a
    obtain ⟨rfl, hbs⟩ := hs
    refine ⟨b, off, rfl, hbs, fun i hi => ?_⟩
    rw [List.length_take] at hi
    have := hcell i (by omega)
    rw [add_none] at this
    rw [this, List.getD_eq_getElem?_getD, List.getD_eq_getElem?_getD, List.getElem?_take, if_pos (by omega)]
set_option maxRecDepth 100000 in
/-- A cell that is a slice of fractions. -/
theorem rats_of {H : Type} {enc : TypeId × Value → H} {w : World} {n : Nat} {c0 : Value} {y : DataW H × List MemPlace} (h : DataW.trod enc Try.prog w 0 (fun _ => true) true n 23 [c0] = some y) :
    ∃ (ao : Option Addr) (len cap : Nat) (l : List (Int × Int)), c0 = .slice ao len cap ∧ len = l.length ∧ len ≤ cap ∧ Pts w ao l ∧ ∀ x ∈ l, Rng x.1 ∧ Rng x.2 := by
  rcases open_slice Try.underlying23 h with ⟨h0, _⟩ | ⟨a, len, cap, m, n, D, Pl, hcs, hb, hl, hm, hmm, hx, hi⟩
  · simp only [List.cons.injEq, and_true] at h0
    exact ⟨none, 0, 0, [], h0, rfl, Nat.le_refl _, ⟨fun h => by simp at h⟩, fun x hx => by simp at hx⟩
  · simp only [List.cons.injEq, and_true] at hcs
    have hC : Try.prog.cellsOf 64 = 2 := by kernel_rfl
    simp only [if_true] at hmm
    have key : ∀ i, ∃ q : Int × Int, i < len → w.cell? (a.add (i * 2 + 0)) = some (.int .i64 q.1) ∧ w.cell? (a.add (i * 2 + 1)) = some (.int .i64 q.2) ∧ Rng q.1 ∧ Rng q.2 := by
      intro i
      by_cases hin : i < len
      · obtain ⟨cs', hc, ht⟩ := hi i (by omega)
        rw [hC] at hc
        obtain ⟨v0, v1, rfl, e0, e1⟩ := cells_two hc
        obtain ⟨x, y, rfl, rfl, rx, ry⟩ := rat_cells ht
        rw [Go.Deep.add_add] at e0 e1
        exact ⟨(x, y), fun _ => ⟨e0, e1, rx, ry⟩⟩
      · exact ⟨(0, 0), fun h => absurd h hin⟩
    obtain ⟨f, hf2⟩ := Classical.axiomOfChoice key
    refine ⟨some a, len, cap, (List.range len).map f, hcs, by simp, hl, ⟨fun h0 => ?_⟩, fun x hx => ?_⟩
    · have h00 : 0 < len := by simpa using h0
      have hs := spot_none (hf2 0 h00).1
      have ha : a.add (0 * 2 + 0) = a := by simp [Addr.add]
      rw [ha] at hs
      obtain ⟨b, off, sp⟩ := a
      obtain ⟨rfl, hbs⟩ := hs
      refine ⟨b, off, rfl, hbs, fun i hil => ?_⟩
      have hil : i < len := by simpa using hil
      obtain ⟨k1, k2, -, -⟩ := hf2 i hil
      have eg : ((List.range len).map f).getD i (0, 0) = f i := by simp [List.getD_eq_getElem?_getD, hil]
      rw [eg]
      rw [add_none] at k1 k2
      exact ⟨k1, k2⟩
    · simp only [List.mem_map, List.mem_range] at hx
      obtain ⟨i, hi, rfl⟩ := hx
      exact (hf2 i hi).2.2
set_option maxRecDepth 100000 in
theorem open_intsl {H : Type} {enc : TypeId × Value → H} {w : World} {v : Value} {d : DataW H} {p : List MemPlace} (hv : Value.okWide Try.prog w .any 0 22 v)
    (h : DataW.Trod enc Try.prog w 0 (fun _ => true) true 22 v d p) :
    ∃ (ao : Option Addr) (len cap : Nat) (l : List Int), v = .slice ao len cap ∧ len = l.length ∧ len ≤ cap ∧ Ints w ao l ∧ ∀ x ∈ l, Rng x := by
  obtain ⟨a0, n0, c0, rfl⟩ := okWide_slice Try.underlying22 hv
  obtain ⟨fuel, hf⟩ := h
  exact ints_of (c0 := .slice a0 n0 c0) (by simpa [Value.cells] using hf)
set_option maxRecDepth 100000 in
theorem open_rats {H : Type} {enc : TypeId × Value → H} {w : World} {v : Value} {d : DataW H} {p : List MemPlace} (hv : Value.okWide Try.prog w .any 0 23 v)
    (h : DataW.Trod enc Try.prog w 0 (fun _ => true) true 23 v d p) :
    ∃ (ao : Option Addr) (len cap : Nat) (l : List (Int × Int)), v = .slice ao len cap ∧ len = l.length ∧ len ≤ cap ∧ Pts w ao l ∧ ∀ x ∈ l, Rng x.1 ∧ Rng x.2 := by
  obtain ⟨a0, n0, c0, rfl⟩ := okWide_slice Try.underlying23 hv
  obtain ⟨fuel, hf⟩ := h
  exact rats_of (c0 := .slice a0 n0 c0) (by simpa [Value.cells] using hf)
set_option maxRecDepth 100000 in
theorem open_one {H : Type} {enc : TypeId × Value → H} {w : World} {v : Value} {d : DataW H} {p : List MemPlace} (hv : Value.okWide Try.prog w .any 0 3 v)
    (h : DataW.Trod enc Try.prog w 0 (fun _ => true) true 3 v d p) : ∃ z : Int, v = .int .i64 z ∧ Rng z := by
  obtain ⟨z, rfl⟩ := okWide_int Try.underlying3 hv
  obtain ⟨fuel, hf⟩ := h
  obtain ⟨b, hb, _, wb⟩ := DataW.trod_int (cs := [.int .i64 z]) Try.underlying3 (by simpa [Value.cells] using hf)
  simp only [List.cons.injEq, Value.int.injEq, and_true, true_and] at hb
  subst hb
  exact ⟨z, rfl, rng_of wb⟩
namespace Fl
theorem getD_rev {ps : List Int} {k : Nat} (hk : k < ps.length) : ps.reverse.getD k 0 = ps.getD (ps.length - 1 - k) 0 := by
  rw [List.getD_eq_getElem?_getD, List.getD_eq_getElem?_getD, List.getElem?_reverse hk]
end Fl
/-- The blocks in which it lies are not v's own. -/
def Apart (v : Value) (b : Nat) : Prop := ∀ q, v.ownBlock = some q → q ≠ b
theorem Apart.cell {w w' : World} {v : Value} {b : Nat} (h : Apart v b) (hg : w.grownBy w' v.ownBlock) (hb : b < w.heap.size) (o : Nat) : w'.cell? ⟨b, o, none⟩ = w.cell? ⟨b, o, none⟩ :=
  hg.cell_far _ hb (fun hq => h b hq.symm rfl)
theorem Apart.next {v : Value} {b g H n cap : Nat} (h : Apart v b) (hat : v.ownBlock = some g ∨ g = H) (hb : b < H) : Apart (.slice (some ⟨g, 0, none⟩) n cap) b := by
  intro q hq
  have e : g = q := by simpa [Value.ownBlock] using hq
  subst e
  rcases hat with hat | rfl
  · exact h _ hat
  · omega
theorem Apart.old {w : World} {base e size n : Nat} {v : Value} {xs : List Value} (h : w.ownsRow base e size v n xs) {b : Nat} (hb : w.heap.size ≤ b) : Apart v b := by
  intro q hq
  have := (h.lt q hq).2
  omega
theorem ret_bi {a b : Bool} {c d : Int} (h1 : a = b) (h2 : c = d) : Ending.returned (.tuple #[.bool a, .int .i64 c]) = .returned (.tuple #[.bool b, .int .i64 d]) := by rw [h1, h2]
theorem list_neI {k1 k2 : List Int} {k : Nat} (h1 : k < k1.length) (h2 : k < k2.length) (h : k1[k] ≠ k2[k]) : decide (k1 = k2) = false := by
  rw [decide_eq_false_iff_not]
  rintro rfl
  exact h rfl
theorem own_alloc1 (w : World) (e : TypeId) (a b : Int) : (w.alloc (.cells #[.int .i64 a, .int .i64 b] e)).ownsRow w.heap.size e 2 (.slice (some ⟨w.heap.size, 0, none⟩) 1 1) 1 (flat2 [(a, b)]) :=
  ⟨rfl, .inr ⟨w.heap.size, 1, _, rfl, Nat.le_refl _, heap_alloc_new w _, Nat.le_refl _, by unfold maxLen; omega, rfl, rfl⟩⟩
/-- The last element of what one owns: it can be read, and its first cell can be written. -/
theorem own_last {w : World} {base n : Nat} {e : TypeId} {v : Value} {A : List (Int × Int)} {y1 y2 : Int} (h : w.ownsRow base e 2 v n (flat2 (A ++ [(y1, y2)]))) (hn : n = A.length + 1) :
    ∃ g cap, v = .slice (some ⟨g, 0, none⟩) n cap ∧ base ≤ g ∧ g < w.heap.size ∧ w.cell? ⟨g, A.length * 2, none⟩ = some (.int .i64 y1) ∧ w.cell? ⟨g, A.length * 2 + 1, none⟩ = some (.int .i64 y2) ∧ w.frozen? ⟨g, A.length * 2, none⟩ = false ∧
      ∀ c : Int, (w.setCell ⟨g, A.length * 2, none⟩ (.int .i64 c)).ownsRow base e 2 v n (flat2 (A ++ [(c, y2)])) := by
  obtain ⟨h1, ⟨_, h0⟩ | ⟨g, cap, cur, rfl, hb, hg, hnc, hcm, hcs, htk⟩⟩ := h
  · omega
  · have hl : (flat2 A).length = A.length * 2 := flat2_length A
    have hat : ∀ j u, (flat2 (A ++ [(y1, y2)]))[j]? = some u → w.cell? ⟨g, j, none⟩ = some u := by
      intro j u hu
      rw [cell_of_row w g j _ _ _ hg]
      rw [← htk] at hu
      have hj : j < n * 2 := by
        have := (List.getElem?_eq_some_iff.1 hu).1
        rw [List.length_take] at this; omega
      rw [List.getElem?_take, if_pos hj] at hu
      simpa using hu
    refine ⟨g, cap, rfl, hb, heap_lt hg, ?_, ?_, frozen_of_row w g _ cur _ hg, fun c => ?_⟩
    · apply hat
      rw [flat2_app, List.getElem?_append_right (by omega), hl, Nat.sub_self]
      rfl
    · apply hat
      rw [flat2_app, List.getElem?_append_right (by omega), hl, show A.length * 2 + 1 - A.length * 2 = 1 by omega]
      rfl
    · have hg2 := heap_setCell_same w g (A.length * 2) cur e (.int .i64 c) hg
      refine ⟨by rw [flat2_app, List.length_append, hl]; simp [flat2]; omega, .inr ⟨g, cap, _, rfl, hb, hg2, hnc, hcm, by rw [Array.size_setIfInBounds]; exact hcs, ?_⟩⟩
      rw [Array.toList_setIfInBounds, List.take_set, htk, flat2_app, flat2_app, List.set_append_right _ _ (by omega), hl, Nat.sub_self]
      rfl
theorem tint_snoc {ps : List Int} {k : Nat} (hk : k < ps.length) : (ps.reverse.take (k + 1)).map (Value.int .i64) = (ps.reverse.take k).map (Value.int .i64) ++ [.int .i64 (ps.getD (ps.length - 1 - k) 0)] := by
  have hk2 : k < ps.reverse.length := by rw [List.length_reverse]; exact hk
  rw [List.take_succ_eq_append_getElem hk2, List.map_append]
  congr 1
  simp only [List.map_cons, List.map_nil]
  rw [← Fl.getD_rev hk, List.getD_eq_getElem?_getD, List.getElem?_eq_getElem hk2]
  rfl
theorem tpr_get {L : List Rat} {k : Nat} (hk : k < L.length) : (L.map pr).getD k (0, 0) = pr (L.getD k 0) := by
  rw [List.getD_eq_getElem?_getD, List.getElem?_map, List.getD_eq_getElem?_getD, List.getElem?_eq_getElem hk]
  rfl
theorem tpts_pr {w : World} {ao : Option Addr} {L : List Rat} (h : Pts w ao (L.map pr)) {k : Nat} (hk : k < L.length) :
    ∃ b off, ao = some ⟨b, off, none⟩ ∧ b < w.heap.size ∧ w.cell? ⟨b, off + k * 2, none⟩ = some (.int .i64 (L.getD k 0).num) ∧ w.cell? ⟨b, off + k * 2 + 1, none⟩ = some (.int .i64 (L.getD k 0).den) := by
  obtain ⟨b, off, e, hb, hc⟩ := h.cells (by rw [List.length_map]; omega)
  have := hc k (by rw [List.length_map]; exact hk)
  rw [tpr_get hk] at this
  exact ⟨b, off, e, hb, this.1, this.2⟩
namespace Fl
theorem sumI_take_any (u : List Int) (k : Nat) : sumI (u.take (k + 1)) = sumI (u.take k) + u.getD k 0 := by
  by_cases hk : k < u.length
  · exact sumI_take hk
  · rw [List.take_of_length_le (by omega), List.take_of_length_le (by omega), List.getD_eq_getElem?_getD, List.getElem?_eq_none (by omega)]
    simp
end Fl
end Go.Proofs.Ytmdkdkiejcjmaaa
