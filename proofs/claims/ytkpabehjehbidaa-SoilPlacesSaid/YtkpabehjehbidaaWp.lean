import Derived.Test.YtkpabehjehbidaaRows
import Derived.Test.YtkpabehjehbidaaFl
import Derived.WalkKit
import Derived.WalkSpells
import Derived.WalkLawsBesides
import Derived.Lib.Hide
import Derived.Laws.CopyOwn
import Derived.Laws.AppendOwn
import Derived.Lib.SliceRun
import Derived.Deep.AppendLies
import Derived.BigQuiet
import Derived.Deep.QuietTactic
import Derived.StillTailTactics
import Derived.Deep.RegionWith
import Derived.Deep.RegionHeld3
namespace Go.Proofs.Ytkpabehjehbidaa
open Go.RowKit

theorem ret_int {k : IntKind} {a b : Int} (h : a = b) : Ending.returned (.int k a) = .returned (.int k b) := by rw [h]
theorem ret_bool {a b : Bool} (h : a = b) : Ending.returned (.bool a) = .returned (.bool b) := by rw [h]
theorem bcell {W w1 : World} (hb : Below W.heap.size W w1) : (∀ b o, b < W.heap.size → w1.cell? ⟨b, o, none⟩ = W.cell? ⟨b, o, none⟩) ∧ (∀ b o, b < W.heap.size → w1.frozen? ⟨b, o, none⟩ = W.frozen? ⟨b, o, none⟩) :=
  ⟨fun b o h => hb.cell (p := ⟨b, o, none⟩) h, fun b o h => hb.frozen (p := ⟨b, o, none⟩) h⟩

/-- A fraction as the program holds it. -/
abbrev Fr (q : Rat) : Value := .agg #[.int .i64 q.num, .int .i64 q.den]
theorem fr_eq {n d : Int} {q : Rat} (h1 : n = q.num) (h2 : d = q.den) : (.agg #[.int .i64 n, .int .i64 d] : Value) = Fr q := by rw [h1, h2]
theorem infoFrAll : (Try.prog.info? 70).map (fun i => (i.zero, i.size, i.bytes)) = some (some (.agg #[.int .i64 0, .int .i64 0]), 2, 16) := by kernel_rfl
theorem infoFr : (Try.prog.info? 70).isSome = true := by kernel_rfl
/-- A store of a whole row: what is known of the world behind it. -/
theorem wpList_store_row_b {P : Program} {ops : Array Oper} {rest : List Oper} {o : Oper} {a : Act} {w : World} {Q : Exit → Act → World → Prop} (hgd : o.guard = none) (ty : TypeId) (x y : Operand) (ho : o.op = .store ty x y)
    (g : Nat) (cells : Array Value) (hx : a.eval x = .pointer (some ⟨g, 0, none⟩)) (hy : a.eval y = .agg cells)
    (t : TypeId) (old : Array Value) (hg : w.heap[g]? = some (.cells old t (0, 0))) (hi : (P.info? ty).map (·.size) = some cells.size)
    (hold : old.size = cells.size) (h1 : cells.all (·.oneCell') = true)
    (h : ∀ w', w'.heap[g]? = some (.cells cells t (0, 0)) → Below g w w' → w'.heap.size = w.heap.size → wpList P ops Q rest (a.put o.dst undef) w') : wpList P ops Q (o :: rest) a w :=
  wpList_store_row hgd ty x y ho g cells hx hy t old hg hi hold h1 (h _ (setRow_heap w g _ _ t _ hg) (below_setRow (Below.refl _ _) (Nat.le_refl _) _) (by simp [World.setRow]))

theorem infoFr2 : (Try.prog.info? 70).map (·.size) = some 2 := by kernel_rfl
theorem infoRat2 : (Try.prog.info? 29).map (·.size) = some 2 := by kernel_rfl
theorem fr_one (q : Rat) : (#[.int .i64 q.num, .int .i64 q.den] : Array Value).all (·.oneCell') = true := by simp [Value.oneCell']
theorem two_cells {w : World} {g : Nat} {a b : Value} {t : TypeId} (hh : w.heap[g]? = some (.cells #[a, b] t (0, 0))) (u v : Value) :
    ((w.setCell ⟨g, 0, none⟩ u).setCell ⟨g, 1, none⟩ v).heap[g]? = some (.cells #[u, v] t (0, 0)) := by
  have := heap_setCell_same _ g 1 _ t v (heap_setCell_same w g 0 _ t u hh)
  simpa using this
theorem below_setCell {B g o : Nat} {w0 w : World} (hb : Below B w0 w) (hg : B ≤ g) (v : Value) : Below B w0 (w.setCell ⟨g, o, none⟩ v) :=
  ⟨hb.os, hb.tape, hb.output, by rw [show (w.setCell ⟨g, o, none⟩ v).heap.size = w.heap.size by simp [World.setCell]]; exact hb.size,
   fun k hk => (heap_setCell_other w ⟨g, o, none⟩ k v (by show k ≠ g; omega)).trans (hb.block k hk)⟩
theorem cell_two_other {w : World} {g h o : Nat} {x : Value} (u v : Value) (hne : h ≠ g) (hx : w.cell? ⟨h, o, none⟩ = some x) : ((w.setCell ⟨g, 0, none⟩ u).setCell ⟨g, 1, none⟩ v).cell? ⟨h, o, none⟩ = some x := by
  rw [← hx]
  unfold World.cell?
  rw [heap_setCell_other _ _ _ _ (by show h ≠ g; exact hne), heap_setCell_other _ _ _ _ (by show h ≠ g; exact hne)]
theorem ret_fr {n d : Int} {q : Rat} (h1 : n = q.num) (h2 : d = q.den) : Ending.returned (.agg #[.int .i64 n, .int .i64 d]) = .returned (Fr q) := by rw [fr_eq h1 h2]
theorem heap_alloc3 (w : World) (A B C : Obj) : (((w.alloc A).alloc B).alloc C).heap[w.heap.size + 1 + 1]? = some C := by
  have h := heap_alloc_new ((w.alloc A).alloc B) C
  simpa only [World.size_alloc] using h
theorem below_alloc3 (w : World) (A B C : Obj) : Below w.heap.size w (((w.alloc A).alloc B).alloc C) :=
  (((Below.refl _ w).alloc (Nat.le_refl _) _).alloc (by simp) _).alloc (by simp; omega) _
theorem heap_alloc4_new (w : World) (A B C D : Obj) : ((((w.alloc A).alloc B).alloc C).alloc D).heap[w.heap.size + 1 + 1 + 1]? = some D := by
  have h := heap_alloc_new (((w.alloc A).alloc B).alloc C) D
  simpa only [World.size_alloc] using h
theorem heap_alloc4_old (w : World) (A B C D : Obj) : ((((w.alloc A).alloc B).alloc C).alloc D).heap[w.heap.size + 1 + 1]? = some C := by
  refine (heap_alloc_old _ D (by simp)).trans ?_
  exact heap_alloc3 w A B C
theorem below_alloc4 (w : World) (A B C D : Obj) : Below w.heap.size w ((((w.alloc A).alloc B).alloc C).alloc D) :=
  (below_alloc3 w A B C).alloc (by simp; omega) _
theorem heap_alloc4 (w : World) (A B C D : Obj) : ((((w.alloc A).alloc B).alloc C).alloc D).heap[w.heap.size]? = some A ∧ ((((w.alloc A).alloc B).alloc C).alloc D).heap[w.heap.size + 1]? = some B ∧ ((((w.alloc A).alloc B).alloc C).alloc D).heap[w.heap.size + 1 + 1]? = some C ∧ ((((w.alloc A).alloc B).alloc C).alloc D).heap[w.heap.size + 1 + 1 + 1]? = some D :=
  ⟨(heap_alloc_old _ _ (by simp; omega)).trans ((heap_alloc_old _ _ (by simp; omega)).trans (heap_alloc2_old w A B)), (heap_alloc_old _ _ (by simp; try omega)).trans ((heap_alloc_old _ _ (by simp; try omega)).trans (heap_alloc2_new w A B)), heap_alloc4_old w A B C D, heap_alloc4_new w A B C D⟩
theorem below_alloc2 (w : World) (A B : Obj) : Below w.heap.size w ((w.alloc A).alloc B) :=
  ((Below.refl _ w).alloc (Nat.le_refl _) _).alloc (by simp) _
/-- A box of a fraction. -/
theorem row_fr {w' : World} {g : Nat} {a b : Value} {t : TypeId} (hh : w'.heap[g]? = some (.cells #[a, b] t (0, 0))) :
    (w'.cell? ⟨g, 0, none⟩ = some a ∧ w'.cell? ⟨g, 1, none⟩ = some b) ∧ (w'.frozen? ⟨g, 0, none⟩ = false ∧ w'.frozen? ⟨g, 1, none⟩ = false) :=
  ⟨⟨cell_of_row w' g 0 _ _ _ hh, cell_of_row w' g 1 _ _ _ hh⟩, ⟨frozen_of_row w' g 0 _ _ hh, frozen_of_row w' g 1 _ _ hh⟩⟩
theorem heap_keep {g : Nat} {W W' : World} {o : Obj} (hb : Below W.heap.size W W') (h : W.heap[g]? = some o) : W'.heap[g]? = some o :=
  (hb.block g (by have := (Array.getElem?_eq_some_iff.1 h).1; exact this)).trans h
theorem keep_cell {g o : Nat} {W W' : World} {v : Value} (hb : Below W.heap.size W W') (h : W.cell? ⟨g, o, none⟩ = some v) : W'.cell? ⟨g, o, none⟩ = some v :=
  (hb.cell (p := ⟨g, o, none⟩) (block_lt_of_cell h)).trans h
theorem heap_lt {g : Nat} {W : World} {o : Obj} (h : W.heap[g]? = some o) : g < W.heap.size := (Array.getElem?_eq_some_iff.1 h).1
theorem heap_row_other {g k : Nat} {W : World} {o : Obj} (cs : Array Value) (hk : k ≠ g) (h : W.heap[k]? = some o) : (W.setRow g cs).heap[k]? = some o := by
  rw [← h]
  simp only [World.setRow, Array.getElem?_modify]
  rw [if_neg (fun e => hk e.symm)]
/-- What a block above the ones that were there holds goes on being held. -/
theorem heap_at {n k : Nat} {w w' : World} {o : Option Obj} (h : Below n w w') (hk : k < n) (e : w.heap[k]? = o) : w'.heap[k]? = o := (h.block k hk).trans e
end Go.Proofs.Ytkpabehjehbidaa
