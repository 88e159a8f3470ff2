import Derived.RangeFuncBox
import Derived.Test.YtnllhhamebmlnaaNext
namespace Go.Proofs.Ytnllhhamebmlnaa
open Go.RowKit Go.Shelf

attribute [local go_sem] Oper.semAt_some
attribute [local go_sem ↓] loadAt_ring

/-- A block of cells, none of them frozen. -/
def RowAt (W : World) (B : Nat) (X : Array Value) (t : TypeId) : Prop := W.heap[B]? = some (.cells X t (0, 0))
theorem RowAt.own {β : Type} (B : Nat) (t : TypeId) (f : β → Array Value) : Own (fun s W => RowAt W B (f s) t) := fun s X Y row hs hg hrow => by
  have hs' : X.heap[B]? = some (.cells (f s) t (0, 0)) := hs
  refine (hg.block B (Array.getElem?_eq_some_iff.1 hs').1 (fun e' => ?_)).trans hs'
  obtain ⟨o, ho, hc⟩ := hrow B e'.symm
  rw [hs'] at ho; cases ho; cases hc
theorem RowAt.lt {W : World} {B : Nat} {X : Array Value} {t : TypeId} (h : RowAt W B X t) : B < W.heap.size := (Array.getElem?_eq_some_iff.1 h).1
theorem RowAt.new (w : World) (X : Array Value) (t : TypeId) : RowAt (w.alloc (.cells X t)) w.heap.size X t := heap_alloc_new w _
theorem RowAt.alloc {W : World} {B : Nat} {X : Array Value} {t : TypeId} (h : RowAt W B X t) (o : Obj) : RowAt (W.alloc o) B X t := (Below.heap_alloc W o B h.lt).trans h
theorem RowAt.below {W W' : World} {B : Nat} {X : Array Value} {t : TypeId} (h : RowAt W B X t) (hb : Below W.heap.size W W') : RowAt W' B X t := (hb.block B h.lt).trans h
theorem RowAt.cell {W : World} {B : Nat} {X : Array Value} {t : TypeId} (h : RowAt W B X t) {j : Nat} {v : Value} (hv : X[j]? = some v) : W.cell? ⟨B, j, none⟩ = some v := by
  have h' : W.heap[B]? = some (.cells X t (0, 0)) := h
  unfold World.cell?; simp [h', hv]
theorem RowAt.free {W : World} {B : Nat} {X : Array Value} {t : TypeId} (h : RowAt W B X t) (j : Nat) : W.frozen? ⟨B, j, none⟩ = false := by
  have h' : W.heap[B]? = some (.cells X t (0, 0)) := h
  unfold World.frozen?; simp [h']
theorem RowAt.set {W : World} {B : Nat} {X : Array Value} {t : TypeId} (h : RowAt W B X t) (j : Nat) (v : Value) : RowAt (W.setCell ⟨B, j, none⟩ v) B (X.setIfInBounds j v) t := by
  have h' : W.heap[B]? = some (.cells X t (0, 0)) := h
  have hlt := h.lt
  unfold RowAt
  simp only [World.setCell]
  rw [Array.getElem?_modify]
  simp [h']
theorem RowAt.other {W : World} {B B' : Nat} {X : Array Value} {t : TypeId} (h : RowAt W B X t) (hne : B ≠ B') (j : Nat) (v : Value) : RowAt (W.setCell ⟨B', j, none⟩ v) B X t :=
  (Below.heap_setCell _ _ _ _ hne).trans h

theorem sideV_eq (l : List (Int × Int)) (i : Nat) : sideV l i = .agg #[.int .i64 (Geo.px l i), .int .i64 (Geo.py l i), .int .i64 (Geo.px l (Geo.nxt l i)), .int .i64 (Geo.py l (Geo.nxt l i))] := rfl
def sideR (l : List (Int × Int)) (i : Nat) : Array Value := #[.int .i64 (Geo.px l i), .int .i64 (Geo.py l i), .int .i64 (Geo.px l (Geo.nxt l i)), .int .i64 (Geo.py l (Geo.nxt l i))]

set_option maxRecDepth 100000 in
set_option maxHeartbeats 2000000 in
theorem area_any (X : Array Value) (pl : List (Int × Int)) (w : World) (hX : IsRing X pl) (h1 : 1 ≤ pl.length) (h10 : pl.length ≤ 10) (hS : Geo.AllSm pl) :
    Calls Try.prog 56 #[.agg X] w fun e w' => e = .returned (.int .i64 (Geo.area pl)) ∧ Below w.heap.size w w' := by
  refine (callsIn_wide (n := 9)).1 ?_
  refine callsIn_of_wp_marks Try.func56 rfl trivial ?_ rfl
  simp only [Try.ntmps56, List.size_toArray, List.length_cons, List.length_nil, Nat.reduceAdd, Nat.reduceSub, Array.replicate_succ, Array.replicate_zero, List.push_toArray, List.append_toArray, List.nil_append, List.cons_append]
  have hw1 : ∀ f, Fence.wide.fn f = True := fun _ => rfl
  have hw2 : Fence.wide.depth.isSome = false := rfl
  have bR := ((RowAt.new w X 51).alloc (.cells #[.int .i64 0] 3))
  have hl := run_loadRing bR hX.size
  gi_wp2_with (gi_at_call 97; refine (callsIn_wide.2 (sides_any X _)).mono ?_; rintro e w' ⟨rfl, rfl⟩)
  have bS := (RowAt.new (w.alloc (.cells X 51)) #[.int .i64 0] 3).alloc (.cells X 51)
  have bC := RowAt.new ((w.alloc (.cells X 51)).alloc (.cells #[.int .i64 0] 3)) X 51
  simp only [World.size_alloc] at bS bC
  have hB0 : Below w.heap.size w (((w.alloc (.cells X 51)).alloc (.cells #[.int .i64 0] 3)).alloc (.cells X 51)) := (((Below.refl _ w).alloc (Nat.le_refl _) _).alloc (by simp) _).alloc (by simp; omega) _
  have hsz : (((w.alloc (.cells X 51)).alloc (.cells #[.int .i64 0] 3)).alloc (.cells X 51)).heap.size = w.heap.size + 3 := by simp
  obtain ⟨W0, hW0⟩ : ∃ W0, (((w.alloc (.cells X 51)).alloc (.cells #[.int .i64 0] 3)).alloc (.cells X 51)) = W0 := ⟨_, rfl⟩
  rw [hW0] at bS bC hB0 hsz ⊢
  clear hW0 hl bR
  refine wpIn_rangeFunc_ownH rfl (by omega) (gf := 114) (lb := #[.pointer (some ⟨w.heap.size + 1 + 1, 0, none⟩)]) rfl trivial (enters_of Try.func114 (by kernel_rfl) rfl)
    (sides_stops 8 (w.heap.size + 1 + 1) X pl hX h1 h10 W0 bC) KeepB.trans (KeepB.put (by omega)) (Below.refl _ _) (fun _ => rfl)
    (fun pre W => RowAt W (w.heap.size + 1) #[.int .i64 (Geo.sumOf (Geo.cross pl) pre)] 3 ∧ (RowAt W (w.heap.size + 1 + 1) X 51 ∧ Below w.heap.size w W))
    (fun _ _ _ => False)
    (OwnFrom.and (Own.from (RowAt.own _ _ (fun pre => #[.int .i64 (Geo.sumOf (Geo.cross pl) pre)])) _) (OwnFrom.and (Own.from (RowAt.own _ _ (fun _ => X)) _) (ownFrom_below (Nat.le_refl _) (by omega))))
    (fun _ _ _ _ _ hs _ _ => hs)
    ⟨bS, bC, hB0⟩
    (fun x a' W => ∃ Bx, w.heap.size + 1 < Bx ∧ RowAt W Bx (sideR pl x) 82 ∧ a' = { tmps := #[.agg X, .pointer (some ⟨w.heap.size, 0, none⟩), .int .i64 0, .pointer (some ⟨w.heap.size + 1, 0, none⟩), undef, .pointer (some ⟨Bx, 0, none⟩), .agg X, .func (.func 114) #[] #[.pointer (some ⟨w.heap.size + 1 + 1, 0, none⟩)], .int .i64 x, sideV pl x, undef, undef, undef, undef, undef, undef, undef, undef, undef, undef, undef, undef, undef, undef, undef, undef, undef, undef], defers := [] })
    (fun x a' _ A B row hs hg hr => by obtain ⟨Bx, e1, e2, e3⟩ := hs; exact ⟨Bx, e1, RowAt.own Bx _ (fun (_ : Unit) => sideR pl x) () A B row e2 hg (fun r e => (hr r e).2), e3⟩)
    ?assign ?body ?done ?stop
  case assign =>
    rintro l pre x W K ⟨hS1, hC1, hB1⟩ hK
    simp only [sideV_eq] at hK ⊢
    gi_wp2
    exact hK _ _ ((KeepsOthers.alloc _ _).from _) (KeepB.alloc W hC1.lt _) ⟨hS1.alloc _, hC1.alloc _, hB1.alloc hB1.size _⟩ ⟨W.heap.size, hS1.lt, RowAt.new W _ _, rfl⟩
  case body =>
    rintro l pre x a' W hl ⟨r, hr⟩ ⟨hS1, hC1, hB1⟩ ⟨Bx, hBx, bX, rfl⟩ hlt
    have p1 := Geo.sm_mul (hS.x x) (hS.y (Geo.nxt pl x))
    have p2 := Geo.sm_mul (hS.x (Geo.nxt pl x)) (hS.y x)
    have p3 := Geo.sumOf_bound (Geo.cross_bound hS) pre
    obtain ⟨s, hs⟩ : ∃ s, s = Geo.sumOf (Geo.cross pl) pre := ⟨_, rfl⟩
    rw [← hs] at hS1 p3
    obtain ⟨q1, q2⟩ := p1
    obtain ⟨q3, q4⟩ := p2
    have q5 : -320000000 ≤ s := by have := p3.1; omega
    have q6 : s ≤ 320000000 := by have := p3.2; omega
    have Hs := Lib.hid hs
    clear hs p3
    have cS := hS1.cell (j := 0) (v := .int .i64 s) rfl
    have fS := hS1.free 0
    have c0 := bX.cell (j := 0) (v := .int .i64 (Geo.px pl x)) rfl
    have c1 := bX.cell (j := 1) (v := .int .i64 (Geo.py pl x)) rfl
    have c2 := bX.cell (j := 2) (v := .int .i64 (Geo.px pl (Geo.nxt pl x))) rfl
    have c3 := bX.cell (j := 3) (v := .int .i64 (Geo.py pl (Geo.nxt pl x))) rfl
    gi_wp2
    refine ⟨(KeepsOthers.setCell _ _ _).from _, KeepB.setCell _ _ (by simp) _, ?_, hC1.other (by omega) _ _, hB1.setCell (p := ⟨w.heap.size + 1, 0, none⟩) (by simp) _⟩
    have h2 := hS1.set 0 (.int .i64 (s + (Geo.px pl x * Geo.py pl (Geo.nxt pl x) - Geo.px pl (Geo.nxt pl x) * Geo.py pl x)))
    rw [Geo.sumOf_snoc, ← Hs.out]
    exact h2
  case done =>
    rintro D ys W hD rfl ⟨hS1, hC1, hB1⟩ hK
    have cS := hS1.cell (j := 0) (v := .int .i64 (Geo.area pl)) rfl
    gi_wp2
    refine ⟨by simp, .inl ⟨_, _, rfl, run_takeDeferred hK, ?_⟩⟩
    exact ⟨_, results_tmp rfl _ _ _, rfl, hB1.trans (belowK_b (w := w) (Nat.le_refl _) W D _ _ (by omega) hK rfl rfl)⟩
  case stop =>
    rintro D c pre W _ _ h _
    exact h.elim
end Go.Proofs.Ytnllhhamebmlnaa
