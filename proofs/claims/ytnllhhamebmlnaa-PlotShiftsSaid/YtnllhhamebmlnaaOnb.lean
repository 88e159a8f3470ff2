import Derived.Test.YtnllhhamebmlnaaStp
namespace Go.Proofs.Ytnllhhamebmlnaa
open Go.RowKit Go.Shelf

attribute [local go_sem] Oper.semAt_some
attribute [local go_sem ↓] loadAt_ring

/-- The steps of a side. -/
def stepOf (l : List (Int × Int)) (i : Nat) : Int := gcdI (Geo.px l (Geo.nxt l i) - Geo.px l i) (Geo.py l (Geo.nxt l i) - Geo.py l i)
def borderSum (l : List (Int × Int)) : Int := Geo.sumOf (stepOf l) (List.range l.length)

theorem gcdI_bound {a b : Int} {n : Nat} (h1 : -n ≤ a) (h2 : a ≤ n) (h3 : -n ≤ b) (h4 : b ≤ n) : 0 ≤ gcdI a b ∧ gcdI a b ≤ n := by
  unfold gcdI
  refine ⟨by omega, ?_⟩
  have ha : a.natAbs ≤ n := by omega
  have hb : b.natAbs ≤ n := by omega
  have : Nat.gcd a.natAbs b.natAbs ≤ n := by
    rcases Nat.eq_zero_or_pos a.natAbs with h | h
    · rw [h, Nat.gcd_zero_left]; exact hb
    · exact Nat.le_trans (Nat.gcd_le_left _ h) ha
  omega
theorem stepOf_bound {l : List (Int × Int)} (h : Geo.AllSm l) (i : Nat) : -((8000 : Nat) : Int) ≤ stepOf l i ∧ stepOf l i ≤ (8000 : Nat) := by
  have a := h.x i
  have b := h.y i
  have c := h.x (Geo.nxt l i)
  have d := h.y (Geo.nxt l i)
  unfold Geo.Sm at *
  have := gcdI_bound (a := Geo.px l (Geo.nxt l i) - Geo.px l i) (b := Geo.py l (Geo.nxt l i) - Geo.py l i) (n := 8000) (by omega) (by omega) (by omega) (by omega)
  unfold stepOf
  omega

theorem steps_side (l : List (Int × Int)) (i : Nat) (w : World) (hS : Geo.AllSm l) :
    Calls Try.prog 102 #[.agg #[.int .i64 (Geo.px l i), .int .i64 (Geo.py l i), .int .i64 (Geo.px l (Geo.nxt l i)), .int .i64 (Geo.py l (Geo.nxt l i))]] w fun e w' =>
      e = .returned (.int .i64 (stepOf l i)) ∧ Below w.heap.size w w' :=
  steps_any _ _ _ _ w (hS.x i) (hS.y i) (hS.x _) (hS.y _)

set_option maxRecDepth 100000 in
set_option maxHeartbeats 2000000 in
theorem onBorder_any (X : Array Value) (pl : List (Int × Int)) (w : World) (hX : IsRing X pl) (h1 : 1 ≤ pl.length) (h10 : pl.length ≤ 10) (hS : Geo.AllSm pl) :
    Calls Try.prog 69 #[.agg X] w fun e w' => e = .returned (.int .i64 (borderSum pl)) ∧ Below w.heap.size w w' := by
  refine (callsIn_wide (n := 9)).1 ?_
  refine callsIn_of_wp_marks Try.func69 rfl trivial ?_ rfl
  simp only [Try.ntmps69, List.size_toArray, List.length_cons, List.length_nil, Nat.reduceAdd, Nat.reduceSub, Array.replicate_succ, Array.replicate_zero, List.push_toArray, List.append_toArray, List.nil_append, List.cons_append]
  have hw1 : ∀ f, Fence.wide.fn f = True := fun _ => rfl
  have hw2 : Fence.wide.depth.isSome = false := rfl
  have bR := ((RowAt.new w X 51).alloc (.cells #[.int .i64 0] 3))
  have hl := run_loadRing bR hX.size
  gi_wp2_with (gi_at_call 97; refine (callsIn_wide.2 (sides_any X _)).mono ?_; rintro e w' ⟨rfl, rfl⟩)
  have bS := (RowAt.new (w.alloc (.cells X 51)) #[.int .i64 0] 3).alloc (.cells X 51)
  have bC := RowAt.new ((w.alloc (.cells X 51)).alloc (.cells #[.int .i64 0] 3)) X 51
  simp only [World.size_alloc] at bS bC
  have hB0 : Below w.heap.size w (((w.alloc (.cells X 51)).alloc (.cells #[.int .i64 0] 3)).alloc (.cells X 51)) := (((Below.refl _ w).alloc (Nat.le_refl _) _).alloc (by simp) _).alloc (by simp; omega) _
  have hsz : (((w.alloc (.cells X 51)).alloc (.cells #[.int .i64 0] 3)).alloc (.cells X 51)).heap.size = w.heap.size + 3 := by simp
  obtain ⟨W0, hW0⟩ : ∃ W0, (((w.alloc (.cells X 51)).alloc (.cells #[.int .i64 0] 3)).alloc (.cells X 51)) = W0 := ⟨_, rfl⟩
  rw [hW0] at bS bC hB0 hsz ⊢
  clear hW0 hl bR
  refine wpIn_rangeFunc_ownH rfl (by omega) (gf := 114) (lb := #[.pointer (some ⟨w.heap.size + 1 + 1, 0, none⟩)]) rfl trivial (enters_of Try.func114 (by kernel_rfl) rfl)
    (sides_stops 8 (w.heap.size + 1 + 1) X pl hX h1 h10 W0 bC) KeepB.trans (KeepB.put (by omega)) (Below.refl _ _) (fun _ => rfl)
    (fun pre W => RowAt W (w.heap.size + 1) #[.int .i64 (Geo.sumOf (stepOf pl) pre)] 3 ∧ (RowAt W (w.heap.size + 1 + 1) X 51 ∧ Below w.heap.size w W))
    (fun _ _ _ => False)
    (OwnFrom.and (Own.from (RowAt.own _ _ (fun pre => #[.int .i64 (Geo.sumOf (stepOf pl) pre)])) _) (OwnFrom.and (Own.from (RowAt.own _ _ (fun _ => X)) _) (ownFrom_below (Nat.le_refl _) (by omega))))
    (fun _ _ _ _ _ hs _ _ => hs)
    ⟨bS, bC, hB0⟩
    (fun x a' W => ∃ Bx, w.heap.size + 1 < Bx ∧ RowAt W Bx (sideR pl x) 82 ∧ a' = { tmps := #[.agg X, .pointer (some ⟨w.heap.size, 0, none⟩), .int .i64 0, .pointer (some ⟨w.heap.size + 1, 0, none⟩), undef, .pointer (some ⟨Bx, 0, none⟩), .agg X, .func (.func 114) #[] #[.pointer (some ⟨w.heap.size + 1 + 1, 0, none⟩)], .int .i64 x, sideV pl x, undef, undef, undef, undef, undef], defers := [] })
    (fun x a' _ A B row hs hg hr => by obtain ⟨Bx, e1, e2, e3⟩ := hs; exact ⟨Bx, e1, RowAt.own Bx _ (fun (_ : Unit) => sideR pl x) () A B row e2 hg (fun r e => (hr r e).2), e3⟩)
    ?assign ?body ?done ?stop
  case assign =>
    rintro l pre x W K ⟨hS1, hC1, hB1⟩ hK
    simp only [sideV_eq] at hK ⊢
    gi_wp2
    exact hK _ _ ((KeepsOthers.alloc _ _).from _) (KeepB.alloc W hC1.lt _) ⟨hS1.alloc _, hC1.alloc _, hB1.alloc hB1.size _⟩ ⟨W.heap.size, hS1.lt, RowAt.new W _ _, rfl⟩
  case body =>
    rintro l pre x a' W hl ⟨r, hr⟩ ⟨hS1, hC1, hB1⟩ ⟨Bx, hBx, bX, rfl⟩ hlt
    have p3 := Geo.sumOf_bound (stepOf_bound hS) pre
    obtain ⟨s, hs⟩ : ∃ s, s = Geo.sumOf (stepOf pl) pre := ⟨_, rfl⟩
    rw [← hs] at hS1 p3
    obtain ⟨g1, g2⟩ := stepOf_bound hS x
    have q5 : -80000 ≤ s := by have := p3.1; omega
    have q6 : s ≤ 80000 := by have := p3.2; omega
    have Hs := Lib.hid hs
    clear hs p3
    have cS := hS1.cell (j := 0) (v := .int .i64 s) rfl
    have c0 := bX.cell (j := 0) (v := .int .i64 (Geo.px pl x)) rfl
    have c1 := bX.cell (j := 1) (v := .int .i64 (Geo.py pl x)) rfl
    have c2 := bX.cell (j := 2) (v := .int .i64 (Geo.px pl (Geo.nxt pl x))) rfl
    have c3 := bX.cell (j := 3) (v := .int .i64 (Geo.py pl (Geo.nxt pl x))) rfl
    have hw3 : ∀ f, (Fence.wide.inRound l).fn f = True := fun _ => rfl
    have hw4 : (Fence.wide.inRound l).depth.isSome = false := rfl
    have hS2 : RowAt W.drew (w.heap.size + 1) #[.int .i64 s] 3 := hS1
    have hC2 : RowAt W.drew (w.heap.size + 1 + 1) X 51 := hC1
    have e1 : IntKind.i64.wrap (s + stepOf pl x) = s + stepOf pl x := IntWalk.i64_in _ (by omega)
    gi_wp2
    gi_region_with (gi_at_call 102; refine (CallsIn.inRound l (callsIn_wide.2 (steps_side pl x _ hS))).mono ?_; rintro e w3 ⟨rfl, hb3⟩; have fF := (hS2.below hb3).free 0; have cF := (hS2.below hb3).cell (j := 0) (v := .int .i64 s) rfl)
    all_goals
      gi_wp2
      refine ⟨((KeepsOthers.drew W).trans ((keeps_below hb3).trans (KeepsOthers.setCell _ _ _))).from _, (KeepB.refl _ W).drew.trans ((KeepB.below hb3 hC2.lt).trans (KeepB.setCell _ _ (by simp) _)), ?_, (hC2.below hb3).other (by omega) _ _, (hB1.drew.trans (hb3.mono hB1.size)).setCell (p := ⟨w.heap.size + 1, 0, none⟩) (by simp) _⟩
      have h2 := (hS2.below hb3).set 0 (.int .i64 (s + stepOf pl x))
      rw [Geo.sumOf_snoc, ← Hs.out]
      exact h2
  case done =>
    rintro D ys W hD rfl ⟨hS1, hC1, hB1⟩ hK
    have cS := hS1.cell (j := 0) (v := .int .i64 (borderSum pl)) rfl
    gi_wp2
    refine ⟨by simp, .inl ⟨_, _, rfl, run_takeDeferred hK, ?_⟩⟩
    exact ⟨_, results_tmp rfl _ _ _, rfl, hB1.trans (belowK_b (w := w) (Nat.le_refl _) W D _ _ (by omega) hK rfl rfl)⟩
  case stop =>
    rintro D c pre W _ _ h _
    exact h.elim
end Go.Proofs.Ytnllhhamebmlnaa
