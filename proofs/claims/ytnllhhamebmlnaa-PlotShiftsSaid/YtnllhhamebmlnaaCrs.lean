import Derived.Test.YtnllhhamebmlnaaArea
import Derived.Test.YtnllhhamebmlnaaTurn
namespace Go.Proofs.Ytnllhhamebmlnaa
open Go.RowKit Go.Shelf

attribute [local go_sem] Oper.semAt_some
attribute [local go_sem ↓] loadAt_ring

theorem RowAt.new' {w : World} {X : Array Value} {t : TypeId} {B : Nat} (h : B = w.heap.size) : RowAt (w.alloc (.cells X t)) B X t := h ▸ RowAt.new w X t
theorem keeps_below {W W' : World} (h : Below W.heap.size W W') : KeepsOthers W W' := ⟨h.size, fun k _ hk _ => (h.block k (Array.getElem?_eq_some_iff.1 hk).1).trans hk⟩
theorem crosses_yes {l : List (Int × Int)} {i j : Nat} (hi : i < l.length) (hj : j < l.length) (h : (decide (i < j) && Geo.clash l i j) = true) : Geo.crosses l = true := by
  unfold Geo.crosses
  rw [List.any_eq_true]
  exact ⟨i, List.mem_range.2 hi, List.any_eq_true.2 ⟨j, List.mem_range.2 hj, h⟩⟩
theorem crosses_no {l : List (Int × Int)} (h : ∀ i ∈ List.range l.length, ∀ j, j < l.length → (decide (i < j) && Geo.clash l i j) = false) : Geo.crosses l = false := by
  unfold Geo.crosses
  rw [List.any_eq_false]
  intro i hi
  rw [Bool.not_eq_true, List.any_eq_false]
  intro j hj
  rw [h i hi j (List.mem_range.1 hj)]
  simp

set_option maxRecDepth 100000 in
set_option maxHeartbeats 4000000 in
theorem crosses_any (X : Array Value) (pl : List (Int × Int)) (w : World) (hX : IsRing X pl) (h1 : 1 ≤ pl.length) (h10 : pl.length ≤ 10) (hS : Geo.AllSm pl) :
    Calls Try.prog 61 #[.agg X] w fun e w' => e = .returned (.bool (Geo.crosses pl)) ∧ Below w.heap.size w w' := by
  refine (callsIn_wide (n := 20)).1 ?_
  refine callsIn_of_wp_marks Try.func61 rfl trivial ?_ rfl
  simp only [Try.ntmps61, List.size_toArray, List.length_cons, List.length_nil, Nat.reduceAdd, Nat.reduceSub, Array.replicate_succ, Array.replicate_zero, List.push_toArray, List.append_toArray, List.nil_append, List.cons_append]
  have hw1 : ∀ f, Fence.wide.fn f = True := fun _ => rfl
  have hw2 : Fence.wide.depth.isSome = false := rfl
  have bR := ((RowAt.new w X 51).alloc (.cells #[.bool false] 4))
  have hl := run_loadRing bR hX.size
  gi_wp2_with (gi_at_call 97; refine (callsIn_wide.2 (sides_any X _)).mono ?_; rintro e w' ⟨rfl, rfl⟩)
  have bF := (RowAt.new (w.alloc (.cells X 51)) #[.bool false] 4).alloc (.cells X 51)
  have bC := RowAt.new ((w.alloc (.cells X 51)).alloc (.cells #[.bool false] 4)) X 51
  have bR2 := bR.alloc (.cells X 51)
  simp only [World.size_alloc] at bF bC
  have hB0 : Below w.heap.size w (((w.alloc (.cells X 51)).alloc (.cells #[.bool false] 4)).alloc (.cells X 51)) := (((Below.refl _ w).alloc (Nat.le_refl _) _).alloc (by simp) _).alloc (by simp; omega) _
  have hsz : (((w.alloc (.cells X 51)).alloc (.cells #[.bool false] 4)).alloc (.cells X 51)).heap.size = w.heap.size + 3 := by simp
  obtain ⟨W0, hW0⟩ : ∃ W0, (((w.alloc (.cells X 51)).alloc (.cells #[.bool false] 4)).alloc (.cells X 51)) = W0 := ⟨_, rfl⟩
  rw [hW0] at bF bC bR2 hB0 hsz ⊢
  clear hW0 hl bR
  refine wpIn_rangeFunc_ownH rfl (by omega) (gf := 114) (lb := #[.pointer (some ⟨w.heap.size + 1 + 1, 0, none⟩)]) rfl trivial (enters_of Try.func114 (by kernel_rfl) rfl)
    (sides_stops 19 (w.heap.size + 1 + 1) X pl hX h1 h10 W0 bC) KeepB.trans (KeepB.put (by omega)) (Below.refl _ _) (fun _ => rfl)
    (fun pre W => (∀ i ∈ pre, ∀ j, j < pl.length → (decide (i < j) && Geo.clash pl i j) = false) ∧ (RowAt W (w.heap.size + 1) #[.bool false] 4 ∧ (RowAt W w.heap.size X 51 ∧ (RowAt W (w.heap.size + 1 + 1) X 51 ∧ Below w.heap.size w W))))
    (fun c pre W => (c = .ret ∧ ∃ i ∈ pre, ∃ j, j < pl.length ∧ (decide (i < j) && Geo.clash pl i j) = true) ∧ (RowAt W (w.heap.size + 1) #[.bool true] 4 ∧ Below w.heap.size w W))
    (OwnFrom.and (ownFrom_pure _ _) (OwnFrom.and (Own.from (RowAt.own _ _ (fun _ => #[.bool false])) _) (OwnFrom.and (Own.from (RowAt.own _ _ (fun _ => X)) _) (OwnFrom.and (Own.from (RowAt.own _ _ (fun _ => X)) _) (ownFrom_below (Nat.le_refl _) (by omega))))))
    (fun c => OwnFrom.and (ownFrom_pure _ _) (OwnFrom.and (Own.from (RowAt.own _ _ (fun _ => #[.bool true])) _) (ownFrom_below (Nat.le_refl _) (by omega))))
    ⟨by simp, bF, bR2, bC, hB0⟩
    (fun x a' W => ∃ Bi Bl, w.heap.size + 1 < Bi ∧ w.heap.size + 1 < Bl ∧ RowAt W Bi #[.int .i64 (x : Nat)] 3 ∧ RowAt W Bl (sideR pl x) 82 ∧ a' = { tmps := #[.agg X, .pointer (some ⟨w.heap.size, 0, none⟩), .pointer (some ⟨w.heap.size + 1, 0, none⟩), .pointer (some ⟨Bi, 0, none⟩), .pointer (some ⟨Bl, 0, none⟩), undef, undef, .agg X, .func (.func 114) #[] #[.pointer (some ⟨w.heap.size + 1 + 1, 0, none⟩)], .int .i64 x, sideV pl x, undef, undef, undef, undef, undef, undef, undef, undef, undef, undef, undef, undef], defers := [] })
    (fun x a' _ A B row hs hg hr => by obtain ⟨Bi, Bl, e1, e2, e3, e4, e5⟩ := hs; exact ⟨Bi, Bl, e1, e2, RowAt.own Bi _ (fun (_ : Unit) => #[.int .i64 (x : Nat)]) () A B row e3 hg (fun r e => (hr r e).2), RowAt.own Bl _ (fun (_ : Unit) => sideR pl x) () A B row e4 hg (fun r e => (hr r e).2), e5⟩)
    ?assign ?body ?done ?stop
  case assign =>
    rintro l pre x W K ⟨hp, hF1, hR1, hC1, hB1⟩ hK
    simp only [sideV_eq] at hK ⊢
    gi_wp2
    exact hK _ _ (((KeepsOthers.alloc _ _).trans (KeepsOthers.alloc _ _)).from _) ((KeepB.alloc W hC1.lt _).trans (KeepB.alloc _ (hC1.alloc _).lt _)) ⟨hp, (hF1.alloc _).alloc _, (hR1.alloc _).alloc _, (hC1.alloc _).alloc _, (hB1.alloc hB1.size _).alloc (Nat.le_trans hB1.size (by simp)) _⟩ ⟨W.heap.size, W.heap.size + 1, hF1.lt, Nat.lt_succ_of_lt hF1.lt, (RowAt.new W _ _).alloc _, RowAt.new' (by simp), rfl⟩
  case body =>
    rintro l pre x a' W hlW ⟨r, hr⟩ ⟨hp, hF1, hR1, hC1, hB1⟩ ⟨Bi, Bl, hBi, hBl, bI, bL, rfl⟩ hlt
    have hl := run_loadRing hR1 hX.size
    have hw3 : ∀ f, (Fence.wide.inRound l).fn f = True := fun _ => rfl
    have hw4 : (Fence.wide.inRound l).depth.isSome = false := rfl
    gi_wp2_with (gi_at_call 97; refine (CallsIn.inRound l (callsIn_wide.2 (sides_any X _))).mono ?_; rintro e w' ⟨rfl, rfl⟩)
    clear hl
    have hsW := hB1.size
    have bN := RowAt.new W X 51
    have hr' : (W.alloc (.cells X 51)).heap[l]? = some (.loop r) := (Below.heap_alloc W _ l (Array.getElem?_eq_some_iff.1 hr).1).trans hr
    refine wpIn_rangeFunc_ownN (l₀ := l) (r₀ := r) rfl hr' (by omega) (gf := 114) (lb := #[.pointer (some ⟨W.heap.size, 0, none⟩)]) rfl trivial (enters_of Try.func114 (by kernel_rfl) rfl)
      ((sides_stops 17 W.heap.size X pl hX h1 h10 _ bN).inRound l) KeepB.trans (KeepB.put (by simp)) (Below.refl _ _) (fun _ => rfl)
      (fun pre' W' => (∀ j ∈ pre', (decide (x < j) && Geo.clash pl x j) = false) ∧ (RowAt W' (w.heap.size + 1) #[.bool false] 4 ∧ (RowAt W' w.heap.size X 51 ∧ (RowAt W' (w.heap.size + 1 + 1) X 51 ∧ (RowAt W' W.heap.size X 51 ∧ (RowAt W' Bi #[.int .i64 (x : Nat)] 3 ∧ (RowAt W' Bl (sideR pl x) 82 ∧ (Below w.heap.size W W' ∧ KeepsFrom W0.heap.size W W'))))))))
      (fun c pre' W' => (c = .ret ∧ ∃ j ∈ pre', (decide (x < j) && Geo.clash pl x j) = true) ∧ (RowAt W' (w.heap.size + 1) #[.bool true] 4 ∧ (Below w.heap.size W W' ∧ KeepsFrom W0.heap.size W W')))
      (OwnFrom.and (ownFrom_pure _ _) (OwnFrom.and (Own.from (RowAt.own _ _ (fun _ => #[.bool false])) _) (OwnFrom.and (Own.from (RowAt.own _ _ (fun _ => X)) _) (OwnFrom.and (Own.from (RowAt.own _ _ (fun _ => X)) _) (OwnFrom.and (Own.from (RowAt.own _ _ (fun _ => X)) _) (OwnFrom.and (Own.from (RowAt.own _ _ (fun _ => #[.int .i64 (x : Nat)])) _) (OwnFrom.and (Own.from (RowAt.own _ _ (fun _ => sideR pl x)) _) (OwnFrom.and (ownFrom_below hsW (by simp; omega)) (ownFrom_keepsFrom (by simp))))))))))
      (fun c => OwnFrom.and (ownFrom_pure _ _) (OwnFrom.and (Own.from (RowAt.own _ _ (fun _ => #[.bool true])) _) (OwnFrom.and (ownFrom_below hsW (by simp; omega)) (ownFrom_keepsFrom (by simp)))))
      ⟨by simp, hF1.alloc _, hR1.alloc _, hC1.alloc _, bN, bI.alloc _, bL.alloc _, (Below.refl _ W).alloc hsW _, (KeepsOthers.alloc _ _).from _⟩
      (fun y a'' W' => ∃ Bm, w.heap.size + 1 < Bm ∧ RowAt W' Bm (sideR pl y) 82 ∧ a'' = { tmps := #[.agg X, .pointer (some ⟨w.heap.size, 0, none⟩), .pointer (some ⟨w.heap.size + 1, 0, none⟩), .pointer (some ⟨Bi, 0, none⟩), .pointer (some ⟨Bl, 0, none⟩), .int .i64 y, .pointer (some ⟨Bm, 0, none⟩), .agg X, .func (.func 114) #[] #[.pointer (some ⟨w.heap.size + 1 + 1, 0, none⟩)], .int .i64 x, sideV pl x, .agg X, .func (.func 114) #[] #[.pointer (some ⟨W.heap.size, 0, none⟩)], .int .i64 y, sideV pl y, undef, undef, undef, undef, undef, undef, undef, undef], defers := [] })
      (fun y a' _ A B row hs hg hr => by obtain ⟨Bm, e1, e2, e3⟩ := hs; exact ⟨Bm, e1, RowAt.own Bm _ (fun (_ : Unit) => sideR pl y) () A B row e2 hg (fun r e => (hr r e).2), e3⟩)
      ?assign2 ?body2 ?done2 ?stop2
    case assign2 =>
      rintro l2 pre' y W' K ⟨hq, hF2, hR2, hC2, hN2, hI2, hL2, hBW, hKF⟩ hK
      simp only [sideV_eq] at hK ⊢
      gi_wp2
      exact hK _ _ ((KeepsOthers.alloc _ _).from _) (KeepB.alloc W' hN2.lt _) ⟨hq, hF2.alloc _, hR2.alloc _, hC2.alloc _, hN2.alloc _, hI2.alloc _, hL2.alloc _, hBW.alloc (Nat.le_trans hsW hBW.size) _, hKF.trans ((KeepsOthers.alloc _ _).from _)⟩ ⟨W'.heap.size, hF2.lt, RowAt.new W' _ _, rfl⟩
    case body2 =>
      rintro l2 pre' y a'' W' _ _ ⟨hq, hF2, hR2, hC2, hN2, hI2, hL2, hBW, hKF⟩ ⟨Bm, hBm, bM, rfl⟩ _
      have hw5 : ∀ f, ((Fence.wide.inRound l).inRound l2).fn f = True := fun _ => rfl
      have hw6 : ((Fence.wide.inRound l).inRound l2).depth.isSome = false := rfl
      have cI := hI2.cell (j := 0) (v := .int .i64 (x : Nat)) rfl
      have c0 := hL2.cell (j := 0) (v := .int .i64 (Geo.px pl x)) rfl
      have c1 := hL2.cell (j := 1) (v := .int .i64 (Geo.py pl x)) rfl
      have c2 := hL2.cell (j := 2) (v := .int .i64 (Geo.px pl (Geo.nxt pl x))) rfl
      have c3 := hL2.cell (j := 3) (v := .int .i64 (Geo.py pl (Geo.nxt pl x))) rfl
      have d0 := bM.cell (j := 0) (v := .int .i64 (Geo.px pl y)) rfl
      have d1 := bM.cell (j := 1) (v := .int .i64 (Geo.py pl y)) rfl
      have d2 := bM.cell (j := 2) (v := .int .i64 (Geo.px pl (Geo.nxt pl y))) rfl
      have d3 := bM.cell (j := 3) (v := .int .i64 (Geo.py pl (Geo.nxt pl y))) rfl
      by_cases hxy : x < y
      · have hxi : (x : Int) < (y : Int) := by omega
        gi_wp2_with (gi_at_call 99; refine (CallsIn.inRound l2 (CallsIn.inRound l (callsIn_wide.2 (clashes_any _ _ _ _ _ _ _ _ _ (hS.x x) (hS.y x) (hS.x _) (hS.y _) (hS.x y) (hS.y y) (hS.x _) (hS.y _))))).mono ?_; rintro e w3 ⟨rfl, hb3⟩; have fF := (hF2.below hb3).free 0; have cF := (hF2.below hb3).cell (j := 0) (v := .bool false) rfl)
        · have hcl : Geo.clashes (Geo.px pl x) (Geo.py pl x) (Geo.px pl (Geo.nxt pl x)) (Geo.py pl (Geo.nxt pl x)) (Geo.px pl y) (Geo.py pl y) (Geo.px pl (Geo.nxt pl y)) (Geo.py pl (Geo.nxt pl y)) = true := by assumption
          refine ⟨((keeps_below hb3).trans (KeepsOthers.setCell _ _ _)).from _, ⟨rfl, y, List.mem_append.2 (.inr (by simp)), by simp only [hxy, decide_true, Bool.true_and]; exact hcl⟩, (hF2.below hb3).set 0 (.bool true), (hBW.trans (hb3.mono (Nat.le_trans hsW hBW.size))).setCell (p := ⟨w.heap.size + 1, 0, none⟩) (by simp) _, hKF.trans (((keeps_below hb3).trans (KeepsOthers.setCell _ _ _)).from _)⟩
        · have hcl : Geo.clashes (Geo.px pl x) (Geo.py pl x) (Geo.px pl (Geo.nxt pl x)) (Geo.py pl (Geo.nxt pl x)) (Geo.px pl y) (Geo.py pl y) (Geo.px pl (Geo.nxt pl y)) (Geo.py pl (Geo.nxt pl y)) = false := by assumption
          refine ⟨(keeps_below hb3).from _, KeepB.below hb3 hN2.lt, ?_, hF2.below hb3, hR2.below hb3, hC2.below hb3, hN2.below hb3, hI2.below hb3, hL2.below hb3, hBW.trans (hb3.mono (Nat.le_trans hsW hBW.size)), hKF.trans ((keeps_below hb3).from _)⟩
          intro j hj
          rcases List.mem_append.1 hj with h | h
          · exact hq j h
          · simp only [List.mem_singleton] at h
            subst h
            show (decide (x < j) && Geo.clashes _ _ _ _ _ _ _ _) = false
            rw [hcl]; simp
      · have hxi : ¬ ((x : Int) < (y : Int)) := by omega
        clear hsz
        gi_wp2
        refine ⟨KeepsFrom.refl _ _, KeepB.refl _ _, ?_, hF2, hR2, hC2, hN2, hI2, hL2, hBW, hKF⟩
        intro j hj
        have h9 : (decide (x < j) && Geo.clash pl x j) = false := by
          rcases List.mem_append.1 hj with h | h
          · exact hq j h
          · simp only [List.mem_singleton] at h
            subst h
            simp [hxy]
        simpa using h9
    case done2 =>
      rintro ys' W' rfl ⟨hq, hF2, hR2, hC2, hN2, hI2, hL2, hBW, hKF⟩
      gi_wp2
      refine ⟨hKF, ⟨hC2.trans hC1.symm, hBW.size⟩, ?_, hF2, hR2, hC2, hB1.trans hBW⟩
      intro i hi j hj
      rcases List.mem_append.1 hi with h | h
      · exact hp i h j hj
      · simp only [List.mem_singleton] at h
        subst h
        exact hq j (List.mem_range.2 hj)
    case stop2 =>
      rintro c pre' W' ⟨k, hk, rfl⟩ ⟨⟨rfl, j, hj, hc⟩, hF2, hBW, hKF⟩
      gi_wp2
      exact ⟨hKF, ⟨rfl, x, List.mem_append.2 (.inr (by simp)), j, Nat.lt_of_lt_of_le (List.mem_range.1 hj) hk, hc⟩, hF2, hB1.trans hBW⟩
  case done =>
    rintro D ys W hD rfl ⟨hp, hF1, hR1, hC1, hB1⟩ hK
    have cF := hF1.cell (j := 0) (v := .bool false) rfl
    have fF := hF1.free 0
    have hans := crosses_no hp
    gi_wp2
    have hF3 := hF1.set 0 (.bool false)
    have hK' := (KeepsOthers.setCell W ⟨w.heap.size + 1, 0, none⟩ (.bool false)).same D _ hK rfl
    refine ⟨by simp, .inl ⟨_, _, rfl, run_takeDeferred hK', ?_⟩⟩
    have hc5 := cell_kept (hF3.cell (j := 0) (v := .bool false) rfl) (grownBy_putObj' _ D (.deferred none)) (fun r e => by cases e; exact ⟨_, hK', rfl⟩)
    refine ⟨.bool false, ?_, by rw [hans], (hB1.setCell (p := ⟨w.heap.size + 1, 0, none⟩) (by simp) _).trans (belowK_b (w := w) (Nat.le_refl _) _ D _ _ (by omega) hK' rfl rfl)⟩
    simp [results, Try.f61, go_sem, hc5]
  case stop =>
    rintro D c pre W hD ⟨k, hk, rfl⟩ ⟨⟨rfl, i, hi, j, hj, hc⟩, hF1, hB1⟩ hK
    have hans := crosses_yes (Nat.lt_of_lt_of_le (List.mem_range.1 hi) hk) hj hc
    gi_wp2
    refine ⟨by simp, .inl ⟨_, _, rfl, run_takeDeferred hK, ?_⟩⟩
    have hc5 := cell_kept (hF1.cell (j := 0) (v := .bool true) rfl) (grownBy_putObj' _ D (.deferred none)) (fun r e => by cases e; exact ⟨_, hK, rfl⟩)
    refine ⟨.bool true, ?_, by rw [hans], hB1.trans (belowK_b (w := w) (Nat.le_refl _) W D _ _ (by omega) hK rfl rfl)⟩
    simp [results, Try.f61, go_sem, hc5]
end Go.Proofs.Ytnllhhamebmlnaa
